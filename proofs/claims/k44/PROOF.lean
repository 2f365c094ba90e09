import PyProof.Rows.All
import Wide.All
import OpenK.AllK
import Wide.FinOn
import Lean
import PyProof.EqAt
import PyProof.EqKinds
import PyProof.TupleCall
import PyProof.StationsW
import PyProof.ExcClass2
import PyProof.ExcBaseAll.ValueError
import PyProof.InstStoreFacts
import PyProof.RulesAs
import PyProof.NsDelKeeps
import PyProof.P3Eq
import PyProof.P3In
import PyProof.ReprRoads
import PyProof.StrWalks
import PyProof.ListRange
import PyProof.ListStr
import PyProof.ConsumeWalk
import PyProof.MinMaxWalk
import PyProof.NeData
import PyProof.SliceStr2
import PyProof.Rows.SortStr
import PyProof.Rows.StrJoin2
import PyProof.Rows.SeqMore
import PyProof.SeqI3
import PyProof.StrLawsIn
import PyProof.ReprBulk
import PyProof.ListMulRoad
import PyProof.StrOps2
import PySem.Challenge.RW_lostpost_k44_runs_looked_at
import PyProof.Rows.SortShellK
import KE.KSortTup
import PyProof.Rows.SetFrom
import PyProof.CollectIter
import PyProof.CollectStr
import PyProof.FactsAll.set
import KE.KDictOf
import PyProof.AttrMissHeap
import PyProof.DictWalks
import KE.KDictLaws
import PyProof.Draws
import KE.KRevIter
import PyProof.EnumStmt
import PyProof.JoinWalk
import KE.BitLaws
import PyProof.TupleOfSeq
import PySem.SetTable
import PyProof.SetScanFacts
import PyProof.TupleKey
import PyProof.IsRules
import PyProof.StrCalls6
import PyProof.StrLawsReplace
import PyProof.ExcAttrAll.ValueError
import PyProof.ExcArgs
import KE.KIsAll
import PyProof.DictRoadsH
import PyProof.ZipIter
import PyProof.EnumIter
import KE.KItemsList
import PyProof.Rows.SortRuns
open PyProof.Rows renaming AllBare->G4, assignInOrder_cons->G5, envOfC->G6, subscriptTail_builtinR->GH, subscriptTail->Tb, IntsAre->Tw
open PySem renaming wpAny_bind->Us, Value->Ut, PyData->Uu, wpAny_pure->Uv, starEach->Uw, Shared->Ux, Program->Uy, sizeLine_eq->Uz, World->U0, wpAny_field->U1, wpAny_mono->U2, assignEach->U3, wpAny_Call_Name_kw->U4, bootBuiltins->U5, compareOp->U6, wpAny_setField_rec->U7, wpAny_callSpecial?_slot->U8, Around->U9, wpAny_holding->UA, wpAny_newObj_type->UB, wpAny_truthy_bool->UC, backTo->UD, cellsFrom->UE, foldedSetIterable->UF, wpAny_loadPart_at->UG, wpAny_call_entry->UH, wpAny_pyIter_tuple->UI, attributeBase->UJ, bindArgs->UK, wpAny_execs_nil->UL, FuncData->UM, Scope->UN, swappedStores->UO, swapsWithSole->UP, wpAny_standAt->UQ, wpAny_seqItems->UR, wpAny_passesOwn->US, wpAny_pyIter_list->UT, behindInMarks->UU, NameKind->UV, binaryOp->UW, wpAny_setField->UX, sysModules->UY, swapsWith->UZ, assign->Ge, codeAny->Gi, wpAny_execs_cons->Gj, wpAny_attempt->Gk, excClassObj->Gm, setFlight->Gn, sliceBounds->Go, Keyword->Gp, codeAny_mono->Gq, noteFrame->Gr, wpAny_call->Gs, getItem->Gu, wpAny_onRaise->Gv, keywordEach->Gw, wpAny_updateSeq_pair->Gx, IsPair->Gy, letOwnedTupleGo->Gz, wpAny_isSubtype_exc->G0, wpAny_loadPart->G7, wpAny_newFunctionEnv_cells->G8, wpAny_rule->G9, codeAny_handlers_suite_as->GA, pyNext->GB, noFill_tuple_add->GC, wpAny_isInstance->GD, IsEnum->GE, IsPart->GF, spliced->GG, wpAny_typeOf->GI, cLine->GJ, field->GK, pushCells_keeps->GL, wpAny_specialOf->GM, builtinLookup_eq_fast->GN, codeAny_call_function->GO, codeAny_handlers_test->GP, wpAny_isTrue_Compare1->GQ, ZipApart->GT, backToKw->GU, codeAny_call_builtin->GV, slicePicked->GW, wpAny_letGo->GX, lastMarks->GY, valueAt->GZ, seq_tuple_add->Ta, call_meets->Tc, typeLookup->Td, BindsTo->Te, bindName->Tf, concat_meets->Tg, seqIndex_neg->Th, setItem->Ti, wpAny_mkText->Tj, Arguments->Tk, Paired->Tl, PassesOwn->Tn, raiseStmt->To, seqIndex?->Tp, IsZip->Tq, atKey->Tr, bindC->Ts, bindL->Tt, seqIndex_of->Tu, wpAny_throw->Tv, setAttr->Tx
abbrev Tz:=@of_decide_eq_true
abbrev T0:=@if_pos
abbrev TB:=@if_neg
abbrev TC:=@decide_eq_true_eq
abbrev TF:=@decide_eq_false
abbrev TH:=@decide_eq_true
abbrev TJ:=@of_decide_eq_false
abbrev TK:=@beq_self_eq_true
abbrev TL:=@if_true
abbrev TM:=@or_false
abbrev TN:=@if_false
open Array renaming getElem?_eq_some_iff->ZW, length_toList->J9, append_empty->JI, all_eq_true'->Yt, getElem?_toList->YJ, mem_toList_iff->YR, toList_inj->VD, toList->Up
open Bool renaming false_ne_true->Qo, and_eq_true->Qu, eq_iff_iff->ZP, false_eq_true->ZU, false_and->Yl, or_false->Vc, true_and->Vg, not_eq_true'->Vz, or_eq_true->VT, and_false->VY, and_assoc->Ue, false_or->Uh
open Char renaming toNat->YA
open False renaming elim->QZ
open ForInStep renaming yield->JZ
open Int renaming eq_ofNat_of_zero_le->Ql, toNat_natCast->ZI, emod_lt_of_pos->ZX, emod_nonneg->Jx, toNat_of_nonneg->Va
open List renaming length_map->Qb, length_append->Qf, getElem?_eq_getElem->Qi, length_cons->Qj, getElem?_eq_some_iff->Qk, mem_singleton->Qn, size_toArray->Qp, mem_cons_of_mem->Qq, getElem?_map->Qs, replicate->Qv, mem_cons_self->Qw, length_singleton->Qz, not_mem_nil->Q0, mem_cons->Q3, mem_append->Q6, length_take->QB, length_set->QC, map_cons->QD, getElem?_set_self->QE, append_nil->QF, map_append->QI, getElem?_set_ne->QK, length_drop->QO, mem_map->QS, mem_append_right->QT, length_replicate->QU, getElem?_eq_none->QV, getElem?_append_left->QW, drop_eq_getElem_cons->QX, mem_of_getElem?->Zm, lookup_cons_self->Zp, lookup_cons->Zu, append_assoc->Zy, getElem?_replicate->Zz, getElem?_cons_succ->Z0, getElem?_append_right->Z1, drop_eq_nil_of_le->Z4, getElem_mem->ZA, length_range->ZD, getD_eq_getElem?_getD->ZF, map_set->ZG, find?_cons->ZJ, range->ZN, nil_append->ZQ, drop_length->ZR, cons_append->ZT, getElem?_drop->ZV, mem_append_left->Jb, mem_of_mem_take->Je, filterMap_cons->Jg, take_length->Jk, lookup->Jm, take_of_length_le->Js, map_map->Jt, of_mem_zip->Jv, all_eq_true->J4, nodup_cons->JF, forIn_cons->JG, eraseIdx_cons_succ->JK, forIn_nil->JO, take_succ_eq_append_getElem->JR, eraseIdxIfInBounds_toArray->JT, mem_filter->JX, getElem?_range->Ye, mem_range->Yj, contains_cons->Yr, drop_zero->Ys, ext_getElem?->Yz, filter_cons->Y4, sublist_cons_self->YB, length_nil->YE, foldl_cons->YG, take_eq_take_min->YM, length_filter_le->YN, getElem?_mapIdx->YU, getElem?_zipIdx->YV, getLast?_concat->YW, map_congr_left->YY, length_pos_iff->YZ, any_cons->Vd, map_take->Ve, map_drop->Vf, mem_filterMap->Vh, set_cons_zero->Vr, reverse_cons->Vu, map_nil->Vv, getElem?_set->Vx, take_add_one->Vy, head?_filter->V1, pairwise_map->V5, getElem_inj->V8, getD->VG, zipIdx_cons->VJ, length->VM, zipIdx_nil->VU, length_zip->VW, filterMap->Ua, take_zero->Uf, take_nil->Uj
open List.cons renaming injEq->VS
open Nat renaming le_refl->Qm, le_trans->Q5, lt_of_lt_of_le->Q7, zero_le->QL, ne_of_lt->QP, lt_irrefl->Zj, not_lt->Z3, zero_add->ZH, le_succ->Jn, min_eq_left->Jw, lt_or_ge->J5, le_of_lt->JL, ne_of_gt->JM, le_of_succ_le->JP, toDigits->JQ, le_of_not_lt->JU, lt_succ_of_lt->Yy, le_succ_of_le->Y0, le_add_right->Y5, le_of_eq->Y9, lt_of_le_of_lt->Vk, lt_of_le_of_ne->Vn, succ_le_succ->VB, min_eq_right->VE
open Ne renaming symm->QN
open Option renaming map_eq_some_iff->Q4, none->J1, isSome_iff_exists->JA, map_some->JY, isSome_some->Yp, getD_some->Y3, getD_none->VA
open Option.some renaming inj->Zl
open PyProof.Rows renaming slot_tuple_getitem->Zo, callWith_type1->Zw, callWith_builtin1->Jj
open PyProof.Rows.IsTup renaming new->V9
open PySem renaming Spec->Qe, mem_of_lookup->Zv, SetTable->VX, call->VZ, Builtin->Uk, Str->Um
open PySem.Around renaming under->Yf, frames_deeper->YS
open PySem.AutoSeq1 renaming wpAny_loadPart'->JE
open PySem.Builtin.List renaming listTooLong->JC, listLengthHint->Yh, listSameRef->Y2
open PySem.Builtin.ObjectAttr renaming bindTo->Yw
open PySem.Builtin.Slice renaming slicePlaces->Ja, sliceAdjust->J8, sliceApplied->Yn
open PySem.Builtin.SmallTypes renaming nextOf->QJ, ownedTupleIsFree->Zh, ownedTupleHandOut->Z5
open PySem.Builtin.Str renaming occurrences->Z9, strSliceIndices->Yg, glued->V0
open PySem.Builtin.Tuple renaming tupleExact->Jf, tupleItemsOf->Yo
open PySem.Calls renaming spliced_cons->Z7, spliced_nil->Jc, Name_function_global->Yk, callWith_builtin->Y8
open PySem.Code renaming quiet_builtin->Vl, isGuard->Vs, isFrame->Vt
open PySem.EntryCells renaming newEntry->Yc
open PySem.F renaming slot_tuple_iterator_next->ZY, plainAttrs_list->Jl, plainAttrs_str->Ju, slot_enumerate_next->Jy, args_tuple_add_2->JB, entry_tuple_add->JJ, slot_tuple_add->JN, args_tuple_iterator_next_1->Ya, slot_zip_next->Yb, entry_tuple_iterator_next->Yi, args_enumerate_next_1->Y6, entry_enumerate_next->YD, slot_str_join->YK, type_str_join->YL, slot_list_pop->YO, type_list_pop->YQ, store_object->YT, args_zip_next_1->V4, entry_list_pop->VC, entry_zip_next->VL
open PySem.Heap renaming get?_push_of_some->Qc, lt_size->Qg, get?_push_size->Qt, get?_update_other->Qx, get?_update_self->QM, size_push->Zi, SameBut->Z6, IsTuple->YC, IsList->VP
open PySem.Heap.SameBut renaming update->Vb
open PySem.NameKind renaming free->Zk, cell->Zn
open PySem.Obj renaming mapFields->QQ, isFreed_of_fields->ZZ, mapSeq->Jq, data_mapFields->Jr, cls_mapFields->Vw
open PySem.Paired renaming length->Y1, snoc->Uq
open PySem.PassesOwn renaming never->YI
open PySem.PyData renaming eqv->QA, strOk->QR, canLayAll0->Zx, canLay0->ZE, eqvAll->ZK, depth->J7, depthAll->JH, int->JW, showable->YH, leavesShort->Vo, shown_int->VF, list->VN, bool->VO, shownAll->VQ, str->Uc
open PySem.PyData.tuple renaming injEq->Vq
open PySem.Shared renaming heap->J2
open PySem.Str renaming ofString->QH, length->Vj
open PySem.Txt renaming startswith->Yu, join->Ub, find3->Uo
open PySem.Value renaming ref->Q9, none->Zr, bool->ZC, type->J0, int->V6, str->V7, isStrOf->Ug
open PySem.Value.ref renaming inj->Ul
open PySem.W renaming Frag->Qa, nsIn->Qy, mg_none_of->Q8, mroIn->QG, findIn->QY, fnOf->Zq, kitOne->Zs, keepIn->Zt, Looks->ZB, mg_of->ZL, typeIn->ZM, looks_findIn->Jd, looks_mroIn->Jh, codeIn->Ji, callWith_K->Jo, cellsFrom_some->Jp, emptyDict->Jz, clsIn->JD, InstAt->JS, looks_clsIn->Yd, lookIn->Ym, kitAny->Yv, methodObj->Yx, OpenLaw->YF, codeRec_of->Vi, check_slot->Vm, looks_find->Vp, hasDictIn->V2, specialIn->V3, handedIn->VH, any_some->VI, takesIn->VR, kitCls->Ud, WalkO->Ui
open PySem.W.Looks renaming here->Z8, ld->JV
open PySem.Within renaming cons->Ur
open Sum renaming inr->Y7, inl->YX
open True renaming intro->Yq
set_option autoImplicit true
set_option relaxedAutoImplicit true
set_option Elab.async false
set_option linter.all false
set_option maxRecDepth 100000
local macro_rules|`(tactic|lia)=>`(tactic|first|with_reducible(first|assumption|exact Nat.le_refl _|exact Nat.zero_le _|exact Nat.le_of_lt ‹_›|exact Nat.le_succ_of_le ‹_›|exact Nat.lt_succ_of_lt ‹_›|exact Nat.lt_of_succ_lt ‹_›|exact Nat.lt_succ_of_le ‹_›|exact Nat.le_of_lt_succ ‹_›|exact Nat.pos_of_ne_zero ‹_›|exact Nat.ne_of_gt ‹_›|exact Nat.ne_of_lt ‹_›|exact Nat.le_of_not_lt ‹_›|exact Nat.lt_of_not_le ‹_›|exact Nat.succ_pos _|exact Nat.lt_succ_self _|exact Nat.lt_of_lt_of_le ‹_› ‹_›|exact Nat.lt_of_le_of_lt ‹_› ‹_›|exact Nat.le_trans ‹_› ‹_›)|grind -ring -linarith -ac -order -mbtc -ext -funext -funCC -etaStruct (ematch:=0) [-Prod]|cutsat)
local macro_rules|`(tactic|ac_rfl)=>`(tactic|(repeat infer_instance))
namespace L2
open PySem PySem.Spec PyProof.Rows
abbrev Key:=Sum Int Str
def zhb:Key->Ut->Bool
 | .inl k,v=>Value.isInt k v
 | .inr x,v=>Ug x v
def keyH(w:U0):Key->Int
 | .inl k=>hashInt k
 | .inr x=>hashStr w x
theorem zbq:∀{k:Key} {v:Ut},zhb k v=true->(∃i t,k=YX i/\v=V6 i t)\/(∃x t,k=Y7 x/\v=V7 x t)
 | .inl i,v,h=>by
   obtain⟨t,e⟩:=Value.isInt_shape (k:=i) (v:=v) h;exact .inl ⟨i,t,rfl,e⟩
 | .inr x,v,h=>by
   obtain⟨t,e⟩:=Value.isStrOf_shape (x:=x) (v:=v) h;exact .inr ⟨x,t,rfl,e⟩
theorem zr3(i:Int)(t:Tok):zhb (.inl i) (.int i t)=true:=by simp[zhb,Value.isInt]
theorem zsi(x:Str)(t:Tok):zhb (.inr x) (.str x t)=true:=by simp[zhb,Ug]
theorem z3o(a b:Int):decide ((YX a:Key)=YX b)=(a == b):=by
 by_cases e:a=b
 .subst e;simp
 .have h:¬(YX a:Key)=YX b:=λq=>e (Sum.inl.inj q);rw[TF h];exact(beq_eq_false_iff_ne.mpr e).symm
theorem z2d(a b:Str):decide ((Y7 a:Key)=Y7 b)=decide (a=b):=by
 by_cases e:a=b
 .subst e;simp
 .have h:¬(Y7 a:Key)=Y7 b:=λq=>e (Sum.inr.inj q);rw[TF h,TF e]
theorem z1r(a:Int)(b:Str):decide ((YX a:Key)=Y7 b)=false:=TF (λq=>nomatch q)
theorem z1m(a:Str)(b:Int):decide ((Y7 a:Key)=YX b)=false:=TF (λq=>nomatch q)
def zbn(prog:Uy)(w:U0):PySem.KeyKind prog w Key where
 is:=zhb
 hash:=keyH w
 inj:=λv a b ha hb=>by
  rcases zbq ha with ⟨i,t,rfl,rfl⟩|⟨x,t,rfl,rfl⟩
  .rcases zbq hb with ⟨j,u,rfl,e⟩|⟨y,u,rfl,e⟩
   .injection e with e1 _;rw[e1]
   .exact nomatch e
  .rcases zbq hb with ⟨j,u,rfl,e⟩|⟨y,u,rfl,e⟩
   .exact nomatch e
   .injection e with e1 _;rw[e1]
 byValue:=λk v h=>by
  rcases zbq h with ⟨i,t,rfl,rfl⟩|⟨x,t,rfl,rfl⟩ <;> rfl
 pyHash:=λhv h=>by
  rcases zbq hv with ⟨i,t,rfl,rfl⟩|⟨x,t,rfl,rfl⟩
  .exact wpAny_pyHash_int h
  .exact wpAny_pyHash_str h
 eqBool:=λhu hv h=>by
  rcases zbq hu with ⟨i,t,rfl,rfl⟩|⟨x,t,rfl,rfl⟩
  .rcases zbq hv with ⟨j,u,rfl,rfl⟩|⟨y,u,rfl,rfl⟩
   .rw[z3o] at h;exact wpAny_eqBool_int h
   .rw[z1r] at h;exact SeqAt.EqAt.int_str i t y u _ _ _ _ h
  .rcases zbq hv with ⟨j,u,rfl,rfl⟩|⟨y,u,rfl,rfl⟩
   .rw[z1m] at h;exact SeqAt.EqAt.str_int x t j u _ _ _ _ h
   .rw[z2d] at h;exact wpAny_eqBool_str h
 «strs»:=λk x t v h=>by
  rcases zbq h with ⟨i,u,rfl,e⟩|⟨y,u,rfl,e⟩
  .exact nomatch e
  .injection e with e1 _;subst e1;cases v <;> rfl
theorem zol(prog:Uy)(w:U0)(i:Int)(t:Tok):(zbn prog w).is (.inl i) (.int i t)=true:=zr3 i t
theorem zoi(prog:Uy)(w:U0)(x:Str)(t:Tok):(zbn prog w).is (.inr x) (.str x t)=true:=zsi x t
inductive V where
 | non|bl (b:Bool)|int (i:Int)|str (x:Str)|byt (b:Array UInt8)|flt (b:UInt64)|ref (a:Addr)|ty (n:String)
 deriving DecidableEq
def RelV:V->Ut->Prop
 | .non,u=>u=Zr
 | .bl b,u=>u=ZC b
 | .int i,u=>∃t,u=V6 i t
 | .str x,u=>∃t,u=V7 x t
 | .byt b,u=>∃t,u=Value.bytes b t
 | .flt b,u=>∃t,u=Value.float b t
 | .ref a,u=>u=Q9 a
 | .ty n,u=>u=J0 n
abbrev Vals:List V->List Ut->Prop:=Tl RelV
theorem Vals.length(r:Vals xs us):xs.length=us.length:=Y1 r
theorem Vals.get:∀{xs:List V} {us:List Ut} {i:Nat} {x:V},Vals xs us->xs[i]? = some x->∃u,us[i]? = some u/\RelV x u
 | _,_,_,_,.nil,e=>by simp at e
 | _,_,0,_,.cons r _,e=>by simp at e;subst e;exact⟨_,rfl,r⟩
 | _,_,i+1,x,.cons _ t,e=>by
   obtain⟨u,h1,h2⟩:=Vals.get (i:=i) (x:=x) t (by simpa using e);exact⟨u,by simpa using h1,h2⟩
theorem Vals.set(r:RelV x u):∀{xs:List V} {us:List Ut} (i:Nat),Vals xs us->Vals (xs.set i x) (us.set i u)
 | _,_,_,.nil=>.nil
 | _,_,0,.cons _ t=>.cons r t
 | _,_,i+1,.cons q t=>.cons q (Vals.set r i t)
theorem Vals.append:∀{xs ys:List V} {us ws:List Ut},Vals xs us->Vals ys ws->Vals (xs++ys) (us++ws)
 | _,_,_,_,.nil,s=>s
 | _,_,_,_,.cons r t,s=>.cons r (Vals.append t s)
theorem Vals.take:∀{xs:List V} {us:List Ut} (n:Nat),Vals xs us->Vals (xs.take n) (us.take n)
 | _,_,0,_=>.nil
 | _,_,_+1,.nil=>.nil
 | _,_,n+1,.cons r t=>.cons r (Vals.take n t)
theorem Vals.drop:∀{xs:List V} {us:List Ut} (n:Nat),Vals xs us->Vals (xs.drop n) (us.drop n)
 | _,_,0,r=>r
 | _,_,_+1,.nil=>.nil
 | _,_,n+1,.cons _ t=>Vals.drop n t
def RelO:Option V->Option Ut->Prop
 | some v,some u=>RelV v u
 | none,none=>True
 | _,_=>False
def KV{κ:Type}:List (κ×V)->List (κ×Ut)->Prop:=Tl λ(p:κ×V) (q:κ×Ut)=>p.1=q.1/\RelV p.2 q.2
def kV:Key->V
 | .inl i=>.int i
 | .inr x=>.str x
inductive HO where
 | lst (xs:List V)
 | tup (xs:List V)
 | dK (kvs:List (Key×V))|dT (kvs:List (List Key×V))
 | set (S:Int->Bool) (n:Nat)
 | ins (C dx:Addr) (fs:List (Str×V))
 | own (x:Addr)
 | xd (fs:List (Str×V))
 | met (f x:Addr)
 | rng (lo hi:Int)
 | frz (o:Obj) (u:HO)
 | tbl (ps:Array Ut)
 | ext (φ:Heap->Prop)
abbrev Hp:=Addr->Option HO
def upd(H:Hp)(a:Addr)(o:HO):Hp:=λb=>if b=a then some o else H b
theorem zaj: upd H a o a=some o:=by unfold upd;rw[T0 rfl]
theorem zae(h:b≠a):upd H a o b=H b:=by unfold upd;rw[TB h]
theorem z6a{H:Hp}{a b:Addr}{o u:HO}(h:H a=some o)(h':H b=some u)(d:o≠u):a≠b:=by
 intro e;subst e;rw[h] at h';exact d (Zl h')
theorem zcg{H:Hp}{a b:Addr}{o:HO}(h:H a=some o)(h':H b=none):a≠b:=by
 intro e;subst e;rw[h] at h';cases h'
section
variable (P:Uy)(w:U0)
def ObjOk(H:Hp)(h:Heap)(a:Addr):HO->Prop
 | .lst xs=>xs.length<=sizeLine/\∃(its:List Ut) (n:Nat),Vals xs its/\h.get? a=some { cls:=.type "list",data:=.seq its.toArray n }
 | .tup xs=>xs.length<=sizeLine/\∃its:List Ut,Vals xs its/\IsTup h a its.toArray
 | .dK kvs=>kvs.length<=sizeLine/\(a == UY)=false/\∃vs,KV kvs vs/\h.DictOf (zbn P w) a vs
 | .dT kvs=>kvs.length<=sizeLine/\(a == UY)=false/\∃xs:List (List Key×Addr×Ut),
  Tl (λ(p:List Key×V) (q:List Key×Addr×Ut)=>p.1=q.1/\H q.2.1=some (.tup (p.1.map kV))/\RelV p.2 q.2.2) kvs xs /\
  ∃o es ep,h.get? a=some o/\o.ExactDict/\o.data = .dict es ep/\es.toList=xs.map (entryOfKey (tupleKind (zbn P w)))/\(xs.map (·.1)).Nodup
 | .set S n=>h.SetOf (intKind P w) a S n
 | .ins C dx fs=>H dx=some (.own a)/\fs.length<=1000/\dx≠a/\h.get? a=some (PySem.W.instObj C dx) /\
  ∃mA,h.Ns1 dx mA/\(∀f,RelO (fs.lookup f) (mA f))/\PySem.Within mA (fs.map (·.1))
 | .own _=>∃o,h.get? a=some o
 | .xd fs=>∃mA,h.Ns1 a mA/\∀f,RelO (fs.lookup f) (mA f)
 | .rng lo hi=>∃t u v,h.get? a=some { cls:=.type "range",data:=.fields #[.int lo t,.int hi u,.int 1 v] }
 | .frz o u=>h.get? a=some o/\ObjOk H h a u
 | .tbl ps=>h.get? a=some { cls:=.none,data:=.fields ps }
 | .met f x=>h.get? a=some (Yx (.ref f) (.ref x))
 | .ext φ=>φ h/\(∃o,h.get? a=some o)/\∀h1 h2:Heap,φ h1->(∀o,h1.get? a=some o->h2.get? a=some o)->φ h2
def HOk(H:Hp)(h:Heap):Prop:=∀a o,H a=some o->ObjOk P w H h a o
end
section
variable {P:Uy}{w:U0}{H H':Hp}{h h':Heap}{a:Addr}{o:HO}
theorem ObjOk.lt(x:ObjOk P w H h a o):a<h.objs.size:=by
 cases o with
 | lst xs=>obtain⟨_,_,_,_,e⟩:=x;exact Qg e
 | tup xs=>obtain⟨_,_,_,p⟩:=x;exact p.lt
 | dK kvs=>obtain⟨_,_,_,_,o,_,_,e,_⟩:=x;exact Qg e
 | dT kvs=>obtain⟨_,_,_,_,o,_,_,e,_⟩:=x;exact Qg e
 | set S n=>obtain⟨o,_,_,_,e,_⟩:=x;exact Qg e
 | ins C dx fs=>obtain⟨_,_,_,e,_⟩:=x;exact Qg e
 | own y=>obtain⟨_,e⟩:=x;exact Qg e
 | xd fs=>obtain⟨_,⟨_,_,_,e,_⟩,_⟩:=x;exact Qg e
 | rng lo hi=>obtain⟨_,_,_,e⟩:=x;exact Qg e
 | frz ob u=>obtain⟨e,_⟩:=x;exact Qg e
 | tbl ps=>exact Qg (show h.get? a=some _ from x)
 | met f y=>exact Qg (show h.get? a=some _ from x)
 | ext φ=>obtain⟨_,⟨_,e⟩,_⟩:=x;exact Qg e
theorem Paired.mapP{α β:Type}{F G:α->β->Prop}:∀{l₁:List α} {l₂:List β},Tl F l₁ l₂->(∀a b,F a b->G a b)->Tl G l₁ l₂
 | _,_,.nil,_=>.nil
 | _,_,.cons r t,f=>.cons (f _ _ r) (Paired.mapP t f)
theorem ObjOk.stay(x:ObjOk P w H h a o)(k:∀b u,(b=a\/H b=some (.own a))->h.get? b=some u->h'.get? b=some u)
 (ho:∀b,H b=some (.own a)->H' b=some (.own a)) (ht:∀b xs,H b=some (.tup xs)->H' b=some (.tup xs)):ObjOk P w H' h' a o:=by
 induction o with
 | lst xs=>obtain⟨z,its,n,r,e⟩:=x;exact⟨z,its,n,r,k _ _ (.inl rfl) e⟩
 | tup xs=>obtain⟨z,its,r,ob,e,c⟩:=x;exact⟨z,its,r,ob,k _ _ (.inl rfl) e,c⟩
 | dK kvs=>obtain⟨z,y,vs,r,ob,es,ep,e,c⟩:=x;exact⟨z,y,vs,r,ob,es,ep,k _ _ (.inl rfl) e,c⟩
 | dT kvs=>
   obtain⟨z,y,xs,r,ob,es,ep,e,c⟩:=x;exact⟨z,y,xs,Paired.mapP r λp q z=>⟨z.1,ht _ _ z.2.1,z.2.2⟩,ob,es,ep,k _ _ (.inl rfl) e,c⟩
 | set S n=>obtain⟨ob,es,ep,t,e,c⟩:=x;exact⟨ob,es,ep,t,k _ _ (.inl rfl) e,c⟩
 | ins C dx fs=>
   obtain⟨d,z,ne,e,mA,⟨od,es,ep,e2,c⟩,r⟩:=x;exact⟨ho _ d,z,ne,k _ _ (.inl rfl) e,mA,⟨od,es,ep,k _ _ (.inr d) e2,c⟩,r⟩
 | own y=>obtain⟨ob,e⟩:=x;exact⟨ob,k _ _ (.inl rfl) e⟩
 | xd fs=>obtain⟨mA,⟨od,es,ep,e,c⟩,r⟩:=x;exact⟨mA,⟨od,es,ep,k _ _ (.inl rfl) e,c⟩,r⟩
 | rng lo hi=>obtain⟨t,u,v,e⟩:=x;exact⟨t,u,v,k _ _ (.inl rfl) e⟩
 | frz ob u ih=>obtain⟨e,q⟩:=x;exact⟨k _ _ (.inl rfl) e,ih q⟩
 | tbl ps=>
   have e:h.get? a=some { cls:=.none,data:=.fields ps }:=x;show h'.get? a=some { cls:=.none,data:=.fields ps };exact k a _ (.inl rfl) e
 | met f y=>
   have e:h.get? a=some (Yx (.ref f) (.ref y)):=x;show h'.get? a=some (Yx (.ref f) (.ref y));exact k a _ (.inl rfl) e
 | ext φ=>obtain⟨p,⟨o,e⟩,st⟩:=x;exact⟨st _ _ p λo q=>k _ _ (.inl rfl) q,⟨o,k _ _ (.inl rfl) e⟩,st⟩
theorem HOk.lt(x:HOk P w H h)(e:H a=some o):a<h.objs.size:=(x a o e).lt
theorem HOk.fresh(x:HOk P w H h)(e:h.objs.size<=a):H a=none:=by
 cases q:H a with
 | none=>rfl
 | some u=>exact absurd (Q7 (x.lt q) e) (Zj _)
theorem HOk.kept(x:HOk P w H h)(k:∀b u,h.get? b=some u->h'.get? b=some u):HOk P w H h':=λa o e=>
 (x a o e).stay (λb u _ q=>k b u q) (λ_ q=>q) λ_ _ q=>q
theorem HOk.laid(x:HOk P w H h)(k:∀b u,h.get? b=some u->h'.get? b=some u)(hp:h.objs.size<=a)(new:ObjOk P w (upd H a o) h' a o):HOk P w (upd H a o) h':=λb u e=>by
 have hn:=x.fresh hp
 by_cases hb:b=a
 .subst hb;rw[zaj] at e;cases e;exact new
 .rw[zae hb] at e;exact(x b u e).stay (λc v _ q=>k c v q) (λc q=>by rw[zae (zcg q hn)];exact q) λc xs q=>by rw[zae (zcg q hn)];exact q
end
def Rd(H:Hp)(a:Addr)(u:HO):Prop:=H a=some u\/∃o,H a=some (.frz o u)
theorem Rd.ok{w:U0}{h:Heap}(r:Rd H a u)(x:HOk P w H h):ObjOk P w H h a u:=by
 rcases r with r|⟨o,r⟩
 .exact x a u r
 .obtain⟨_,q⟩:=x a _ r;exact q
def Mut:Option HO->Prop
 | some (.lst _)=>True
 | some (.dK _)=>True
 | some (.dT _)=>True
 | some (.set _ _)=>True
 | some (.ins _ _ _)=>True
 | some (.ext _)=>True
 | _=>False
section
variable {P:Uy}{w:U0}{H:Hp}{h h':Heap}{x e:Addr}{o':HO}
theorem HOk.write(ok:HOk P w H h)(mu:Mut (H x))(he:e=x\/H e=some (.own x))(k:∀b u,b≠e->h.get? b=some u->h'.get? b=some u)(heo:∃u,h'.get? e=some u)
 (new:ObjOk P w (upd H x o') h' x o'):HOk P w (upd H x o') h':=λb u q=>by
 have nown:∀c y,H c=some (.own y)->c≠x:=λc y r z=>by subst z;rw[r] at mu;exact mu
 have ntup:∀c xs,H c=some (.tup xs)->c≠x:=λc xs r z=>by subst z;rw[r] at mu;exact mu
 by_cases hb:b=x
 .subst hb;rw[zaj] at q;cases q;exact new
 .rw[zae hb] at q
  by_cases hbe:b=e
  .have q':H b=some (.own x):=by
    rcases he with z|z
    .exact absurd (hbe.trans z) hb
    .rw[hbe];exact z
   rw[q] at q';cases q';obtain⟨v,hv⟩:=heo;exact⟨v,by rw[hbe];exact hv⟩
  .refine(ok b u q).stay (λc v hc r=>k c v ?_ r) (λc r=>by rw[zae (nown c b r)];exact r) λc xs r=>by rw[zae (ntup c xs r)];exact r
   rcases hc with rfl|hc
   .exact hbe
   .rintro rfl;rcases he with z|z
    .exact nown c b hc z
    .rw[hc] at z;cases z;exact hb rfl
end
structure Un(fs ex:List Addr)(H H':Hp)(h h':Heap):Prop where
 keep:∀b o,h.get? b=some o->H b=none->b ∉ fs->b ∉ ex->h'.get? b=some o
 slot:∀b o,h.get? b=some o->H b=none->b∈fs->b ∉ ex->∃sl,h'.get? b=some { o with slots:=sl }
 free:∀b o,h.get? b=some o->H b=none->b ∉ ex->H' b=none
 there:∀b o,h.get? b=some o->b ∉ ex->∃o',h'.get? b=some o'
 tups:∀b xs,H b=some (.tup xs)->H' b=some (.tup xs)
 frzs:∀b o u,H b=some (.frz o u)->H' b=some (.frz o u)
 tbls:∀b ps,H b=some (.tbl ps)->∃more,H' b=some (.tbl (ps++more))
section
variable {fs fs' ex ex':List Addr}{H H1 H2:Hp}{h h1 h2 h':Heap}{a x e:Addr}{o:HO}
theorem Un.any(u:Un fs ex H H1 h h1)(q:h.get? b=some ob)(n:H b=none)(hx:b ∉ ex):∃sl,h1.get? b=some { ob with slots:=sl }:=by
 by_cases hb:b∈fs
 .exact u.slot b ob q n hb hx
 .exact⟨ob.slots,u.keep b ob q n hb hx⟩
theorem Un.kept(k:∀b u,h.get? b=some u->h'.get? b=some u):Un fs ex H H h h' :=
 ⟨λb ob q _ _ _=>k b ob q,λb ob q _ _ _=>⟨ob.slots,k b ob q⟩,λ_ _ _ n _=>n,λb ob q _=>⟨ob,k b ob q⟩,λ_ _ q=>q,λ_ _ _ q=>q,λ_ ps q=>⟨#[],by rw[q];simp⟩⟩
theorem Un.refl:Un fs ex H H h h:=Un.kept λ_ _ q=>q
theorem Un.laid(k:∀b u,h.get? b=some u->h'.get? b=some u)(hp:h.objs.size<=a)(hn:H a=none):Un fs ex H (upd H a o) h h' where
 keep:=λb u q _ _ _=>k b u q
 slot:=λb u q _ _ _=>⟨u.slots,k b u q⟩
 free:=λb u q n _=>by rw[zae (QP (Q7 (Qg q) hp))];exact n
 there:=λb u q _=>⟨u,k b u q⟩
 tups:=λb xs q=>by rw[zae (zcg q hn)];exact q
 frzs:=λb u xs q=>by rw[zae (zcg q hn)];exact q
 tbls:=λb ps q=>⟨#[],by rw[zae (zcg q hn),q];simp⟩
theorem Un.write(mu:Mut (H x))(he:e=x\/H e=some (.own x))(k:∀b u,b≠e->h.get? b=some u->h'.get? b=some u)(heo:∃u,h'.get? e=some u):Un fs ex H (upd H x o) h h':=by
 have hx:∀b,H b=none->b≠x:=λb n z=>by subst z;rw[n] at mu;exact mu
 have hb:∀b,H b=none->b≠e:=λb n z=>by
  subst z;rcases he with r|r
  .exact hx b n r
  .rw[n] at r;cases r
 have hm:∀b u,H b=some u->¬Mut (some u)->b≠x:=λb u q nm z=>by subst z;rw[q] at mu;exact nm mu
 refine⟨λb u q n _ _=>k b u (hb b n) q,λb u q n _ _=>⟨u.slots,k b u (hb b n) q⟩,λb u q n _=>by rw[zae (hx b n)];exact n,λb u q _=>?_,
  λb xs q=>by rw[zae (hm b _ q λz=>z)];exact q,λb u xs q=>by rw[zae (hm b _ q λz=>z)];exact q,λb ps q=>⟨#[],by rw[zae (hm b _ q λz=>z),q];simp⟩⟩
 by_cases hbe:b=e
 .subst hbe;exact heo
 .exact⟨u,k b u hbe q⟩
end
def trk(h:Heap)(H:Hp):List Addr:=(ZN h.objs.size).filter λa=>(H a).isSome
def hidT(h:Heap)(H:Hp):Heap:=PySem.W.hideAll h (trk h H)
theorem ztr(h:Heap)(H:Hp):(hidT h H).objs.size=h.objs.size:=PySem.W.hideAll_size _ _
theorem zvu{h:Heap}(e:h.get? b=some o)(n:H b=none):(hidT h H).get? b=some o :=
 PySem.W.hideAll_get _ e λhm=>by
  have q:(H b).isSome=true:=(JX.mp hm).2;rw[n] at q;simp at q
theorem zy7{h:Heap}(e:(hidT h H).get? b=some o):h.get? b=some o/\H b=none:=by
 have e':h.get? b=some o:=PySem.W.of_hideAll (trk h H) e;refine⟨e',?_⟩
 cases q:H b with
 | none=>rfl
 | some x=>
   have hm:b∈trk h H:=JX.mpr ⟨Yj.mpr (Qg e'),by simp[q]⟩;have z:(hidT h H).get? b=none:=PySem.W.hideAll_none (trk h H) hm;rw[z] at e;cases e
structure Mod(K:Qa)(mg:Str->Option Ut)(base:Heap):Prop where
 kin:K.In base
 glob:base.Ns mainGlobals mg
 blt:∃mb,base.Ns builtinsNs mb/\∀x:Str,x ≠ "__name__" -> mb x=U5 x
 nolimit:base.NoLimit
structure Cx where
 prog:Uy
 w:U0
 K:Qa
 mg:Str->Option Ut
 base:Heap
 A:U9
 N:List Str
 s₀:Ux
 H₀:Hp
 env:Env
 outer:List Env
 stack:List Env
 ex:List Addr
 fn:Str->Bool
 calm:Bool
 pn:List (Addr×Obj)
 xe:Ut->Ux->Prop
def frs(l:List Env):List Addr:=l.filterMap (·.frame)
abbrev Cx.fs(X:Cx):List Addr:=frs X.outer
def Vis(sc:UN)(x:Str):Prop:=sc.names.lookup x=some .local\/sc.names.lookup x=some .cell\/sc.names.lookup x=some .free
def Loc(sc:UN)(x:Str):Prop:=sc.names.lookup x=some .local\/sc.names.lookup x=some .cell
def Look(env:Env)(h:Heap)(m:Str->Option Ut)(x:Str)(u:Ut):Prop :=
 (env.kindOf x=some .local/\m x=some u)\/((env.kindOf x=some .cell\/env.kindOf x=some .free)/\∃c,env.cells.lookup x=some c/\h.IsCell c (some u))
structure Cx.Ok(X:Cx):Prop where
 mod:Mod X.K X.mg X.base
 kind:X.env.scope.kind = .function
 glob:X.env.globals=mainGlobals
 blt:X.env.builtins=builtinsNs
 above:X.s₀.heap.objs.size<=X.env.locals
 inj:∀x y c,X.env.cells.lookup x=some c->X.env.cells.lookup y=some c->x=y
 has:∀x,(X.env.kindOf x=some .cell\/X.env.kindOf x=some .free)->∃c,X.env.cells.lookup x=some c
 cab:∀x c,X.fn x=true->X.env.cells.lookup x=some c->X.s₀.heap.objs.size<=c
 hd:X.calm=true->X.A.handled=none
 frames:X.A.frames=some X.stack
 stk:X.stack=X.outer\/(X.stack=X.env::X.outer/\X.env.frame=some X.env.locals)
 exf:∀b∈X.ex,b≠X.env.locals/\∀x c,X.env.cells.lookup x=some c->c≠b
 bs:∀b o,X.base.get? b=some o->X.s₀.heap.get? b=some o/\X.H₀ b=none
 bsz:X.base.objs.size<=X.s₀.heap.objs.size
 noex:∀b o,X.base.get? b=some o->b ∉ X.ex
 exfs:∀b∈X.ex,b ∉ X.fs
 funs:X.s₀.heap.FunFrames X.base X.outer
 frf:∀b∈X.fs,X.H₀ b=none
structure Inv(X:Cx)(pins:List (Addr×Obj))(σ:List (Option V))(H:Hp)(s:Ux):Prop where
 ok:X.Ok
 os:s.os=X.s₀.os
 bare:G4 s.gens
 base:Un X.fs X.ex X.H₀ H X.s₀.heap s.heap
 loc:∃m,s.heap.Ns X.env.locals m/\∀(i:Nat) (x:Str) (v:V),X.N[i]? = some x->σ[i]? = some (some v)->Vis X.env.scope x->∃u,RelV v u/\Look X.env s.heap m x u
 cell:∀x c,X.env.cells.lookup x=some c->∃v,s.heap.IsCell c v
 free:H X.env.locals=none
 freeC:∀x c,X.env.cells.lookup x=some c->H c=none
 pin:∀p∈X.pn++pins,s.heap.get? p.1=some p.2/\H p.1=none/\p.1≠X.env.locals/\p.1 ∉ X.fs/\∀v,p.2.data≠.cell v
 hok:HOk X.prog X.w H s.heap
 len:σ.length=X.N.length
section
variable {X:Cx}{pins:List (Addr×Obj)}{σ:List (Option V)}{H H':Hp}{s:Ux}{h':Heap}
theorem Cx.Ok.nofr(ok:X.Ok)(e:X.base.get? b=some o):b ∉ X.fs:=λhb=>by
 have:=(ok.funs.mem hb).1;rw[e] at this;cases this
theorem Inv.bs(I:Inv X pins σ H s):∀b o,X.base.get? b=some o->s.heap.get? b=some o/\H b=none:=λb o e=>
 ⟨I.base.keep b o (I.ok.bs b o e).1 (I.ok.bs b o e).2 (I.ok.nofr e) (I.ok.noex b o e),I.base.free b o (I.ok.bs b o e).1 (I.ok.bs b o e).2 (I.ok.noex b o e)⟩
theorem Inv.bk(I:Inv X pins σ H s):∀b o,X.base.get? b=some o->s.heap.get? b=some o:=λb o e=>(I.bs b o e).1
theorem Inv.mod(I:Inv X pins σ H s):Mod X.K X.mg X.base:=I.ok.mod
theorem Inv.kIn(I:Inv X pins σ H s):X.K.In s.heap:=I.ok.mod.kin.keeps I.bk
theorem Inv.lt(I:Inv X pins σ H s):X.env.locals<s.heap.objs.size:=let ⟨_,hn,_⟩:=I.loc;hn.lt
theorem Inv.sz(I:Inv X pins σ H s):X.s₀.heap.objs.size<=s.heap.objs.size:=Q5 I.ok.above (JL I.lt)
theorem Inv.nofs(I:Inv X pins σ H s)(h:s.heap.objs.size<=a):a ∉ X.fs:=λhb=>by
 obtain⟨_,o,ho,_⟩:=I.ok.funs.mem hb;exact absurd (Q7 (Qg ho) (Q5 I.sz h)) (Zj _)
theorem Inv.cne(I:Inv X pins σ H s):∀x c,X.env.cells.lookup x=some c->c≠X.env.locals:=λx c e z=>by
 obtain⟨v,o,ho,hd⟩:=I.cell x c e;obtain⟨m,⟨o',es,ep,ho',hd',_⟩,_⟩:=I.loc;rw[z,ho'] at ho;cases ho;rw[hd'] at hd;cases hd
theorem Inv.funs(I:Inv X pins σ H s):s.heap.FunFrames X.base X.outer:=by
 have all:∀(l:List Env),(∀b∈frs l,b∈X.fs)->X.s₀.heap.FunFrames X.base l->s.heap.FunFrames X.base l:=by
  intro l
  induction l with
  | nil=>intro _ _;trivial
  | cons env r ih=>
    intro hs hl;obtain⟨hk,⟨L,o,hf,hn,ho,hd⟩,hr⟩:=hl;have hL:L∈X.fs:=hs L (by unfold frs;rw[Jg,hf];exact Qw);obtain⟨sl,e⟩:=I.base.slot L o ho (I.ok.frf L hL) hL λz=>I.ok.exfs L z hL;exact⟨hk,⟨L,_,hf,hn,e,hd⟩,ih (λb hb=>hs b (by unfold frs;rw[Jg,hf];exact Qq _ hb)) hr⟩
 exact all X.outer (λ_ hb=>hb) I.ok.funs
theorem Inv.stack(I:Inv X pins σ H s):s.heap.FunFrames X.base X.stack:=by
 rcases I.ok.stk with e|⟨e,hf⟩
 .rw[e];exact I.funs
 .rw[e];obtain⟨m,hn,_⟩:=I.loc;refine .cons (by rw[I.ok.kind];decide) hf hn ?_ I.funs;exact Heap.get?_none_of_le (Q5 I.ok.bsz I.ok.above)
theorem Inv.stkSub(I:Inv X pins σ H s):∀b∈frs X.stack,b∈X.env.locals::X.fs:=λb hb=>by
 rcases I.ok.stk with e|⟨e,hf⟩
 .rw[e] at hb;exact Qq _ hb
 .rw[e] at hb;unfold frs at hb;rw[Jg,hf] at hb;exact hb
theorem Inv.stkFree(I:Inv X pins σ H s):∀b∈frs X.stack,H b=none:=λb hb=>by
 rcases Q3.mp (I.stkSub b hb) with e|hb
 .rw[e];exact I.free
 .obtain⟨_,o,ho,_⟩:=I.ok.funs.mem hb;exact I.base.free b o ho (I.ok.frf b hb) λz=>I.ok.exfs b z hb
theorem Inv.step{g':Array GenState}{t':Nat}{d':Drawn}{ch:List Addr}(I:Inv X pins σ H s)
 (hch:∀b∈ch,(b∈X.ex\/X.s₀.heap.objs.size<=b)/\b≠X.env.locals/\(∀x c,X.env.cells.lookup x=some c->c≠b)/\∀p∈X.pn++pins,p.1≠b)
 (keep:∀b o,b≠X.env.locals->b ∉ X.fs->b ∉ ch->s.heap.get? b=some o->H b=none->h'.get? b=some o)
 (slot:∀b o,b≠X.env.locals->b∈X.fs->b ∉ ch->s.heap.get? b=some o->H b=none->∃sl,h'.get? b=some { o with slots:=sl }) (free:∀b o,b ∉ ch->s.heap.get? b=some o->H b=none->H' b=none)
 (there:∀b o,b ∉ ch->s.heap.get? b=some o->∃o',h'.get? b=some o')
 (tups:∀b xs,H b=some (.tup xs)->H' b=some (.tup xs)) (frzs:∀b o u,H b=some (.frz o u)->H' b=some (.frz o u)) (tbls:∀b ps,H b=some (.tbl ps)->∃more,H' b=some (.tbl (ps++more)))
 (ns:∀m,s.heap.Ns X.env.locals m->h'.Ns X.env.locals m) (hok:HOk X.prog X.w H' h') (hg:G4 g') :
 Inv X pins σ H' { s with heap:=h',gens:=g',drawn:=d',toks:=t' }:=by
 have neL:∀b o,X.s₀.heap.get? b=some o->b≠X.env.locals:=λb o e=>QP (Q7 (Qg e) I.ok.above)
 have neC:∀b o,X.s₀.heap.get? b=some o->b ∉ X.ex->b ∉ ch:=λb o e hx hb=>by
  rcases(hch b hb).1 with z|z
  .exact hx z
  .exact absurd (Q7 (Qg e) z) (Zj _)
 have cellK:∀x c,X.env.cells.lookup x=some c->∀v,s.heap.IsCell c v->h'.IsCell c v:=λx c e v ⟨o,ho,hd⟩=>by
  have nch:c ∉ ch:=λz=>(hch c z).2.2.1 x c e rfl
  by_cases hc:c∈X.fs
  .obtain⟨sl,q⟩:=slot c o (I.cne x c e) hc nch ho (I.freeC x c e);exact⟨_,q,hd⟩
  .exact⟨o,keep c o (I.cne x c e) hc nch ho (I.freeC x c e),hd⟩
 refine⟨I.ok,I.os,hg,⟨λb o e n hb hx=>?_,λb o e n hb hx=>?_,λb o e n hx=>?_,λb o e hx=>?_,λb xs e=>tups b xs (I.base.tups b xs e),λb o xs e=>frzs b o xs (I.base.frzs b o xs e),λb ps e=>?_⟩,?_,λx c e=>?_,?_,λx c e=>?_,λp hp=>?_,hok,I.len⟩
 .exact keep b o (neL b o e) hb (neC b o e hx) (I.base.keep b o e n hb hx) (I.base.free b o e n hx)
 .obtain⟨sl,e1⟩:=I.base.slot b o e n hb hx;obtain⟨sl',e2⟩:=slot b _ (neL b o e) hb (neC b o e hx) e1 (I.base.free b o e n hx);exact⟨sl',e2⟩
 .obtain⟨o',e1⟩:=I.base.there b o e hx;exact free b o' (neC b o e hx) e1 (I.base.free b o e n hx)
 .obtain⟨o',e1⟩:=I.base.there b o e hx;exact there b o' (neC b o e hx) e1
 .obtain⟨m1,e1⟩:=I.base.tbls b ps e;obtain⟨m2,e2⟩:=tbls b _ e1;exact⟨m1++m2,by rw[e2,Array.append_assoc]⟩
 .obtain⟨m,hn,hl⟩:=I.loc;refine⟨m,ns m hn,λi x v e1 e2 e3=>?_⟩;obtain⟨u,r,l⟩:=hl i x v e1 e2 e3;refine⟨u,r,?_⟩;rcases l with l|⟨k,c,e,z⟩
  .exact .inl l
  .exact .inr ⟨k,c,e,cellK x c e _ z⟩
 .obtain⟨v,z⟩:=I.cell x c e;exact⟨v,cellK x c e v z⟩
 .obtain⟨m,⟨o,_,_,ho,_⟩,_⟩:=I.loc;exact free _ o (λz=>(hch _ z).2.1 rfl) ho I.free
 .obtain⟨v,o,ho,hd⟩:=I.cell x c e;exact free c o (λz=>(hch c z).2.2.1 x c e rfl) ho (I.freeC x c e)
 .obtain⟨e,n,ne,nf,d⟩:=I.pin p hp;have nch:p.1 ∉ ch:=λz=>(hch p.1 z).2.2.2 p hp rfl;exact⟨keep p.1 p.2 ne nf nch e n,free p.1 p.2 nch e n,ne,nf,d⟩
theorem Inv.un{t':Nat}(I:Inv X pins σ H s)(u:Un X.fs [] H H' s.heap h')(hok:HOk X.prog X.w H' h'):Inv X pins σ H' { s with heap:=h',toks:=t' }:=by
 obtain⟨m,⟨o,es,ep,ho,r⟩,_⟩:=id I.loc;obtain⟨sl,hL⟩:=u.any ho I.free (by simp)
 exact I.step (g':=s.gens) (d':=s.drawn) (ch:=[]) (λ_ z=>nomatch z) (λb o _ hb _ e n=>u.keep b o e n hb (by simp)) (λb o _ hb _ e n=>u.slot b o e n hb (by simp)) (λb o _ e n=>u.free b o e n (by simp)) (λb o _ e=>u.there b o e (by simp)) u.tups u.frzs u.tbls (λm' hm=>by
  obtain⟨o',es',ep',ho',r'⟩:=hm;rw[ho] at ho';cases ho'
  exact⟨_,es',ep',hL,r'⟩) hok I.bare
theorem Inv.call{t':Nat}(I:Inv X pins σ H s)(u:Un (frs X.stack) ch H H' s.heap h')(hok:HOk X.prog X.w H' h')(hg:G4 g')
 (hch:∀b∈ch,(b∈X.ex\/X.s₀.heap.objs.size<=b)/\b≠X.env.locals/\(∀x c,X.env.cells.lookup x=some c->c≠b)/\∀p∈X.pn++pins,p.1≠b) :
 Inv X pins σ H' { s with heap:=h',gens:=g',drawn:=d',toks:=t' }:=by
 obtain⟨m,⟨o,es,ep,ho,r⟩,_⟩:=id I.loc;obtain⟨sl,hL⟩:=u.any ho I.free λz=>(hch _ z).2.1 rfl
 exact I.step (ch:=ch) hch (λb o hL hb hc e n=>u.keep b o e n (λz=>(Q3.mp (I.stkSub b z)).elim hL hb) hc) (λb o _ _ hc e n=>u.any e n hc) (λb o hc e n=>u.free b o e n hc) (λb o hc e=>u.there b o e hc) u.tups u.frzs u.tbls (λm' hm=>by
  obtain⟨o',es',ep',ho',r'⟩:=hm;rw[ho] at ho';cases ho'
  exact⟨_,es',ep',hL,r'⟩) hok hg
theorem Inv.turned{t':Nat}(I:Inv X pins σ H s)(k:∀b o,b≠it->s.heap.get? b=some o->h'.get? b=some o)(hn:H it=none)(hL:it≠X.env.locals)
 (h1:it∈X.ex\/X.s₀.heap.objs.size<=it) (h2:∀x c,X.env.cells.lookup x=some c->c≠it) (h3:∀p∈X.pn++pins,p.1≠it):Inv X pins σ H { s with heap:=h',toks:=t' }:=by
 have nit:∀b u,H b=some u->b≠it:=λb u e z=>by rw[z,hn] at e;cases e
 refine I.step (g':=s.gens) (d':=s.drawn) (ch:=[it]) (λb hb=>?_) (λb o _ _ hc e _=>k b o (λz=>hc (by simp[z])) e) (λb o _ _ hc e _=>⟨o.slots,k b o (λz=>hc (by simp[z])) e⟩) (λ_ _ _ _ n=>n)
  (λb o hc e=>⟨o,k b o (λz=>hc (by simp[z])) e⟩) (λ_ _ e=>e) (λ_ _ _ e=>e) (λb ps e=>⟨#[],by rw[e];simp⟩) (λm hm=>?_) (λb u e=>?_) I.bare
 .have e:b=it:=by simpa using hb
  subst e;exact⟨h1,hL,h2,h3⟩
 .obtain⟨o,es,ep,ho,r⟩:=hm;exact⟨o,es,ep,k _ o (QN hL) ho,r⟩
 .refine(I.hok b u e).stay (λc v hc q=>k c v ?_ q) (λ_ q=>q) λ_ _ q=>q;rcases hc with z|z
  .rw[z];exact nit b u e
  .exact nit c _ z
theorem Inv.tok(I:Inv X pins σ H s)(t:Nat):Inv X pins σ H { s with toks:=t }:=I.un (h':=s.heap) (t':=t) Un.refl I.hok
theorem Inv.kept{t':Nat}(I:Inv X pins σ H s)(k:∀b u,s.heap.get? b=some u->h'.get? b=some u):Inv X pins σ H { s with heap:=h',toks:=t' }:=I.un (Un.kept k) (I.hok.kept k)
theorem Inv.laid{t':Nat}(I:Inv X pins σ H s)(k:∀b u,s.heap.get? b=some u->h'.get? b=some u)(hp:s.heap.objs.size<=a)(new:ObjOk X.prog X.w (upd H a o) h' a o):
 Inv X pins σ (upd H a o) { s with heap:=h',toks:=t' }:=I.un (Un.laid k hp (I.hok.fresh hp)) (I.hok.laid k hp new)
theorem Inv.write{t':Nat}(I:Inv X pins σ H s)(mu:Mut (H x))(he:e=x\/H e=some (.own x))(k:∀b u,b≠e->s.heap.get? b=some u->h'.get? b=some u)(heo:∃u,h'.get? e=some u)
 (new:ObjOk X.prog X.w (upd H x o) h' x o):Inv X pins σ (upd H x o) { s with heap:=h',toks:=t' }:=I.un (Un.write mu he k heo) (I.hok.write mu he k heo new)
theorem Inv.weak(I:Inv X pins σ H s)(hl:σ'.length=σ.length)(w:∀(i:Nat) v,σ'[i]? = some (some v)->σ[i]? = some (some v)):Inv X pins σ' H s :=
 ⟨I.ok,I.os,I.bare,I.base,let ⟨m,hn,hl'⟩:=I.loc;⟨m,hn,λi x v e1 e2 e3=>hl' i x v e1 (w i v e2) e3⟩,I.cell,I.free,I.freeC,I.pin,I.hok,hl.trans I.len⟩
theorem Inv.pins_of{pins':List (Addr×Obj)}(I:Inv X pins σ H s)(h:∀p∈pins',s.heap.get? p.1=some p.2/\H p.1=none/\p.1≠X.env.locals/\p.1 ∉ X.fs/\∀v,p.2.data≠.cell v):Inv X pins' σ H s :=
 ⟨I.ok,I.os,I.bare,I.base,I.loc,I.cell,I.free,I.freeC,λp hp=>(Q6.mp hp).elim (λz=>I.pin p (Jb _ z)) (h p),I.hok,I.len⟩
theorem znz{N:List Str}(hN:N.Nodup){i j:Nat}{x:Str}(a:N[i]? = some x)(b:N[j]? = some x):i=j:=by
 obtain⟨h1,e1⟩:=Qk.mp a;obtain⟨h2,e2⟩:=Qk.mp b;exact(V8 hN).mp (e1.trans e2.symm)
theorem zlh{i:Nat}(I:Inv X pins σ H s)(hN:X.N.Nodup)(hi:X.N[i]? = some x)(hx:Loc X.env.scope x)(r:RelV v u)
 (h:∀s',Inv X pins (σ.set i (some v)) H s'->(∃a,Z6 a s.heap s'.heap/\(a=X.env.locals\/X.env.cells.lookup x=some a))->Q () s') (hf:X.fn x=true\/X.env.scope.names.lookup x=some .local:=by first|exact .inl rfl|exact .inr rfl|assumption):wpAny M A (storeName X.env x u) Q E s:=by
 obtain⟨m,hn,hl⟩:=id I.loc;have hcls:(X.env.scope.kind == .class || (X.env.scope.kind == .module && X.env.locals != X.env.globals))=false:=by rw[I.ok.kind];rfl
 have hiσ:i<σ.length:=by rw[I.len];exact(Qk.mp hi).1
 have cne:=I.cne
 have tracked:∀{a:Addr} {h':Heap},(∃o,s.heap.get? a=some o/\H a=none)->Z6 a s.heap h'->HOk X.prog X.w H h':=λ{a h'} ha hs b ob e=>by
  obtain⟨_,_,hfree⟩:=ha;refine(I.hok b ob e).stay (λc w' hc q=>(hs.2 c ?_).trans q) (λ_ q=>q) λ_ _ q=>q;rintro rfl;rcases hc with rfl|hc
  .rw[hfree] at e;cases e
  .rw[hfree] at hc;cases hc
 rcases hx with hk|hk
 .refine wpAny_storeName_local hk hn (λh' hn' hs=>?_) hcls;obtain⟨oL,_,_,hoL,_⟩:=id hn;refine h _ ⟨I.ok,I.os,I.bare,⟨λb o e n hb hx=>?_,λb o e n hb hx=>?_,I.base.free,λb o e hx=>?_,I.base.tups,I.base.frzs,I.base.tbls⟩,⟨_,hn',λj y v' e1 e2 e3=>?_⟩,λy c e=>?_,I.free,I.freeC,λp hp=>?_,tracked ⟨oL,hoL,I.free⟩ hs,by simpa using I.len⟩ ⟨_,hs,.inl rfl⟩
  .exact(hs.2 b (QP (Q7 (Qg e) I.ok.above))).trans (I.base.keep b o e n hb hx)
  .obtain⟨sl,e1⟩:=I.base.slot b o e n hb hx;exact⟨sl,(hs.2 b (QP (Q7 (Qg e) I.ok.above))).trans e1⟩
  .obtain⟨o',e1⟩:=I.base.there b o e hx;exact⟨o',(hs.2 b (QP (Q7 (Qg e) I.ok.above))).trans e1⟩
  .by_cases hj:j=i
   .subst hj;rw[hi] at e1;cases e1;rw[QE hiσ] at e2;cases e2;exact⟨u,r,.inl ⟨hk,by simp⟩⟩
   .rw[QK (QN hj)] at e2;obtain⟨u',r',q⟩:=hl j y v' e1 e2 e3;refine⟨u',r',?_⟩;rcases q with ⟨k,e⟩|⟨k,c,e,z⟩
    .refine .inl ⟨k,?_⟩;have:y≠x:=λe=>hj (znz hN e1 (e ▸ hi));simp[this,e]
    .exact .inr ⟨k,c,e,z.sameBut hs (cne y c e)⟩
  .obtain⟨w',z⟩:=I.cell y c e;exact⟨w',z.sameBut hs (cne y c e)⟩
  .obtain⟨e,n,ne,nf,d⟩:=I.pin p hp;exact⟨(hs.2 p.1 ne).trans e,n,ne,nf,d⟩
 .have hfn:X.fn x=true:=by
   rcases hf with z|z
   .exact z
   .rw[z] at hk;cases hk
  obtain⟨c,hc⟩:=I.ok.has x (.inl hk);obtain⟨w',z⟩:=I.cell x c hc;refine wpAny_storeName_cell I.ok.kind hk hc z (λh' hc' hs=>?_);obtain⟨oc,hoc,hocd⟩:=id z;refine h { s with heap:=h' } ⟨I.ok,I.os,I.bare,⟨λb o e n hb hx=>?_,λb o e n hb hx=>?_,I.base.free,λb o e hx=>?_,I.base.tups,I.base.frzs,I.base.tbls⟩,⟨m,hn.sameBut hs (QN (cne x c hc)),λj y v' e1 e2 e3=>?_⟩,λy c' e=>?_,I.free,I.freeC,λp hp=>?_,tracked ⟨oc,hoc,I.freeC x c hc⟩ hs,by simpa using I.len⟩ ⟨c,hs,.inr hc⟩
  .exact(hs.2 b (QP (Q7 (Qg e) (I.ok.cab x c hfn hc)))).trans (I.base.keep b o e n hb hx)
  .obtain⟨sl,e1⟩:=I.base.slot b o e n hb hx;exact⟨sl,(hs.2 b (QP (Q7 (Qg e) (I.ok.cab x c hfn hc)))).trans e1⟩
  .obtain⟨o',e1⟩:=I.base.there b o e hx;exact⟨o',(hs.2 b (QP (Q7 (Qg e) (I.ok.cab x c hfn hc)))).trans e1⟩
  .by_cases hj:j=i
   .subst hj;rw[hi] at e1;cases e1;rw[QE hiσ] at e2;cases e2;exact⟨u,r,.inr ⟨.inl hk,c,hc,hc'⟩⟩
   .rw[QK (QN hj)] at e2;obtain⟨u',r',q⟩:=hl j y v' e1 e2 e3;refine⟨u',r',?_⟩;rcases q with q|⟨k,c',e,z'⟩
    .exact .inl q
    .refine .inr ⟨k,c',e,z'.sameBut hs ?_⟩;rintro rfl;exact hj (znz hN e1 (I.ok.inj _ _ _ e hc ▸ hi))
  .by_cases hcc:c'=c
   .subst hcc;exact⟨_,hc'⟩
   .obtain⟨w2,z2⟩:=I.cell y c' e;exact⟨w2,z2.sameBut hs hcc⟩
  .obtain⟨e,n,ne,nf,d⟩:=I.pin p hp;refine⟨(hs.2 p.1 ?_).trans e,n,ne,nf,d⟩;intro q;rw[q,hoc] at e;have q':oc=p.2:=Zl e;exact d w' (by rw[<- q'];exact hocd)
theorem zcv{i:Nat}(I:Inv X pins σ H s)(hN:X.N.Nodup)(hi:X.N[i]? = some x)(hx:Loc X.env.scope x)(r:RelV v u)
 (h:∀s',Inv X pins (σ.set i (some v)) H s'->Q () s') (hf:X.fn x=true\/X.env.scope.names.lookup x=some .local:=by first|exact .inl rfl|exact .inr rfl|assumption):wpAny M A (storeName X.env x u) Q E s :=
 zlh I hN hi hx r (λs' I' _=>h s' I') hf
theorem Inv.call'(I:Inv X pins σ H s)(ho:s'.os=s.os)(u:Un (frs X.stack) ch H H' s.heap s'.heap)(hok:HOk X.prog X.w H' s'.heap)(hg:G4 s'.gens)
 (hch:∀b∈ch,(b∈X.ex\/X.s₀.heap.objs.size<=b)/\b≠X.env.locals/\(∀x c,X.env.cells.lookup x=some c->c≠b)/\∀p∈X.pn++pins,p.1≠b):Inv X pins σ H' s':=by
 obtain⟨h',g',d',t',o'⟩:=s';have e:o'=s.os:=ho;subst e;exact I.call (g':=g') (t':=t') (d':=d') u hok hg hch
end
abbrev XK:=Ut->Option Addr->Hp->Prop
abbrev St:=List (Option V)
abbrev VK:=V->Hp->Prop
abbrev TE:=St->Hp->VK->Prop
abbrev TT:=St->Hp->(Bool->Hp->Prop)->Prop
abbrev TA:=St->Hp->(List V->Hp->Prop)->Prop
structure Ends where
 nx:St->Hp->Prop
 rt:VK
 bk:St->Hp->Prop:=λ_ _=>False
 ct:St->Hp->Prop:=λ_ _=>False
abbrev TS:=Ends->St->Hp->Prop
def EP(X:Cx)(pins:List (Addr×Obj))(σ:St)(Q:VK)(u:Ut)(s':Ux):Prop:=∃v H',Inv X pins σ H' s'/\RelV v u/\Q v H'
def TP(X:Cx)(pins:List (Addr×Obj))(σ:St)(Q:Bool->Hp->Prop)(b:Bool)(s':Ux):Prop:=∃H',Inv X pins σ H' s'/\Q b H'
def AP(X:Cx)(pins:List (Addr×Obj))(σ:St)(Q:List V->Hp->Prop)(us:List Ut)(s':Ux):Prop:=∃vs H',Inv X pins σ H' s'/\Vals vs us/\Q vs H'
def SP(X:Cx)(pins:List (Addr×Obj))(D:Ends)(f:Flow)(s':Ux):Prop :=
 match f with
 | .next=>∃σ' H',Inv X pins σ' H' s'/\D.nx σ' H'
 | .brk=>∃σ' H',Inv X pins σ' H' s'/\D.bk σ' H'
 | .cont=>∃σ' H',Inv X pins σ' H' s'/\D.ct σ' H'
 | .ret u=>∃v σ' H',Inv X pins σ' H' s'/\RelV v u/\D.rt v H'
def PE(X:Cx)(e:Expr)(t:TE):Prop :=
 ∀(pins:List (Addr×Obj)) (s:Ux) (σ:St) (H:Hp) (Q:VK),Inv X pins σ H s->t σ H Q->wpAny (model X.prog X.w) X.A (eval e X.env) (EP X pins σ Q) X.xe s
def PT(X:Cx)(e:Expr)(t:TT):Prop :=
 ∀(pins:List (Addr×Obj)) (s:Ux) (σ:St) (H:Hp) (Q:Bool->Hp->Prop),Inv X pins σ H s->t σ H Q->wpAny (model X.prog X.w) X.A (isTrue e X.env (eval e X.env)) (TP X pins σ Q) X.xe s
def PW(X:Cx)(e:Expr)(t:TT):Prop :=
 ∀(whole:Sem Ut) (pins:List (Addr×Obj)) (s:Ux) (σ:St) (H:Hp) (Q:Bool->Hp->Prop),Inv X pins σ H s->t σ H Q->wpAny (model X.prog X.w) X.A (isTrue e X.env whole) (TP X pins σ Q) X.xe s
theorem PW.pt(h:PW X e t):PT X e t:=h _
def PA(X:Cx)(es:List Expr)(t:TA):Prop :=
 ∀(pos:Pos) (pins:List (Addr×Obj)) (s:Ux) (σ:St) (H:Hp) (Q:List V->Hp->Prop),Inv X pins σ H s->t σ H Q->wpAny (model X.prog X.w) X.A (GG (UD pos (Uw es X.env))) (AP X pins σ Q) X.xe s
def PS(X:Cx)(st:Stmt)(t:TS):Prop :=
 ∀(pins:List (Addr×Obj)) (s:Ux) (σ:St) (H:Hp) (D:Ends),Inv X pins σ H s->t D σ H->wpAny (model X.prog X.w) X.A (exec st X.env) (SP X pins D) X.xe s
def PSs(X:Cx)(st:List Stmt)(t:TS):Prop :=
 ∀(pins:List (Addr×Obj)) (s:Ux) (σ:St) (H:Hp) (D:Ends),Inv X pins σ H s->t D σ H->wpAny (model X.prog X.w) X.A (execs st X.env) (SP X pins D) X.xe s
theorem thn{α:Type}{t:Sem α}{Q Q':α->Ux->Prop}(h:wpAny M A t Q E s)(hQ:∀a s,Q a s->Q' a s):wpAny M A t Q' E s:=U2 h hQ λ_ _ x=>x
section
variable {X:Cx}
def tVar(i:Nat):TE:=λσ H Q=>∃v,σ[i]? = some (some v)/\Q v H
def tC(v:V):TE:=λ_ H Q=>Q v H
theorem zal{i:Nat}(hN:X.N[i]? = some x)(hv:Vis X.env.scope x)(hd:(x == ("__debug__" : Str))=false:=by decide)(hcd:(x == ("__classdict__" : Str))=false:=by decide):PE X (.Name x pos) (tVar i):=by
 intro pins s σ H Q I h;obtain⟨v,e,h⟩:=h;obtain⟨m,hn,hl⟩:=I.loc;obtain⟨u,r,l⟩:=hl i x v hN e hv;have fin:EP X pins σ Q u s:=⟨v,H,I,r,h⟩;rcases l with ⟨hk,hm⟩|⟨hk,c,hc,hcell⟩
 .exact wpAny_Name (wpAny_loadName_local I.ok.kind hk hn hm fin) hd
 .rcases hk with hk|hk
  .exact wpAny_Name (wpAny_loadName_cell I.ok.kind hk hc hcell fin) hd
  .exact wpAny_Name (wpAny_loadName_free I.ok.kind hk hc hcell fin hcd) hd
theorem zbb{i j pos}:PE X (.Constant (.int i) j pos) (tC (.int i)):=λ_ _ _ H _ I h=>wpAny_Constant_int ⟨.int i,H,I.tok _,⟨_,rfl⟩,h⟩
theorem zxa{b j pos}:PE X (.Constant (.bool b) j pos) (tC (.bl b)):=λ_ _ _ H _ I h=>Constant_bool ⟨.bl b,H,I,rfl,h⟩
theorem z4f{j pos}:PE X (.Constant .none j pos) (tC .non):=λ_ _ _ H _ I h=>Constant_none ⟨.non,H,I,rfl,h⟩
theorem zbx{x j pos}:PE X (.Constant (.str x) j pos) (tC (.str x)):=λ_ _ _ H _ I h=>Calls.Constant_str ⟨.str x,H,I.tok _,⟨_,rfl⟩,h⟩
def Gl(X:Cx)(x:Str):Prop:=X.env.kindOf x=some .globalImplicit
theorem zcn{pins:List (Addr×Obj)}(I:Inv X pins σ H s)(hg:Gl X x)(hm:X.mg x=some u)(h:Q u s)
 (hd:(x == ("__debug__" : Str))=false:=by decide):wpAny (model X.prog X.w) X.A (eval (.Name x pos) X.env) Q E s :=
 Yk I.ok.kind hg (Calls.loadGlobal_global (by rw[I.ok.glob];exact I.mod.glob.keeps I.bk) hm h) hd
theorem zcp{pins:List (Addr×Obj)}(I:Inv X pins σ H s)(hg:Gl X x)(hm:X.mg x=none)(hv:U5 x=some u)(h:Q u s)
 (hn:x ≠ "__name__" := by decide) (hd:(x == ("__debug__" : Str))=false:=by decide):wpAny (model X.prog X.w) X.A (eval (.Name x pos) X.env) Q E s:=by
 obtain⟨mb,h1,h2⟩:=I.mod.blt;exact Yk I.ok.kind hg (Calls.loadGlobal_builtin (by rw[I.ok.glob];exact I.mod.glob.keeps I.bk) hm (by rw[I.ok.blt];exact h1.keeps I.bk) ((h2 x hn).trans hv) h) hd
theorem zz7(hg:Gl X x)(hm:X.mg x=some u)(r:RelV v u)(hd:(x == ("__debug__" : Str))=false:=by decide):PE X (.Name x pos) (tC v) :=
 λ_ _ _ H _ I h=>zcn I hg hm ⟨v,H,I,r,h⟩ hd
variable {a b:Expr}{ta tb:TE}{pos:Pos}
def tB(t:TE):TT:=λσ H Q=>t σ H λx H1=>∃c,x = .bl c/\Q c H1
theorem z1b(h:PE X e t)(he:∀whole,isTrue e X.env whole=(do let v <- whole;standAt e.pos;holding [v] (truthy v)):=by intro _;rfl):PT X e (tB t):=by
 intro pins s σ H Q I hw;refine isTrue_plain (thn (h pins s σ H _ I hw) λv s1 zz=>?_) (he _);obtain⟨x,H1,I1,r1,q1⟩:=zz;obtain⟨d,rfl,q⟩:=q1;cases r1;exact UC ⟨H1,I1,q⟩
variable {tA tB':TT}{rest:List Expr}
def tAnd(t u:TT):TT:=λσ H Q=>t σ H λc H1=>if c=true then u σ H1 Q else Q false H1
def tOr(t u:TT):TT:=λσ H Q=>t σ H λc H1=>if c=true then Q true H1 else u σ H1 Q
def tNot(t:TT):TT:=λσ H Q=>t σ H λc H1=>Q (!c) H1
theorem zo8(ha:PT X a tA):PW X (.BoolOp .And [a] pos) tA:=by
 intro wh pins s σ H Q I h;refine isTrue_and (thn (ha pins s σ H Q I h) λc s1 e=>?_)
 cases c with
 | true=>exact isTrue_and_nil e
 | false=>exact e
theorem z1k(ha:PT X a tA):PW X (.BoolOp .Or [a] pos) tA:=by
 intro wh pins s σ H Q I h;refine isTrue_or (thn (ha pins s σ H Q I h) λc s1 e=>?_)
 cases c with
 | false=>exact isTrue_or_nil e
 | true=>exact e
theorem zsv(ha:PT X a tA)(hb:PW X (.BoolOp .And (b::rest) pos) tB'):PW X (.BoolOp .And (a::b::rest) pos) (tAnd tA tB'):=by
 intro wh pins s σ H Q I h;refine isTrue_and (thn (ha pins s σ H _ I h) λc s1 zz=>?_);obtain⟨H1,I1,q1⟩:=zz
 cases c with
 | true=>exact hb wh pins s1 σ H1 Q I1 q1
 | false=>exact⟨H1,I1,q1⟩
theorem z5f(ha:PT X a tA)(hb:PW X (.BoolOp .Or (b::rest) pos) tB'):PW X (.BoolOp .Or (a::b::rest) pos) (tOr tA tB'):=by
 intro wh pins s σ H Q I h;refine isTrue_or (thn (ha pins s σ H _ I h) λc s1 zz=>?_);obtain⟨H1,I1,q1⟩:=zz
 cases c with
 | true=>exact⟨H1,I1,q1⟩
 | false=>exact hb wh pins s1 σ H1 Q I1 q1
theorem z3a(ha:PT X a tA):PT X (.UnaryOp .Not a pos) (tNot tA):=by
 intro pins s σ H Q I h;exact isTrue_not (ha pins s σ H (λc H1=>Q (!c) H1) I h)
def zwy(ta tb:TE):TE:=λσ H Q=>ta σ H λx H1=>∃c,x = .bl c/\if c=true then tb σ H1 Q else Q (.bl false) H1
theorem z1v{op}(h:PE X a t):PE X (.BoolOp op [a] pos) t:=λpins s σ H Q I hw=>BoolOp_one (h pins s σ H Q I hw)
theorem z4g(ha:PE X a ta)(hb:PE X (.BoolOp .And (b::rest) pos) tb):PE X (.BoolOp .And (a::b::rest) pos) (zwy ta tb):=by
 intro pins s σ H Q I h;refine BoolOp_and (thn (ha pins s σ H _ I h) λv s1 zz=>?_);obtain⟨x,H1,I1,r1,q1⟩:=zz;obtain⟨c,rfl,q1⟩:=q1;cases r1;refine UC ?_
 cases c with
 | true=>exact hb pins s1 σ H1 Q I1 q1
 | false=>exact⟨.bl false,H1,I1,rfl,q1⟩
def tIf(t:TT)(ta tb:TE):TE:=λσ H Q=>t σ H λc H1=>if c=true then ta σ H1 Q else tb σ H1 Q
theorem zv8(hc:PT X c tA)(ha:PE X a ta)(hb:PE X b tb):PE X (.IfExp c a b pos) (tIf tA ta tb):=by
 intro pins s σ H Q I h;refine wpAny_IfExp (thn (hc pins s σ H _ I h) λd s1 zz=>?_);obtain⟨H1,I1,q1⟩:=zz
 cases d with
 | true=>exact ha pins s1 σ H1 Q I1 q1
 | false=>exact hb pins s1 σ H1 Q I1 q1
end
def SqL(K:Qa)(H:Hp)(a:Addr)(xs:List V):Prop :=
 Rd H a (.lst xs) \/
  ∃(o:Obj) (its:Array Ut) (n:Nat),K.lookup a=some o/\o.cls = .type "list" /\ o.dict=none/\o.data = .seq its n/\its.size<=sizeLine/\Vals xs its.toList
def SqT(K:Qa)(H:Hp)(a:Addr)(xs:List V):Prop :=
 Rd H a (.tup xs) \/
  ∃(o:Obj) (its:Array Ut) (n:Nat),K.lookup a=some o/\o.cls = .type "tuple" /\ o.data = .seq its n/\its.size<=sizeLine/\Vals xs its.toList
def absV:Ut->Option V
 | .none=>some .non
 | .bool b=>some (.bl b)
 | .int i _=>some (.int i)
 | .str x _=>some (.str x)
 | .bytes b _=>some (.byt b)
 | .float b _=>some (.flt b)
 | .ref a=>some (.ref a)
 | .type n=>some (.ty n)
 | _=>none
theorem RelV.abs(r:RelV x u):absV u=some x:=by
 cases x with
 | non=>cases r;rfl
 | bl _=>cases r;rfl
 | int _=>obtain⟨t,rfl⟩:=r;rfl
 | str _=>obtain⟨t,rfl⟩:=r;rfl
 | byt _=>obtain⟨t,rfl⟩:=r;rfl
 | flt _=>obtain⟨t,rfl⟩:=r;rfl
 | ref _=>cases r;rfl
 | ty _=>cases r;rfl
theorem RelV.inj(r:RelV x u)(q:RelV y u):x=y:=Zl (r.abs.symm.trans q.abs)
theorem Vals.inj:∀{xs ys:List V} {us:List Ut},Vals xs us->Vals ys us->xs=ys
 | _,_,_,.nil,.nil=>rfl
 | _,_,_,.cons r t,.cons r' t'=>by rw[r.inj r',Vals.inj t t']
section
variable {X:Cx}{pins:List (Addr×Obj)}{σ:St}{H:Hp}{s:Ux}{a:Addr}{xs ys:List V}
theorem SqL.of{K:Qa}(h:H a=some (.lst xs)):SqL K H a xs:=.inl (.inl h)
theorem SqT.of{K:Qa}(h:H a=some (.tup xs)):SqT K H a xs:=.inl (.inl h)
theorem Inv.list(I:Inv X pins σ H s)(h:SqL X.K H a xs):∃its:List Ut,Vals xs its/\PlainL s.heap a its.toArray/\xs.length<=sizeLine:=by
 rcases h with h|⟨o,its,n,hk,hc,hd,hs,hz,r⟩
 .obtain⟨z,its,n,r,e⟩:=h.ok I.hok;exact⟨its,r,⟨_,n,e,rfl,rfl,rfl⟩,z⟩
 .refine⟨its.toList,r,⟨o,n,I.kIn a o hk,hc,hd,by simpa using hs⟩,?_⟩;have e:=r.length;simp only[J9] at e;lia
theorem Inv.tuple(I:Inv X pins σ H s)(h:SqT X.K H a xs):∃its:List Ut,Vals xs its/\IsTup s.heap a its.toArray/\xs.length<=sizeLine:=by
 rcases h with h|⟨o,its,n,hk,hc,hs,hz,r⟩
 .obtain⟨z,its,r,p⟩:=h.ok I.hok;exact⟨its,r,p,z⟩
 .refine⟨its.toList,r,⟨o,I.kIn a o hk,hc,n,by simpa using hs⟩,?_⟩;have e:=r.length;simp only[J9] at e;lia
theorem Inv.list_inj(I:Inv X pins σ H s)(h:SqL X.K H a xs)(h':SqL X.K H a ys):xs=ys:=by
 obtain⟨its,r,⟨o,n,e,_,_,d⟩,_⟩:=I.list h;obtain⟨its',r',⟨o',n',e',_,_,d'⟩,_⟩:=I.list h';rw[e] at e';cases e';rw[d] at d';injection d' with d1 _;have:its=its':=by simpa using congrArg Up d1
 subst this;exact r.inj r'
theorem Inv.tuple_inj(I:Inv X pins σ H s)(h:SqT X.K H a xs)(h':SqT X.K H a ys):xs=ys:=by
 obtain⟨its,r,⟨o,e,_,n,d⟩,_⟩:=I.tuple h;obtain⟨its',r',⟨o',e',_,n',d'⟩,_⟩:=I.tuple h';rw[e] at e';cases e';rw[d] at d';injection d' with d1 _;have:its=its':=by simpa using congrArg Up d1
 subst this;exact r.inj r'
end
abbrev Cx.wish(X:Cx)(E:Ut->Ux->Prop):Cx:={ X with xe:=E }
abbrev Cx.nox(X:Cx):Cx:=X.wish λ_ _=>False
theorem Cx.Ok.wish{X:Cx}(ok:X.Ok)(E:Ut->Ux->Prop):(X.wish E).Ok :=
 ⟨ok.mod,ok.kind,ok.glob,ok.blt,ok.above,ok.inj,ok.has,ok.cab,ok.hd,ok.frames,ok.stk,ok.exf,ok.bs,ok.bsz,ok.noex,ok.exfs,ok.funs,ok.frf⟩
theorem Cx.Ok.unwish{X:Cx}{E:Ut->Ux->Prop}(ok:(X.wish E).Ok):X.Ok :=
 ⟨ok.mod,ok.kind,ok.glob,ok.blt,ok.above,ok.inj,ok.has,ok.cab,ok.hd,ok.frames,ok.stk,ok.exf,ok.bs,ok.bsz,ok.noex,ok.exfs,ok.funs,ok.frf⟩
section
variable {X:Cx}{pins:List (Addr×Obj)}{σ:St}{H:Hp}{s:Ux}{E:Ut->Ux->Prop}
theorem Inv.wish(I:Inv X pins σ H s)(E:Ut->Ux->Prop):Inv (X.wish E) pins σ H s:=⟨I.ok.wish E,I.os,I.bare,I.base,I.loc,I.cell,I.free,I.freeC,I.pin,I.hok,I.len⟩
theorem Inv.unwish(I:Inv (X.wish E) pins σ H s):Inv X pins σ H s:=⟨I.ok.unwish,I.os,I.bare,I.base,I.loc,I.cell,I.free,I.freeC,I.pin,I.hok,I.len⟩
theorem SP.unwish(h:SP (X.wish E) pins D f s'):SP X pins D f s':=by
 cases f with
 | next=>obtain⟨σ',H',I,q⟩:=h;exact⟨σ',H',I.unwish,q⟩
 | brk=>obtain⟨σ',H',I,q⟩:=h;exact⟨σ',H',I.unwish,q⟩
 | cont=>obtain⟨σ',H',I,q⟩:=h;exact⟨σ',H',I.unwish,q⟩
 | ret u=>obtain⟨v,σ',H',I,r,q⟩:=h;exact⟨v,σ',H',I.unwish,r,q⟩
theorem PT.nox(h:PT X.nox e t):PT X e t:=λpins s σ H Q I hw=>
 U2 (h pins s σ H Q (I.wish _) hw) (λ_ _ ⟨H',I',q⟩=>⟨H',I'.unwish,q⟩) λ_ _ z=>QZ z
theorem PSs.nox{st:List Stmt}{t:TS}(h:PSs X.nox st t):PSs X st t:=λpins s σ H D I hw=>
 U2 (h pins s σ H D (I.wish _) hw) (λ_ _ q=>q.unwish) λ_ _ z=>QZ z
end
section
variable {X:Cx}{st:Stmt}{rest:List Stmt}{t u:TS}{e:Expr}{te:TE}{pos:Pos}
def zql:TS:=λD σ H=>D.nx σ H
def tSeq(t u:TS):TS:=λD σ H=>t { D with nx:=u D } σ H
theorem zo6:PSs X [] zql:=λ_ _ σ H _ I h=>UL ⟨σ,H,I,h⟩
theorem zbp(h1:PS X st t)(h2:PSs X rest u):PSs X (st::rest) (tSeq t u):=by
 intro pins s σ H D I h;refine Gj (thn (h1 pins s σ H { D with nx:=u D } I h) λf s1 q=>?_)
 cases f with
 | next=>
   obtain⟨σ',H',I',q⟩:=q;exact h2 pins s1 σ' H' D I' q
 | ret v=>exact q
 | brk=>exact q
 | cont=>exact q
theorem zch(h1:PS X st t):PSs X [st] t:=by
 intro pins s σ H D I h;refine Gj (thn (h1 pins s σ H D I h) λf s1 q=>?_)
 cases f with
 | next=>exact UL q
 | ret v=>exact q
 | brk=>exact q
 | cont=>exact q
theorem Inv.quiet{pins:List (Addr×Obj)}(I:Inv X pins σ H s):interactive X.env=false:=by simp[interactive,I.ok.kind]
def zjc(te:TE):TS:=λD σ H=>te σ H λ_ H1=>D.nx σ H1
theorem zpf(he:PE X e te)(hs:UZ e none pos.line X.env=pure false:=by rfl):PS X (.Expr e pos) (zjc te):=by
 intro pins s σ H D I h;exact wpAny_Expr_any (thn (he pins s σ H _ I h) λv s1 ⟨x,H1,I1,r1,q1⟩=>⟨σ,H1,I1,q1⟩) I.quiet hs
def tRet(te:TE):TS:=λD σ H=>te σ H D.rt
theorem zg1(he:PE X e te):PS X (.Return (some e) pos) (tRet te):=by
 intro pins s σ H D I h;exact wpAny_Return_some (thn (he pins s σ H _ I h) λv s1 ⟨x,H1,I1,r1,q1⟩=>⟨x,σ,H1,I1,r1,q1⟩)
def tIfS(c:TT)(t u:TS):TS:=λD σ H=>c σ H λb H1=>if b=true then t D σ H1 else u D σ H1
theorem zp3(hc:PT X c tc)(ha:PSs X a t)(hb:PSs X b u):PS X (.If c a b pos) (tIfS tc t u):=by
 intro pins s σ H D I h;refine wpAny_If (thn (hc pins s σ H _ I h) λd s1 zz=>?_);obtain⟨H1,I1,q1⟩:=zz
 cases d with
 | true=>exact ha pins s1 σ H1 D I1 q1
 | false=>exact hb pins s1 σ H1 D I1 q1
end
abbrev TG:=V->St->Hp->(St->Hp->Prop)->Prop
abbrev TGs:=List V->St->Hp->(St->Hp->Prop)->Prop
def PG(X:Cx)(target:Expr)(t:TG):Prop :=
 ∀(pins:List (Addr×Obj)) (s:Ux) (σ:St) (H:Hp) (v:V) (u:Ut) (Q:St->Hp->Prop),Inv X pins σ H s->RelV v u->t v σ H Q ->
   wpAny (model X.prog X.w) X.A (Ge target X.env u) (λ_ s'=>∃σ' H',Inv X pins σ' H' s'/\Q σ' H') X.xe s
def PGs(X:Cx)(ts:List Expr)(t:TGs):Prop :=
 ∀(pins:List (Addr×Obj)) (s:Ux) (σ:St) (H:Hp) (vs:List V) (us:List Ut) (Q:St->Hp->Prop),Inv X pins σ H s->Vals vs us->t vs σ H Q ->
   wpAny (model X.prog X.w) X.A (assignInOrder ((U3 ts X.env).map (·.2)) us) (λ_ s'=>∃σ' H',Inv X pins σ' H' s'/\Q σ' H') X.xe s
abbrev TSet:=V->V->V->Hp->(Hp->Prop)->Prop
def PSet(X:Cx)(t:TSet):Prop :=
 ∀(pins:List (Addr×Obj)) (s:Ux) (σ:St) (H:Hp) (o i v:V) (ov iv u:Ut) (Q:Hp->Prop),Inv X pins σ H s->RelV o ov->RelV i iv->RelV v u->t o i v H Q ->
   wpAny (model X.prog X.w) X.A (Ti ov iv u) (λ_ s'=>∃H',Inv X pins σ H' s'/\Q H') X.xe s
section
variable {X:Cx}{pos:Pos}
def za9(i:Nat):TG:=λv σ H Q=>Q (σ.set i (some v)) H
theorem zdi{i:Nat}(hN:X.N.Nodup)(hi:X.N[i]? = some x)(hx:Loc X.env.scope x)(hf:X.fn x=true\/X.env.scope.names.lookup x=some .local:=by first|exact .inl rfl|exact .inr rfl|assumption):PG X (.Name x pos) (za9 i):=by
 intro pins s σ H v u Q I r h;exact wpAny_assign_Name (zcv I hN hi hx r (λs' I'=>⟨_,H,I',h⟩) hf)
def gNil:TGs:=λvs σ H Q=>vs = []/\Q σ H
def zey(t:TG)(u:TGs):TGs:=λvs σ H Q=>∃v r,vs=v::r/\t v σ H λσ' H'=>u r σ' H' Q
theorem zkl:PGs X [] gNil:=by
 intro pins s σ H vs us Q I r h;obtain⟨e,h⟩:=h;subst e;cases r;exact assignInOrder_nil ⟨σ,H,I,h⟩
theorem zge(h1:PG X e t)(h2:PGs X es u)
 (hs:(U3 (e::es) X.env).map (·.2)=Ge e X.env::(U3 es X.env).map (·.2):=by rfl):PGs X (e::es) (zey t u):=by
 intro pins s σ H vs us Q I r h;obtain⟨v,vr,e1,h⟩:=h;subst e1
 cases r with
 | cons r rr=>
   rw[hs];refine G5 (thn (h1 pins s σ H _ _ _ I r h) λ_ s1 zz=>?_);obtain⟨σ1,H1,I1,q1⟩:=zz;exact h2 pins s1 σ1 H1 _ _ Q I1 rr q1
def gTup(K:Qa)(n:Nat)(t:TGs):TG:=λv σ H Q=>∃a xs,v = .ref a/\SqT K H a xs/\xs.length=n/\t xs σ H Q
theorem zjk{k:Nat}{n:Nat}(hc:X.calm=true)(h:PGs X es t)
 (hn:(U3 es X.env).length=n:=by rfl) (hst:(U3 es X.env).findIdx? (·.1)=none:=by rfl):PG X (.Tuple es k pos) (gTup X.K n t):=by
 intro pins s σ H v u Q I r hw;obtain⟨a,xs,e1,hq,hl,hw⟩:=hw;subst e1;cases r;obtain⟨its,rv,ht,hz⟩:=I.tuple hq;refine assign_Tuple_tuple (I.ok.hd hc) ht (by simp[hn,<- hl,rv.length]) hst λh' hx=>?_;have I1:Inv X pins σ H { s with heap:=h' }:=I.kept (t':=s.toks) λb o e=>hx b o (QP (Qg e)) e;exact h pins _ σ H xs _ Q I1 (by simpa using rv) hw
def gSub(to ti:TE)(t:TSet):TG:=λv σ H Q=>to σ H λo H1=>ti σ H1 λi H2=>t o i v H2 λH3=>Q σ H3
theorem zn5{to:TE}(ho:PE X o to)(hi:PE X i ti)(hs:PSet X t)
 (ha:∀v,Ge (.Subscript o i pos) X.env v=(do
  let ov <- holding [v] (eval o X.env)
  let iv <- holding [v,ov] (eval i X.env)
  standAt pos
  holding [v,ov,iv] (Ti ov iv v)
  release [v,ov,iv] []):=by intro _;rfl):PG X (.Subscript o i pos) (gSub to ti t):=by
 intro pins s σ H v u Q I r h;rw[ha];refine Us (UA (thn (ho pins s σ H _ I h) λov s1 zz=>?_));obtain⟨x,H1,I1,r1,q1⟩:=zz;refine Us (UA (thn (hi pins s1 σ H1 _ I1 q1) λiv s2 zz=>?_));obtain⟨y,H2,I2,r2,q2⟩:=zz;refine Us (UQ (Us (UA (thn (hs pins s2 σ H2 x y v ov iv u _ I2 r1 r2 r q2) λ_ s3 zz=>?_))));obtain⟨H3,I3,q3⟩:=zz;exact wpAny_release ⟨σ,H3,I3,q3⟩
def tAsg(te:TE)(g:TG):TS:=λD σ H=>te σ H λx H1=>g x σ H1 D.nx
theorem ziv(he:PE X e te)(hg:PG X tg g)(hs:UP [tg] e pos.line X.env=pure false:=by rfl)(hw:UO [tg] e X.env=pure none:=by rfl)
 (h1:(U3 [tg] X.env).map (·.2) = [Ge tg X.env]:=by rfl):PS X (.Assign [tg] e pos) (tAsg te g):=by
 intro pins s σ H D I h;refine wpAny_Assign_stores (thn (he pins s σ H _ I h) λv s1 zz=>?_) hs hw;obtain⟨x,H1,I1,r1,q1⟩:=zz;rw[h1];exact thn (hg pins s1 σ H1 x v _ I1 r1 q1) λ_ s2 q=>q
theorem zc5{i:Nat}{pos':Pos}(hN:X.N.Nodup)(hi:X.N[i]? = some x)(hx:Loc X.env.scope x)(he:PE X e te)(hs:UZ e (some (.Name x pos')) pos.line X.env=pure false:=by rfl)(hf:X.fn x=true\/X.env.scope.names.lookup x=some .local:=by first|exact .inl rfl|exact .inr rfl|assumption):
 PS X (.Assign [.Name x pos'] e pos) (tAsg te (za9 i)):=by
 intro pins s σ H D I h;refine wpAny_Assign_Name (thn (he pins s σ H _ I h) λv s1 zz=>?_) hs;obtain⟨y,H1,I1,r1,q1⟩:=zz;exact zcv I1 hN hi hx r1 (λs2 I2=>⟨_,H1,I2,q1⟩) hf
def tPar(i j:Nat)(ta:TA):TS:=λD σ H=>ta σ H λvs H1=>∃v w,vs = [v,w]/\D.nx ((σ.set i (some v)).set j (some w)) H1
theorem znx{i j:Nat}{pt:Pos}{kt k2 pt2}(hc:X.calm=true)(hN:X.N.Nodup)(hi:X.N[i]? = some x)(hj:X.N[j]? = some y)(hij:i≠j)
 (hx:X.env.scope.names.lookup x=some .local) (hy:X.env.scope.names.lookup y=some .local) (ha:PA X [a,b] ta)
 (hw:UO [.Tuple [.Name x px,.Name y py] kt pt] (.Tuple [a,b] k2 pt2) X.env=pure (some [x,y]))
 (hs:UP [.Tuple [.Name x px,.Name y py] kt pt] (.Tuple [a,b] k2 pt2) pos.line X.env=pure false:=by rfl) :
 PS X (.Assign [.Tuple [.Name x px,.Name y py] kt pt] (.Tuple [a,b] k2 pt2) pos) (tPar i j ta):=by
 intro pins s σ H D I h;rw[exec_Assign_arm];refine Us (UQ ?_);rw[hs];refine Us (Uv ?_);rw[TB (by decide)];refine Us (Tuple_ (thn (ha _ pins s σ H _ I h) λus s1 zz=>?_));obtain⟨vs,H1,I1,r1,q1⟩:=zz;obtain⟨v,w,e1,q1⟩:=q1;subst e1
 obtain⟨u1,u2,rfl,rv,rw'⟩:∃u1 u2,us = [u1,u2]/\RelV v u1/\RelV w u2:=by
  cases r1 with
  | cons p q=>
    cases q with
    | cons p' q'=>
      cases q';exact⟨_,_,rfl,p,p'⟩
 refine UB ?_ (by show 2<=sizeLine;decide);have I2:Inv X pins σ H1 { s1 with heap:=s1.heap.push { cls:=.type "tuple",data:=.seq [u1,u2].toArray } }:=I1.kept (t':=s1.toks) λb o e=>Qc _ e;rw[hw];refine Us (Uv ?_);show wpAny (model X.prog X.w) X.A (do rule "assign.swapped-stores";let items <- unpackItems (.ref s1.heap.objs.size) 2 none;assignInOrder [λv=>Tf X.env y v,λv=>Tf X.env x v] items.reverse;pure Flow.next) _ _ _;refine Us (G9 (Us (unpackItems_tuple (items:=#[u1,u2]) (I.ok.hd hc) (V9 s1.heap _) λh' hx'=>?_)));have I3:=I2.kept (h':=h') (t':=s1.toks) λb o e=>hx' b o (QP (Qg e)) e;show wpAny _ _ (assignInOrder [λv=>Tf X.env y v,λv=>Tf X.env x v] [u2,u1] >>= λ_=>pure Flow.next) _ _ _;refine Us (G5 (wpAny_bindName (zcv I3 hN hj (.inl hy) rw' (λs2 I4=>?_) (.inr hy))));refine G5 (wpAny_bindName (zcv I4 hN hi (.inl hx) rv (λs3 I5=>assignInOrder_nil (Uv ?_)) (.inr hx)));rw[List.set_comm _ _ (QN hij)] at I5;exact⟨_,H1,I5,q1⟩
end
section
variable {X:Cx}{pos:Pos}
def zr7(c:TT)(tb:TS):TS:=λD σ H=>∃W:Nat->St->Hp->Prop,(∃m,W m σ H)/\∀m σ H,W m σ H ->
 c σ H λb H1=>if b=true then ∃N:St->Hp->Prop,(∀σ' H',N σ' H'->∃m',m'<m/\W m' σ' H')/\tb { D with nx:=N,ct:=N,bk:=D.nx } σ H1 else D.nx σ H1
theorem zvp{body:List Stmt}(hp:Tn (model X.prog X.w) X.A X.env X.xe)(hc:PT X c tc)(hb:PSs X body tb):PS X (.While c body [] pos) (zr7 tc tb):=by
 intro pins s σ H D I h;obtain⟨W,⟨m0,w0⟩,turn⟩:=h;refine wpAny_While (codeAny_whileLoop (λn s'=>∃σ' H',Inv X pins σ' H' s'/\W n σ' H') ?_ m0 ⟨σ,H,I,w0⟩);rintro n s1 ⟨σ1,H1,I1,w1⟩;refine US hp (thn (hc pins s1 σ1 H1 _ I1 (turn n σ1 H1 w1)) λb s2 zz=>?_);obtain⟨H2,I2,q2⟩:=zz
 cases b with
 | true=>
   obtain⟨N,hN,q2⟩:=q2;rw[T0 rfl];refine US hp (thn (hb pins s2 σ1 H2 _ I2 q2) λf s3 q3=>?_)
   cases f with
   | next=>
     obtain⟨σ3,H3,I3,n3⟩:=q3;obtain⟨m',hm,w3⟩:=hN σ3 H3 n3;exact⟨m',hm,σ3,H3,I3,w3⟩
   | cont=>
     obtain⟨σ3,H3,I3,n3⟩:=q3;obtain⟨m',hm,w3⟩:=hN σ3 H3 n3;exact⟨m',hm,σ3,H3,I3,w3⟩
   | brk=>exact q3
   | ret v=>exact q3
 | false=>
   rw[TB Qo];exact UL ⟨σ1,H2,I2,q2⟩
end
structure It where
 go:Nat->Hp->Prop
 yld:Nat->Hp->V->Hp->Prop
 stop:Nat->Hp->Prop
def FpOk(X:Cx)(pins:List (Addr×Obj))(H:Hp)(b:Addr):Prop :=
 H b=none/\b≠X.env.locals/\b ∉ X.fs/\(b∈X.ex\/X.s₀.heap.objs.size<=b)/\(∀x c,X.env.cells.lookup x=some c->c≠b)/\∀p∈X.pn++pins,p.1≠b
theorem Inv.fpOk{pins:List (Addr×Obj)}(I:Inv X pins σ H s)(hb:s.heap.objs.size<=b)(hn:H' b=none):FpOk X pins H' b:=by
 refine⟨hn,JM (Q7 I.lt hb),I.nofs hb,.inr (Q5 I.sz hb),λx c e z=>?_,λp hp z=>?_⟩
 .obtain⟨v,q⟩:=I.cell x c e;exact absurd (Q7 q.lt (by rw[z];exact hb)) (Zj _)
 .exact absurd (Q7 (Qg (I.pin p hp).1) (by rw[z];exact hb)) (Zj _)
structure Turn(P:Uy)(w:U0)(K:Qa)(tg:Expr)(J:It)(fp:List Addr)(it:Addr)(tn:Nat->Heap->Prop):Prop where
 mem:it∈fp
 obj:∀i h,tn i h->∀b∈fp,∃o,h.get? b=some o/\∀v,o.data≠.cell v
 keep:∀i h h',tn i h->(∀b∈fp,∀o,h.get? b=some o->h'.get? b=some o)->tn i h'
 item:∀(X:Cx),X.prog=P->X.w=w->X.K=K->X.calm=true->∀(i:Nat) (pins:List (Addr×Obj)) (s:Ux) (σ:St) (H:Hp) (E:Ut->Ux->Prop),Inv X pins σ H s->(∀b∈fp,FpOk X pins H b)->tn i s.heap->J.go i H ->
  wpAny (model P w) X.A (GB (.ref it)) (λr s1=>∃u,r=some u /\
   wpAny (model P w) X.A (Gz tg (.ref it) u) (λ_ s2=>∃x H',Inv X pins σ H' s2/\RelV x u/\J.yld i H x H'/\tn (i+1) s2.heap/\∀b∈fp,H' b=none) E s1) E s
 done:∀(X:Cx),X.prog=P->X.w=w->X.K=K->X.calm=true->∀(i:Nat) (pins:List (Addr×Obj)) (s:Ux) (σ:St) (H:Hp) (E:Ut->Ux->Prop),Inv X pins σ H s->(∀b∈fp,FpOk X pins H b)->tn i s.heap->J.stop i H ->
  wpAny (model P w) X.A (GB (.ref it)) (λr s1=>r=none/\Inv X pins σ H s1) E s
 self:∀(A:U9) (i:Nat) (s:Ux) (Q:Ut->Ux->Prop) (E:Ut->Ux->Prop),tn i s.heap->Q (.ref it) s->wpAny (model P w) A (pyIter (.ref it)) Q E s
abbrev TI:=St->Hp->(It->Hp->Prop)->Prop
def PIE(X:Cx)(pins:List (Addr×Obj))(σ:St)(tg:Expr)(R:It->Hp->Prop)(itv:Ut)(s2:Ux):Prop :=
 ∃(it:Addr) (fp:List Addr) (tn:Nat->Heap->Prop) (J:It) (H':Hp),itv = .ref it/\Inv X pins σ H' s2/\Turn X.prog X.w X.K tg J fp it tn/\tn 0 s2.heap/\(∀b∈fp,FpOk X pins H' b)/\R J H'
def PI(X:Cx)(tg iter:Expr)(wi:TI):Prop :=
 ∀(pins:List (Addr×Obj)) (s:Ux) (σ:St) (H:Hp) (R:It->Hp->Prop),Inv X pins σ H s->wi σ H R ->
   wpAny (model X.prog X.w) X.A (eval iter X.env) (λv s1=>wpAny (model X.prog X.w) X.A (pyIter v) (PIE X pins σ tg R) X.xe s1) X.xe s
theorem zlw(ho:s.heap.get? it=some o)(hc:o.cls = .type n)(hd:o.data = .fields vs)
 (hn:["enumerate", "zip", "dict_itemiterator", "dict_reverseitemiterator", "odict_iterator", "itertools.zip_longest", "itertools.pairwise"].contains n=false) (hQ:Q () s):wpAny M A (Gz tg (.ref it) u) Q E s:=by
 unfold Gz
 cases tg <;> first
  | exact Uv hQ
  | (cases u <;> first
   | exact Uv hQ
   | (refine Us (wpAny_load ho ?_)
      rw[hc,hd];show wpAny M A (if(["enumerate", "zip", "dict_itemiterator", "dict_reverseitemiterator", "odict_iterator", "itertools.zip_longest", "itertools.pairwise"].contains n && vs[0]? == some (rawInt _))=true then _ else _) Q E s;rw[TB (by intro h;rw[hn,Yl] at h;cases h)]
      exact Uv hQ))
def Itl(K:Qa)(a:Addr):It :=
 ⟨λi H=>∃xs x,SqL K H a xs/\xs[i]? = some x,λi H x H'=>H'=H/\∀xs,SqL K H a xs->xs[i]? = some x,λi H=>∃xs,SqL K H a xs/\xs.length<=i⟩
def Itt(K:Qa)(a:Addr):It :=
 ⟨λi H=>∃xs x,SqT K H a xs/\xs[i]? = some x,λi H x H'=>H'=H/\∀xs,SqT K H a xs->xs[i]? = some x,λi H=>∃xs,SqT K H a xs/\xs.length<=i⟩
def Itr(lo:Int)(n:Nat):It:=⟨λi _=>i<n,λi H x H'=>H'=H/\x = .int (lo+i),λi _=>n<=i⟩
theorem zs5{P:Uy}{w:U0}{K:Qa}{tg:Expr}(a it:Addr):Turn P w K tg (Itl K a) [it] it (λi h=>h.IsListIter it a i) where
 mem:=by simp
 obj:=λi h st b hb=>by
  have e:b=it:=by simpa using hb
  subst e;obtain⟨o,e,c,d⟩:=st;exact⟨o,e,λv z=>by rw[d] at z;cases z⟩
 keep:=λi h h' st k=>st.at λo e=>k it (by simp) o e
 item:=by
  intro X hP hw hK hc i pins s σ H E I hf st hg;subst hP hw hK;obtain⟨xs,x,hq,hx⟩:=hg;obtain⟨its,rv,p,hz⟩:=I.list hq;obtain⟨u,hu,ru⟩:=rv.get hx;obtain⟨f0,f1,f2,f3,f4,f5⟩:=hf it (by simp);refine wpAny_pyNext_list_item st p.isList (x:=u) (by simpa using hu) λh' st' sb=>?_;have I1:Inv X pins σ H { s with heap:=h' }:=I.turned (t':=s.toks) (λb o hb e=>(sb.2 b hb).trans e) f0 f1 f3 f4 f5;obtain⟨o,e,c,d⟩:=id st';exact⟨u,rfl,zlw (s:={ s with heap:=h' }) e c d (by decide) ⟨x,H,I1,ru,⟨rfl,λys hy=>by rw[I.list_inj hy hq];exact hx⟩,st',λb hb=>(hf b hb).1⟩⟩
 done:=by
  intro X hP hw hK hc i pins s σ H E I hf st hg;subst hP hw hK;obtain⟨xs,hq,hx⟩:=hg;obtain⟨its,rv,p,hz⟩:=I.list hq;obtain⟨f0,f1,f2,f3,f4,f5⟩:=hf it (by simp);have hl:=rv.length;exact wpAny_pyNext_list_end (I.ok.hd hc) st p.isList (by simp;lia) λh' eb=>⟨rfl,I.turned (t':=s.toks) (λb o hb e=>eb b o hb e) f0 f1 f3 f4 f5⟩
 self:=λ_ _ _ _ _ st h=>wpAny_pyIter_listiter st h
theorem zqq{P:Uy}{w:U0}{K:Qa}{tg:Expr}(a it:Addr):Turn P w K tg (Itt K a) [it] it (λi h=>h.IsTupleIter it a i) where
 mem:=by simp
 obj:=λi h st b hb=>by
  have e:b=it:=by simpa using hb
  subst e;obtain⟨o,e,c,d⟩:=st;exact⟨o,e,λv z=>by rw[d] at z;cases z⟩
 keep:=λi h h' st k=>st.at λo e=>k it (by simp) o e
 item:=by
  intro X hP hw hK hc i pins s σ H E I hf st hg;subst hP hw hK;obtain⟨xs,x,hq,hx⟩:=hg;obtain⟨its,rv,p,hz⟩:=I.tuple hq;obtain⟨u,hu,ru⟩:=rv.get hx;obtain⟨f0,f1,f2,f3,f4,f5⟩:=hf it (by simp);refine wpAny_pyNext_tuple_item st (show s.heap.IsTuple a its.toArray from p) (x:=u) (by simpa using hu) λh' st' sb=>?_;have I1:Inv X pins σ H { s with heap:=h' }:=I.turned (t':=s.toks) (λb o hb e=>(sb.2 b hb).trans e) f0 f1 f3 f4 f5;obtain⟨o,e,c,d⟩:=id st';exact⟨u,rfl,zlw (s:={ s with heap:=h' }) e c d (by decide) ⟨x,H,I1,ru,⟨rfl,λys hy=>by rw[I.tuple_inj hy hq];exact hx⟩,st',λb hb=>(hf b hb).1⟩⟩
 done:=by
  intro X hP hw hK hc i pins s σ H E I hf st hg;subst hP hw hK;obtain⟨xs,hq,hx⟩:=hg;obtain⟨its,rv,p,hz⟩:=I.tuple hq;obtain⟨f0,f1,f2,f3,f4,f5⟩:=hf it (by simp);have hl:=rv.length;exact wpAny_pyNext_tuple_end (I.ok.hd hc) st (show s.heap.IsTuple a its.toArray from p) (by simp;lia) λh' eb=>⟨rfl,I.turned (t':=s.toks) (λb o hb e=>eb b o hb e) f0 f1 f3 f4 f5⟩
 self:=λ_ _ _ _ _ st h=>wpAny_pyIter_tupleiter st h
theorem zqh{P:Uy}{w:U0}{K:Qa}{tg:Expr}(it:Addr)(lo:Int)(n:Nat):Turn P w K tg (Itr lo n) [it] it (λi h=>IsRangeIter h it (lo+(i:Nat) * 1) ((n:Int)-(i:Nat)) 1) where
 mem:=by simp
 obj:=λi h st b hb=>by
  have e:b=it:=by simpa using hb
  subst e
  exact⟨_,st,λv z=>by
   have z':Data.fields _=Data.cell v:=z
   cases z'⟩
 keep:=λi h h' st k=>k it (by simp) _ st
 item:=by
  intro X hP hw hK hc i pins s σ H E I hf st hg;subst hP hw hK;obtain⟨f0,f1,f2,f3,f4,f5⟩:=hf it (by simp);have W:=Walks.range (prog:=X.prog) (w:=X.w) (I.ok.hd hc) it lo 1 n;refine W.item i s _ _ hg st λv h' tk hv st' kk=>?_;obtain⟨t,rfl⟩:=hv;have I1:Inv X pins σ H { s with heap:=h',toks:=tk }:=I.turned (λb o hb e=>kk b o (by simpa using hb) e) f0 f1 f3 f4 f5;refine⟨_,rfl,zlw (s:={ s with heap:=h',toks:=tk }) (n := "range_iterator") st' rfl rfl (by decide) ⟨.int (lo+i),H,I1,⟨t,?_⟩,⟨rfl,rfl⟩,st',λb hb=>(hf b hb).1⟩⟩;rw[Int.mul_one]
 done:=by
  intro X hP hw hK hc i pins s σ H E I hf st hg;subst hP hw hK;obtain⟨f0,f1,f2,f3,f4,f5⟩:=hf it (by simp);exact wpAny_pyNext_range_end (I.ok.hd hc) st (by have:n<=i:=hg;lia) λh' eb=>⟨rfl,I.turned (t':=s.toks) (λb o hb e=>eb b o hb e) f0 f1 f3 f4 f5⟩
 self:=λ_ _ _ _ _ st h=>wpAny_pyIter_rangeiter st h
section
variable {X:Cx}{tg:Expr}
def zg5(K:Qa)(tl:TE):TI:=λσ H R=>tl σ H λx H1=>∃a,x = .ref a/\(∃xs,SqL K H1 a xs)/\R (Itl K a) H1
def iTup(K:Qa)(tl:TE):TI:=λσ H R=>tl σ H λx H1=>∃a,x = .ref a/\(∃xs,SqT K H1 a xs)/\R (Itt K a) H1
theorem zg3(hl:PE X l tl):PI X tg l (zg5 X.K tl):=by
 intro pins s σ H R I h;refine thn (hl pins s σ H _ I h) λv s1 zz=>?_;obtain⟨x,H1,I1,r1,q1⟩:=zz;obtain⟨a,e,⟨xs,hq⟩,q⟩:=q1;subst e;cases r1;obtain⟨its,rv,p,hz⟩:=I1.list hq;refine UT p.isList ?_;refine⟨s1.heap.objs.size,[s1.heap.objs.size],_,_,H1,rfl,I1.kept (t':=s1.toks) λb o e=>Qc _ e,zs5 a _,⟨_,Qt _ rfl,rfl,rfl⟩,λb hb=>?_,q⟩;have e:b=s1.heap.objs.size:=by simpa using hb
 subst e;exact I1.fpOk (Qm _) (I1.hok.fresh (Qm _))
theorem z3i(hl:PE X l tl):PI X tg l (iTup X.K tl):=by
 intro pins s σ H R I h;refine thn (hl pins s σ H _ I h) λv s1 zz=>?_;obtain⟨x,H1,I1,r1,q1⟩:=zz;obtain⟨a,e,⟨xs,hq⟩,q⟩:=q1;subst e;cases r1;obtain⟨its,rv,p,hz⟩:=I1.tuple hq;refine UI (show s1.heap.IsTuple a its.toArray from p) ?_;refine⟨s1.heap.objs.size,[s1.heap.objs.size],_,_,H1,rfl,I1.kept (t':=s1.toks) λb o e=>Qc _ e,zqq a _,⟨_,Qt _ rfl,rfl,rfl⟩,λb hb=>?_,q⟩;have e:b=s1.heap.objs.size:=by simpa using hb
 subst e;exact I1.fpOk (Qm _) (I1.hok.fresh (Qm _))
theorem zu0{pins:List (Addr×Obj)}{R:It->Hp->Prop}{lo hi:Int}{tk:Nat}(I:Inv X pins σ H s)(h1:-(2 ^ 62)<=lo)(h2:lo<2 ^ 62)(h3:-(2 ^ 62)<=hi)(h4:hi<2 ^ 62)
 (q:R (Itr lo (hi-lo).toNat) H):wpAny (model X.prog X.w) X.A (pyIter (.ref s.heap.objs.size)) (PIE X pins σ tg R) E { s with heap:=s.heap.push { cls:=.type "range",data:=.fields #[.int lo t,.int hi u,.int 1 v] },toks:=tk }:=by
 refine wpAny_pyIter_range (IsRange.new ..) (small_one h1 h2 h3 h4) ?_;have I1:Inv X pins σ H { s with heap:=s.heap.push { cls:=.type "range",data:=.fields #[.int lo t,.int hi u,.int 1 v] },toks:=tk }:=I.kept λb o e=>Qc _ e
 refine⟨(s.heap.push { cls:=.type "range",data:=.fields #[.int lo t,.int hi u,.int 1 v] }).objs.size,[(s.heap.push { cls:=.type "range",data:=.fields #[.int lo t,.int hi u,.int 1 v] }).objs.size],_,_,H,rfl,
  I1.kept (t':=tk) λb o e=>Qc _ e,zqh _ lo (hi-lo).toNat,?_,λb hb=>?_,q⟩
 .have e1:lo+((0:Nat):Int) * 1=lo:=by simp
  have e2:(((hi-lo).toNat:Nat):Int)-((0:Nat):Int)=Builtin.Range.rangeSize lo hi 1:=by rw[rangeSize_one];split <;> lia
  show IsRangeIter _ _ (lo+((0:Nat):Int) * 1) ((((hi-lo).toNat:Nat):Int)-((0:Nat):Int)) 1;rw[e1,e2];exact Qt _ rfl
 .have e:b=(s.heap.push { cls:=.type "range",data:=.fields #[.int lo t,.int hi u,.int 1 v] }).objs.size:=by simpa using hb
  subst e;exact I1.fpOk (Qm _) (I1.hok.fresh (Qm _))
def zrl(ta:TA):TI:=λσ H R=>ta σ H λvs H1=>∃j:Int,vs = [.int j]/\-(2 ^ 62)<=j/\j<2 ^ 62/\R (Itr 0 j.toNat) H1
theorem zlk(hg:Gl X "range")(hm:X.mg "range" = none)(ha:PA X [a] ta)(hs:Uw [a] X.env = [(false,eval a X.env)]:=by rfl):PI X tg (.Call (.Name "range" p) [a] [] pos) (zrl ta):=by
 intro pins s σ H R I h;refine Call_ (zcp I hg hm boot_range (Zw (thn (ha pos pins s σ H _ I h) λus s1 zz=>?_) hs rfl));obtain⟨vs,H1,I1,r1,q1⟩:=zz;obtain⟨j,e,q1,q2,q⟩:=q1;subst e
 cases r1 with
 | cons r rr=>
   cases rr;obtain⟨t,rfl⟩:=r;exact call_range_1 (zu0 I1 (by lia) (by lia) q1 q2 (by simpa using q))
def tFor(wi:TI)(g:TG)(tb:TS):TS:=λD σ H=>wi σ H λJ H1=>∃W:Nat->Nat->St->Hp->Prop,(∃m,W 0 m σ H1)/\∀i m σ H,W i m σ H ->
 (J.stop i H/\D.nx σ H)\/(J.go i H/\∃N:St->Hp->Prop,(∀σ' H',N σ' H'->∃m',m'<m/\W (i+1) m' σ' H')/\∀x H',J.yld i H x H'->g x σ H' λσ2 H2=>tb { D with nx:=N,ct:=N,bk:=D.nx } σ2 H2)
def zgz(fp:List Addr)(h:Heap):List (Addr×Obj):=fp.filterMap λb=>(h.get? b).map λo=>(b,o)
theorem zd6{h:Heap}(hb:b∈fp)(e:h.get? b=some o):(b,o)∈zgz fp h:=Vh.mpr ⟨b,hb,by rw[e];rfl⟩
theorem ztx{h:Heap}(hp:p∈zgz fp h):p.1∈fp/\h.get? p.1=some p.2:=by
 obtain⟨b,hb,e⟩:=Vh.mp hp
 cases q:h.get? b with
 | none=>rw[q] at e;cases e
 | some o=>
   rw[q] at e;have e':(b,o)=p:=Zl e;subst e';exact⟨hb,q⟩
theorem Inv.pinned{pins:List (Addr×Obj)}(I:Inv X pins σ H s)(hf:∀b∈fp,FpOk X pins H b)(ho:∀b∈fp,∃o,s.heap.get? b=some o/\∀v,o.data≠.cell v):Inv X (pins++zgz fp s.heap) σ H s :=
 I.pins_of λp hp=>(Q6.mp hp).elim (λz=>I.pin p (QT _ z)) λz=>by
  obtain⟨hb,e⟩:=ztx z;obtain⟨f0,f1,f2,_⟩:=hf p.1 hb;obtain⟨o,e',d⟩:=ho p.1 hb;rw[e] at e';cases e';exact⟨e,f0,f1,f2,d⟩
theorem Inv.unpinned{pins:List (Addr×Obj)}(I:Inv X (pins++pl) σ H s):Inv X pins σ H s:=I.pins_of λp hp=>I.pin p (QT _ (Jb _ hp))
theorem zm4{iter:Expr}{body:List Stmt}(hp:Tn (model X.prog X.w) X.A X.env X.xe)(hc:X.calm=true)(hi:PI X tg iter wi)(hg:PG X tg g)(hb:PSs X body tb)
 (hs:∀x,UF iter X.env x=pure x:=by intro _;rfl):PS X (.For tg iter body [] pos) (tFor wi g tb):=by
 intro pins s σ H D I h;refine wpAny_For (thn (hi pins s σ H _ I h) λv s1 h1=>thn h1 λitv s2 h2=>?_) hs;obtain⟨it,fp,tn,J,H2,e,I2,T,st2,f2,W,⟨m0,w0⟩,turn⟩:=h2;subst e
 -- what stays true of the iterator's objects through the loop
 have stat:∀{H':Hp},(∀b∈fp,H' b=none)->∀b∈fp,FpOk X pins H' b:=λhn b hb=>⟨hn b hb,(f2 b hb).2⟩;refine codeAny_forLoop_any (λn s'=>∃i σ' H',Inv X pins σ' H' s'/\tn i s'.heap/\(∀b∈fp,H' b=none)/\W i n σ' H') ?_ m0 ⟨0,σ,H2,I2,st2,λb hb=>(f2 b hb).1,w0⟩;rintro n s3 ⟨i,σ3,H3,I3,st3,fr3,w3⟩;rcases turn i n σ3 H3 w3 with ⟨stop,qn⟩|⟨go,N,hN,step⟩
 .refine US hp (thn (T.done X rfl rfl rfl hc i pins s3 σ3 H3 X.xe I3 (stat fr3) st3 stop) λr s4 zz=>?_);obtain⟨hr,I4⟩:=zz;subst hr;exact UL ⟨σ3,H3,I4,qn⟩
 .refine US hp (thn (T.item X rfl rfl rfl hc i pins s3 σ3 H3 X.xe I3 (stat fr3) st3 go) λr s4 zz=>?_);obtain⟨u,hr,h4⟩:=zz;subst hr;refine US hp (thn h4 λ_ s5 zz=>?_);obtain⟨x,H5,I5,r5,y5,st5,fr5⟩:=zz;have I5':=I5.pinned (stat fr5) (T.obj _ _ st5);refine US hp (thn (hg _ s5 σ3 H5 x u _ I5' r5 (step x H5 y5)) λ_ s6 zz=>?_);obtain⟨σ6,H6,I6,q6⟩:=zz;refine US hp (thn (hb _ s6 σ6 H6 _ I6 q6) λf s7 q7=>?_)
  have again:∀{σ7:St} {H7:Hp},Inv X (pins++zgz fp s5.heap) σ7 H7 s7->N σ7 H7->∃m,m<n/\∃i σ' H',Inv X pins σ' H' s7/\tn i s7.heap/\(∀b∈fp,H' b=none)/\W i m σ' H':=λ{σ7 H7} I7 n7=>by
   obtain⟨m',hm,w7⟩:=hN σ7 H7 n7;refine⟨m',hm,i+1,σ7,H7,I7.unpinned,T.keep _ _ _ st5 λb hb o e=>(I7.pin (b,o) (QT _ (QT _ (zd6 hb e)))).1,λb hb=>?_,w7⟩;obtain⟨o,e,d⟩:=T.obj _ _ st5 b hb;exact(I7.pin (b,o) (QT _ (QT _ (zd6 hb e)))).2.1
  cases f with
  | next=>obtain⟨σ7,H7,I7,n7⟩:=q7;exact again I7 n7
  | cont=>obtain⟨σ7,H7,I7,n7⟩:=q7;exact again I7 n7
  | brk=>obtain⟨σ7,H7,I7,q7⟩:=q7;exact⟨σ7,H7,I7.unpinned,q7⟩
  | ret v=>obtain⟨x7,σ7,H7,I7,r7,q7⟩:=q7;exact⟨x7,σ7,H7,I7.unpinned,r7,q7⟩
end
theorem zu6{K:Qa}{a:Addr}{xs:List V}{g:TG}{tb:TS}{D:Ends}{σ:St}{H:Hp}(Pv:Nat->St->Hp->Prop)(h0:Pv 0 σ H)(hl:∀i σ H,i<=xs.length->Pv i σ H->SqL K H a xs)
 (hs:∀i x σ H,xs[i]? = some x->Pv i σ H->g x σ H λσ2 H2=>tb { D with nx:=Pv (i+1),ct:=Pv (i+1),bk:=D.nx } σ2 H2) (hd:∀σ H,Pv xs.length σ H->D.nx σ H) :
 ∃W:Nat->Nat->St->Hp->Prop,(∃m,W 0 m σ H)/\∀i m σ H,W i m σ H ->
   ((Itl K a).stop i H/\D.nx σ H)\/((Itl K a).go i H/\∃N:St->Hp->Prop,(∀σ' H',N σ' H'->∃m',m'<m/\W (i+1) m' σ' H')/\∀x H',(Itl K a).yld i H x H'->g x σ H' λσ2 H2=>tb { D with nx:=N,ct:=N,bk:=D.nx } σ2 H2):=by
 refine⟨λi m σ H=>m=xs.length-i/\i<=xs.length/\Pv i σ H,⟨xs.length,by simp,QL _,h0⟩,?_⟩;rintro i m σ H ⟨rfl,hi,p⟩;have q:=hl i σ H hi p
 by_cases hlt:i<xs.length
 .refine .inr ⟨⟨xs,xs[i],q,by simp[hlt]⟩,Pv (i+1),λσ' H' p'=>⟨xs.length-(i+1),by lia,rfl,hlt,p'⟩,λx H' y=>?_⟩;obtain⟨e,y⟩:=y;subst e;exact hs i x σ _ (y xs q) p
 .have e:i=xs.length:=by lia
  subst e;exact .inl ⟨⟨xs,q,Qm _⟩,hd σ H p⟩
abbrev R2:=V->V->Hp->VK->Prop
def OpR(X:Cx)(f:Ut->Ut->Sem Ut)(r:R2):Prop :=
 ∀(pins:List (Addr×Obj)) (s:Ux) (σ:St) (H:Hp) (x y:V) (v u:Ut) (Q:VK),Inv X pins σ H s->RelV x v->RelV y u->r x y H Q ->
   wpAny (model X.prog X.w) X.A (f v u) (EP X pins σ Q) X.xe s
def UnR(X:Cx)(f:Ut->Sem Ut)(r:V->Hp->VK->Prop):Prop :=
 ∀(pins:List (Addr×Obj)) (s:Ux) (σ:St) (H:Hp) (x:V) (v:Ut) (Q:VK),Inv X pins σ H s->RelV x v->r x H Q ->
   wpAny (model X.prog X.w) X.A (f v) (EP X pins σ Q) X.xe s
def CallR(X:Cx)(f:Ut)(r:List V->Hp->VK->Prop):Prop :=
 ∀(pins:List (Addr×Obj)) (s:Ux) (σ:St) (H:Hp) (xs:List V) (us:List Ut) (Q:VK),Inv X pins σ H s->Vals xs us->r xs H Q ->
   wpAny (model X.prog X.w) X.A (call f us) (EP X pins σ Q) X.xe s
def TruR(X:Cx)(r:V->Hp->(Bool->Hp->Prop)->Prop):Prop :=
 ∀(pins:List (Addr×Obj)) (s:Ux) (σ:St) (H:Hp) (x:V) (v:Ut) (Q:Bool->Hp->Prop),Inv X pins σ H s->RelV x v->r x H Q ->
   wpAny (model X.prog X.w) X.A (truthy v) (TP X pins σ Q) X.xe s
def tOp(r:R2)(ta tb:TE):TE:=λσ H Q=>ta σ H λx H1=>tb σ H1 λy H2=>r x y H2 Q
def tUn(r:V->Hp->VK->Prop)(ta:TE):TE:=λσ H Q=>ta σ H λx H1=>r x H1 Q
def rI(C:Int->Int->Prop)(g:Int->Int->V):R2:=λx y H Q=>∃i j,x = .int i/\y = .int j/\C i j/\Q (g i j) H
def rI0(g:Int->Int->V):R2:=λx y H Q=>∃i j,x = .int i/\y = .int j/\Q (g i j) H
def rU(g:Int->V):V->Hp->VK->Prop:=λx H Q=>∃i,x = .int i/\Q (g i) H
section
variable {X:Cx}{a b c:Expr}{ta tb tc:TE}{pos:Pos}
theorem binT(ha:PE X a ta)(hb:PE X b tb){pins:List (Addr×Obj)}{s:Ux}{σ:St}{H:Hp}{R:V->V->Hp->Prop}(I:Inv X pins σ H s)
 (h:ta σ H λx H1=>tb σ H1 λy H2=>R x y H2) {Q:Ut->Ux->Prop} {f:Ut->Ut->Sem Ut}
 (hf:∀v u s2 x y H2,Inv X pins σ H2 s2->RelV x v->RelV y u->R x y H2->wpAny (model X.prog X.w) X.A (f v u) Q X.xe s2) :
 wpAny (model X.prog X.w) X.A (eval a X.env) (λv s₁=>wpAny (model X.prog X.w) X.A (eval b X.env) (λu s₂=>wpAny (model X.prog X.w) X.A (f v u) Q X.xe s₂) X.xe s₁) X.xe s:=by
 refine thn (ha pins s σ H _ I h) λv s1 zz=>?_;obtain⟨x,H1,I1,r1,q1⟩:=zz;refine thn (hb pins s1 σ H1 _ I1 q1) λu s2 zz=>?_;obtain⟨y,H2,I2,r2,q2⟩:=zz;exact hf v u s2 x y H2 I2 r1 r2 q2
theorem zbl(ho:OpR X (UW op) r)(ha:PE X a ta)(hb:PE X b tb):PE X (.BinOp a op b pos) (tOp r ta tb):=by
 intro pins s σ H Q I h;exact wpAny_BinOp (binT ha hb I h λv u s2 x y H2 I2 rx ry q=>ho pins s2 σ H2 x y v u Q I2 rx ry q)
theorem z6k(ho:UnR X (unaryOp op) r)(ha:PE X a ta):PE X (.UnaryOp op a pos) (tUn r ta):=by
 intro pins s σ H Q I h;exact UnaryOp_ (thn (ha pins s σ H _ I h) λv s1 ⟨x,H1,I1,r1,q1⟩=>ho pins s1 σ H1 x v Q I1 r1 q1)
theorem opI{f:Ut->Ut->Sem Ut}{C:Int->Int->Prop}{g:Int->Int->Int}
 (rule:∀(i j:Int) (t u:Tok) (s:Ux) (Q:Ut->Ux->Prop) (E:Ut->Ux->Prop),C i j->Q (.int (g i j) s.toks) { s with toks:=s.toks+1 }->wpAny (model X.prog X.w) X.A (f (.int i t) (.int j u)) Q E s) :
 OpR X f (rI C λi j=>.int (g i j)):=by
 intro pins s σ H x y v u Q I rx ry h;obtain⟨i,j,rfl,rfl,hc,q⟩:=h;obtain⟨t,rfl⟩:=rx;obtain⟨t',rfl⟩:=ry;exact rule i j t t' s _ _ hc ⟨.int (g i j),H,I.tok _,⟨_,rfl⟩,q⟩
theorem opI0{f:Ut->Ut->Sem Ut}{g:Int->Int->Int}
 (rule:∀(i j:Int) (t u:Tok) (s:Ux) (Q:Ut->Ux->Prop) (E:Ut->Ux->Prop),Q (.int (g i j) s.toks) { s with toks:=s.toks+1 }->wpAny (model X.prog X.w) X.A (f (.int i t) (.int j u)) Q E s) :
 OpR X f (rI0 λi j=>.int (g i j)):=by
 intro pins s σ H x y v u Q I rx ry h;obtain⟨i,j,rfl,rfl,q⟩:=h;obtain⟨t,rfl⟩:=rx;obtain⟨t',rfl⟩:=ry;exact rule i j t t' s _ _ ⟨.int (g i j),H,I.tok _,⟨_,rfl⟩,q⟩
theorem opB0{f:Ut->Ut->Sem Ut}{g:Int->Int->Bool}
 (rule:∀(i j:Int) (t u:Tok) (s:Ux) (Q:Ut->Ux->Prop) (E:Ut->Ux->Prop),Q (.bool (g i j)) s->wpAny (model X.prog X.w) X.A (f (.int i t) (.int j u)) Q E s) :
 OpR X f (rI0 λi j=>.bl (g i j)):=by
 intro pins s σ H x y v u Q I rx ry h;obtain⟨i,j,rfl,rfl,q⟩:=h;obtain⟨t,rfl⟩:=rx;obtain⟨t',rfl⟩:=ry;exact rule i j t t' s _ _ ⟨.bl (g i j),H,I,rfl,q⟩
def CDiv(i j:Int):Prop:=0<j/\j<1073741824
def CPow(i j:Int):Prop:=0<=j/\j<=1000000/\i.natAbs<2 ^ 64
def CMul(i j:Int):Prop:=(-(2 ^ 64)<i/\i<2 ^ 64)\/(-(2 ^ 64)<j/\j<2 ^ 64)
theorem CMul.ok{i j:Int}(h:CMul i j):IntMulOk i j:=by
 rcases h with ⟨h1,h2⟩|⟨h1,h2⟩
 .exact .of_left (intBits_le_64 h1 h2)
 .exact .of_right (intBits_le_64 h1 h2)
theorem op_add:OpR X (UW .Add) (rI0 λi j=>.int (i+j)):=opI0 λ_ _ _ _ _ _ _ q=>add_int q
theorem zum:OpR X (UW .Sub) (rI0 λi j=>.int (i-j)):=opI0 λ_ _ _ _ _ _ _ q=>sub_int q
theorem zfj:OpR X (UW .Mult) (rI CMul λi j=>.int (i * j)):=opI λ_ _ _ _ _ _ _ hc q=>mul_int q hc.ok
theorem zxz:OpR X (UW .FloorDiv) (rI CDiv λi j=>.int (i / j)):=opI λi j _ _ _ _ _ hc q=>by
 have h1:(0:Int)<j:=hc.1;have h2:j<1073741824:=hc.2;exact floordiv_int (by lia) (by rw[Int.fdiv_eq_ediv_of_nonneg i (by lia)];exact q) (.inl (PyProof.noPylong_small (by lia)))
theorem zdo:OpR X (UW .Mod) (rI (λ_ j=>0<j) λi j=>.int (i % j)):=opI λi j _ _ _ _ _ hc q=>by
 have h1:(0:Int)<j:=hc;exact mod_int' (by lia) (by rw[Int.fmod_eq_emod_of_nonneg i (by lia)];exact q)
theorem zsa:OpR X (UW .Pow) (rI CPow λi j=>.int (i ^ j.toNat)):=opI λ_ _ _ _ _ _ _ hc q=>pow_int_small hc.1 hc.2.1 hc.2.2 q
theorem unI{f:Ut->Sem Ut}{g:Int->Int}
 (rule:∀(i:Int) (t:Tok) (s:Ux) (Q:Ut->Ux->Prop) (E:Ut->Ux->Prop),Q (.int (g i) s.toks) { s with toks:=s.toks+1 }->wpAny (model X.prog X.w) X.A (f (.int i t)) Q E s) :
 UnR X f (rU λi=>.int (g i)):=by
 intro pins s σ H x v Q I rx h;obtain⟨i,rfl,q⟩:=h;obtain⟨t,rfl⟩:=rx;exact rule i t s _ _ ⟨.int (g i),H,I.tok _,⟨_,rfl⟩,q⟩
theorem z1q:UnR X (unaryOp .USub) (rU λi=>.int (-i)):=unI λ_ _ _ _ _ q=>neg_int q
end
def scal:V->V->Bool
 | .non,.non=>true | .non,.int _=>true | .int _,.non=>true | .non,.bl _=>true | .bl _,.non=>true | .non,.str _=>true | .str _,.non=>true
 | .int _,.int _=>true | .bl _,.bl _=>true | .str _,.str _=>true | .byt _,.byt _=>true
 | .int _,.str _=>true | .str _,.int _=>true | .bl _,.str _=>true | .str _,.bl _=>true
 | _,_=>false
def rEq:R2:=λx y H Q=>scal x y=true/\Q (.bl (decide (x=y))) H
theorem zzw{i j:Int}:decide (V.int i=V.int j)=(i == j):=by
 rw[ZP];simp
theorem z3u{i j:Bool}:decide (V.bl i=V.bl j)=(i == j):=by
 rw[ZP];simp
theorem z0w: decide (V.str i=V.str j)=(i == j):=by
 rw[ZP];simp
theorem zym: decide (V.byt i=V.byt j)=(i.toList == j.toList):=by
 rw[ZP];cases i;cases j;simp
section
variable {X:Cx}{a b c:Expr}{ta tb tc:TE}{pos:Pos}
theorem zbh{pins:List (Addr×Obj)}{k k':Bool}(I:Inv X pins σ H s)(q:Q (.bl k) H)(e:k=k'):EP X pins σ Q (.bool k') s:=by
 subst e;exact⟨.bl k,H,I,rfl,q⟩
theorem z5s:OpR X (U6 .Eq) rEq:=by
 intro pins s σ H x y v u Q I rx ry h;obtain⟨hs,q⟩:=h
 cases x with
 | non=>
   cases rx
   cases y with
   | non=>cases ry;exact PySem.EqNone.eq_none_none (zbh I q (by simp))
   | bl j=>cases ry;exact PySem.EqNone.eq_none_bool (zbh I q (by simp))
   | int j=>obtain⟨t',rfl⟩:=ry;exact PySem.EqNone.eq_none_int (zbh I q (by simp))
   | str j=>obtain⟨t',rfl⟩:=ry;exact PySem.EqNone.eq_none_str (zbh I q (by simp))
   | _=>exact absurd (show false=true from hs) Qo
 | bl i=>
   cases rx
   cases y with
   | non=>cases ry;exact PySem.EqNone.eq_bool_none (zbh I q (by simp))
   | bl j=>cases ry;exact eq_bool (zbh I q z3u)
   | str j=>obtain⟨t',rfl⟩:=ry;exact PySem.EqMixed.eq_bool_str (zbh I q (by simp))
   | _=>exact absurd (show false=true from hs) Qo
 | int i=>
   obtain⟨t,rfl⟩:=rx
   cases y with
   | non=>cases ry;exact PySem.EqNone.eq_int_none (zbh I q (by simp))
   | int j=>obtain⟨t',rfl⟩:=ry;exact eq_int (zbh I q zzw)
   | str j=>obtain⟨t',rfl⟩:=ry;exact PySem.EqMixed.eq_int_str (zbh I q (by simp))
   | _=>exact absurd (show false=true from hs) Qo
 | str i=>
   obtain⟨t,rfl⟩:=rx
   cases y with
   | non=>cases ry;exact PySem.EqNone.eq_str_none (zbh I q (by simp))
   | bl j=>cases ry;exact PySem.EqMixed.eq_str_bool (zbh I q (by simp))
   | int j=>obtain⟨t',rfl⟩:=ry;exact PySem.EqMixed.eq_str_int (zbh I q (by simp))
   | str j=>obtain⟨t',rfl⟩:=ry;exact eq_str (zbh I q z0w)
   | _=>exact absurd (show false=true from hs) Qo
 | byt i=>
   obtain⟨t,rfl⟩:=rx
   cases y with
   | byt j=>obtain⟨t',rfl⟩:=ry;exact PySem.W.eq_bytes (zbh I q zym)
   | _=>exact absurd (show false=true from hs) Qo
 | _=>cases y <;> exact absurd (show false=true from hs) Qo
theorem zqm:OpR X (U6 .Lt) (rI0 λi j=>.bl (decide (i<j))):=opB0 λ_ _ _ _ _ _ _ q=>lt_int q
theorem zws:OpR X (U6 .LtE) (rI0 λi j=>.bl (decide (i<=j))):=opB0 λ_ _ _ _ _ _ _ q=>le_int q
theorem zp5:OpR X (U6 .Gt) (rI0 λi j=>.bl (decide (j<i))):=opB0 λ_ _ _ _ _ _ _ q=>gt_int q
theorem z5w:OpR X (U6 .GtE) (rI0 λi j=>.bl (decide (j<=i))):=opB0 λ_ _ _ _ _ _ _ q=>ge_int q
theorem op_in_str:OpR X (U6 .In) (λx y H Q=>∃i j,x = .str i/\y = .str j/\Q (.bl (!(Z9 j i 0 j.length 1).isEmpty)) H):=by
 intro pins s σ H x y v u Q I rx ry h;obtain⟨i,j,rfl,rfl,q⟩:=h;obtain⟨t,rfl⟩:=rx;obtain⟨t',rfl⟩:=ry;exact in_str (zbh I q rfl)
theorem z3m:OpR X (U6 .Is) (λx y H Q=>y = .non/\Q (.bl (decide (x = .non))) H):=by
 intro pins s σ H x y v u Q I rx ry h;obtain⟨rfl,q⟩:=h;cases ry;refine is_none_gen (zbh I q ?_)
 cases x <;> first
  | (cases rx;rfl)
  | (obtain⟨t,rfl⟩:=rx;rfl)
theorem zpg:OpR X (U6 .IsNot) (λx y H Q=>y = .non/\Q (.bl (!decide (x = .non))) H):=by
 intro pins s σ H x y v u Q I rx ry h;obtain⟨rfl,q⟩:=h;cases ry;refine isnot_none_gen (zbh I q ?_)
 cases x <;> first
  | (cases rx;rfl)
  | (obtain⟨t,rfl⟩:=rx;rfl)
theorem OpR.or(h:OpR X f r)(h':OpR X f r'):OpR X f (λx y H Q=>r x y H Q\/r' x y H Q):=by
 intro pins s σ H x y v u Q I rx ry q;rcases q with q|q
 .exact h pins s σ H x y v u Q I rx ry q
 .exact h' pins s σ H x y v u Q I rx ry q
theorem zb7(b:Expr)(h:op≠.In:=by decide)(h2:op≠.NotIn:=by decide):UU op b=false:=by
 have e1:(op == CmpOp.In)=false:=by cases op <;> first|rfl|exact absurd rfl h
 have e2:(op == CmpOp.NotIn)=false:=by cases op <;> first|rfl|exact absurd rfl h2
 cases b <;> simp[UU,e1,e2]
theorem zze(ho:OpR X (U6 op) r)(ha:PE X a ta)(hb:PE X b tb)(hm:UU op b=false):PE X (.Compare a [op] [b] pos) (tOp r ta tb):=by
 intro pins s σ H Q I h;exact wpAny_Compare1 (binT ha hb I h λv u s2 x y H2 I2 rx ry q=>ho pins s2 σ H2 x y v u Q I2 rx ry q) hm
def zdm(t:TE):TT:=λσ H Q=>t σ H λx H'=>∃k,x = .bl k/\Q k H'
theorem zfc(ho:OpR X (U6 op) r)(ha:PE X a ta)(hb:PE X b tb)(hm:UU op b=false):PT X (.Compare a [op] [b] pos) (zdm (tOp r ta tb)):=by
 intro pins s σ H Q I h
 refine GQ (thn (ha pins s σ H _ I h) λv s1 ⟨x,H1,I1,r1,q1⟩=>thn (hb pins s1 σ H1 _ I1 q1) λu s2 ⟨y,H2,I2,r2,q2⟩=>
  thn (ho pins s2 σ H2 x y v u _ I2 r1 r2 q2) λc s3 ⟨z,H3,I3,r3,k,e,q3⟩=>?_) hm
 subst e;cases r3;exact UC ⟨H3,I3,q3⟩
def zmu(r r':R2)(ta tb tc:TE):TE:=λσ H Q=>ta σ H λx H1=>tb σ H1 λy H2=>r x y H2 λz H3=>∃k,z = .bl k /\
 (if k=true then tc σ H3 λw' H4=>r' y w' H4 Q else Q (.bl false) H3)
theorem zv9(ho:OpR X (U6 op) r)(ho':OpR X (U6 op') r')(ha:PE X a ta)(hb:PE X b tb)(hc:PE X c tc)
 (hm:GY [op,op'] [b,c]=false:=by with_unfolding_all rfl):PE X (.Compare a [op,op'] [b,c] pos) (zmu r r' ta tb tc):=by
 intro pins s σ H Q I h
 refine Compare_chain (thn (ha pins s σ H _ I h) λv s1 ⟨x,H1,I1,r1,q1⟩=>chain_link (thn (hb pins s1 σ H1 _ I1 q1) λu s2 ⟨y,H2,I2,r2,q2⟩=>
  thn (ho pins s2 σ H2 x y v u _ I2 r1 r2 q2) λd s3 ⟨z,H3,I3,r3,k,e,q3⟩=>?_)) hm
 subst e;cases r3;refine UC ?_
 cases k with
 | false=>exact ite_ff ⟨.bl false,H3,I3,rfl,q3⟩
 | true=>exact ite_tt (chain_last (thn (hc pins s3 σ H3 _ I3 q3) λw' s4 ⟨z',H4,I4,r4,q4⟩=>ho' pins s4 σ H4 y z' u w' Q I4 r2 r4 q4))
theorem zuu(ho:OpR X (U6 op) r)(ho':OpR X (U6 op') r')(ha:PE X a ta)(hb:PE X b tb)(hc:PE X c tc)
 (hm:GY [op,op'] [b,c]=false:=by with_unfolding_all rfl):PT X (.Compare a [op,op'] [b,c] pos) (zdm (zmu r r' ta tb tc)):=by
 intro pins s σ H Q I h
 refine isTrue_chain (thn (ha pins s σ H _ I h) λv s1 ⟨x,H1,I1,r1,q1⟩=>test_link (thn (hb pins s1 σ H1 _ I1 q1) λu s2 ⟨y,H2,I2,r2,q2⟩=>
  thn (ho pins s2 σ H2 x y v u _ I2 r1 r2 q2) λd s3 ⟨z,H3,I3,r3,k,e,q3⟩=>?_)) hm
 subst e;cases r3;refine UC ?_
 cases k with
 | false=>
   obtain⟨k',e',q'⟩:=q3;cases e';exact ite_ff ⟨H3,I3,q'⟩
 | true=>
   refine ite_tt (test_last (thn (hc pins s3 σ H3 _ I3 q3) λw' s4 ⟨z',H4,I4,r4,q4⟩=>thn (ho' pins s4 σ H4 y z' u w' _ I4 r2 r4 q4) λd' s5 zz=>?_));obtain⟨z2,H5,I5,r5,k2,e2,q5⟩:=zz;subst e2;cases r5;exact UC ⟨H5,I5,q5⟩
def TruV(K:Qa)(x:V)(H:Hp)(k:Bool):Prop :=
 match x with
 | .non=>k=false
 | .bl b=>k=b
 | .int i=>k=(i != 0)
 | .str y=>y.length<=sizeLine/\k=((y.length:Int) != 0)
 | .byt y=>y.size<=sizeLine/\k=((y.size:Int) != 0)
 | .ref p=>(∃xs,SqL K H p xs/\k = !xs.isEmpty)\/(∃xs,SqT K H p xs/\k = !xs.isEmpty)\/∃kvs,H p=some (.dK kvs)/\k = !kvs.isEmpty
 | _=>False
theorem zp4{κ:Type}{kvs:List (κ×V)}{vs:List (κ×Ut)}(r:KV kvs vs):(!vs.isEmpty) = !kvs.isEmpty:=by
 cases r <;> rfl
theorem ziy(r:Vals xs its):(!its.toArray.isEmpty) = !xs.isEmpty:=by
 cases r <;> simp
theorem zfe:(sizeLine:Nat)<2 ^ 63:=by rw[Uz];decide
theorem z4e:TruR X (λx H Q=>∃k,TruV X.K x H k/\Q k H):=by
 intro pins s σ H x v Q I rx h;obtain⟨k,e,q⟩:=h;have hl:=zfe;have hs:sizeLine=16777216:=Uz
 cases x with
 | non=>
   cases rx;have e':k=false:=e;subst e';exact truthy_none ⟨H,I,q⟩
 | bl b=>
   cases rx;have e':k=b:=e;subst e';exact UC ⟨H,I,q⟩
 | int i=>
   obtain⟨t,rfl⟩:=rx;have e':k=(i != 0):=e;subst e';exact PySem.P.truthy_int ⟨H,I,q⟩
 | str y=>
   obtain⟨t,rfl⟩:=rx;obtain⟨hy,e'⟩:y.length<=sizeLine/\k=((y.length:Int) != 0):=e;subst e';exact PySem.P.truthy_str (by lia) ⟨H,I.tok _,q⟩
 | byt y=>
   obtain⟨t,rfl⟩:=rx;obtain⟨hy,e'⟩:y.size<=sizeLine/\k=((y.size:Int) != 0):=e;subst e';exact PySem.W.truthy_bytes (by lia) ⟨H,I.tok _,q⟩
 | ref p=>
   cases rx;have e':(∃xs,SqL X.K H p xs/\k = !xs.isEmpty)\/(∃xs,SqT X.K H p xs/\k = !xs.isEmpty)\/∃kvs,H p=some (.dK kvs)/\k = !kvs.isEmpty:=e;rcases e' with ⟨xs,hx,e'⟩|⟨xs,hx,e'⟩|⟨kvs,hx,e'⟩
   .subst e';obtain⟨its,r,pl,hz⟩:=I.list hx;have hlen:=r.length;exact wpAny_truthy_list pl.isList (by simp only[Qp];lia) ⟨H,I.tok _,by rw[ziy r];exact q⟩
   .subst e';obtain⟨its,r,pl,hz⟩:=I.tuple hx;have hlen:=r.length;exact truthy_tuple pl (by simp only[Qp];lia) ⟨H,I.tok _,by rw[ziy r];exact q⟩
   .subst e';obtain⟨hz,hS,vs,r,m⟩:kvs.length<=sizeLine/\(p == UY)=false/\∃vs,KV kvs vs/\s.heap.DictOf (zbn X.prog X.w) p vs:=I.hok p _ hx;have hlen:kvs.length=vs.length:=Y1 r;exact wpAny_truthy_dict hS m (by lia) ⟨H,I.tok _,by rw[zp4 r];exact q⟩
 | _=>exact(show False from e).elim
theorem zwg(ha:PE X a ta)(he:∀whole,isTrue a X.env whole=(do let v <- whole;standAt a.pos;holding [v] (truthy v))):
 PT X a (λσ H Q=>ta σ H λx H'=>∃k,TruV X.K x H' k/\Q k H'):=by
 intro pins s σ H Q I h;exact isTrue_plain (thn (ha pins s σ H _ I h) λv s1 ⟨x,H1,I1,r1,q1⟩=>z4e pins s1 σ H1 x v Q I1 r1 q1) (he _)
theorem op_add_str:OpR X (UW .Add) (λx y H Q=>∃i j,x = .str i/\y = .str j/\i.length+j.length<=sizeLine/\Q (.str (i++j)) H):=by
 intro pins s σ H x y v u Q I rx ry h;obtain⟨i,j,rfl,rfl,hz,q⟩:=h;obtain⟨t,rfl⟩:=rx;obtain⟨t',rfl⟩:=ry;exact add_str (λt' tk=>⟨.str (i++j),H,I.tok _,⟨_,rfl⟩,q⟩) hz
theorem zjf(r:Vals [x] us):∃u,us = [u]/\RelV x u:=by
 cases r with
 | cons r1 r2=>cases r2;exact⟨_,rfl,r1⟩
theorem z5e(r:Vals [x,y] us):∃u w',us = [u,w']/\RelV x u/\RelV y w':=by
 cases r with
 | cons r1 r2=>
   cases r2 with
   | cons r3 r4=>cases r4;exact⟨_,_,rfl,r1,r3⟩
theorem zt5(hc:X.calm=true):CallR X (.builtin "max") (λxs H Q=>∃i j,xs = [.int i,.int j]/\Q (.int (if j > i then j else i)) H):=by
 intro pins s σ H xs us Q I r h;obtain⟨i,j,rfl,q⟩:=h;obtain⟨u,w',rfl,⟨t,rfl⟩,⟨t',rfl⟩⟩:=z5e r;refine max_two_ints (I.ok.hd hc) λh' tk k=>⟨_,H,I.kept k,?_,q⟩
 by_cases hj:j > i
 .rw[T0 hj,T0 hj];exact⟨_,rfl⟩
 .rw[TB hj,TB hj];exact⟨_,rfl⟩
theorem zti:CallR X (.type "int") (λxs H Q=>(∃i,xs = [.int i]/\Q (.int i) H)\/∃k,xs = [.bl k]/\Q (.int (if k then 1 else 0)) H):=by
 intro pins s σ H xs us Q I r h;rcases h with ⟨i,rfl,q⟩|⟨k,rfl,q⟩
 .obtain⟨u,rfl,t,rfl⟩:=zjf r;exact call_int_int ⟨.int i,H,I,⟨_,rfl⟩,q⟩
 .obtain⟨u,rfl,r1⟩:=zjf r;cases r1;exact call_int_bool ⟨.int (if k then 1 else 0),H,I.tok _,⟨_,rfl⟩,q⟩
def LenV(K:Qa)(x:V)(H:Hp)(n:Nat):Prop :=
 match x with
 | .str y=>y.length<=sizeLine/\n=y.length
 | .byt y=>y.size<=sizeLine/\n=y.size
 | .ref p=>(∃xs,SqL K H p xs/\n=xs.length)\/∃xs,SqT K H p xs/\n=xs.length
 | _=>False
theorem zhu:CallR X (.builtin "len") (λxs H Q=>∃x n,xs = [x]/\LenV X.K x H n/\Q (.int n) H):=by
 intro pins s σ H xs us Q I r h;obtain⟨x,n,rfl,e,q⟩:=h;obtain⟨u,rfl,rx⟩:=zjf r;have hl:=zfe;have hs:sizeLine=16777216:=Uz
 cases x with
 | str y=>
   obtain⟨t,rfl⟩:=rx;obtain⟨hy,e'⟩:y.length<=sizeLine/\n=y.length:=e;subst e';exact len_str (by lia) ⟨.int _,H,I.tok _,⟨_,rfl⟩,q⟩
 | byt y=>
   obtain⟨t,rfl⟩:=rx;obtain⟨hy,e'⟩:y.size<=sizeLine/\n=y.size:=e;subst e';exact PySem.W.len_bytes (by lia) ⟨.int _,H,I.tok _,⟨_,rfl⟩,q⟩
 | ref p=>
   cases rx;have e':(∃xs,SqL X.K H p xs/\n=xs.length)\/∃xs,SqT X.K H p xs/\n=xs.length:=e;rcases e' with ⟨xs,hx,e'⟩|⟨xs,hx,e'⟩
   .subst e';obtain⟨its,r',pl,hz⟩:=I.list hx;have hlen:=r'.length;exact Calls.call_len_list pl.isList (by simp only[Qp];lia) ⟨.int xs.length,H,I.tok _,⟨_,by simp only[Qp];rw[hlen]⟩,q⟩
   .subst e';obtain⟨its,r',pl,hz⟩:=I.tuple hx;have hlen:=r'.length;exact len_tuple pl (by simp only[Qp];lia) ⟨.int xs.length,H,I.tok _,⟨_,by simp only[Qp];rw[hlen]⟩,q⟩
 | _=>exact(show False from e).elim
end
theorem zt2{h:Heap}{dx:Addr}{mA:Str->Option Ut}(n:h.Ns1 dx mA):∃od,h.get? dx=some od/\∀name,Ym name od=some (mA name):=by
 obtain⟨o,es,ep,ho,hd,hk,_,hm⟩:=n;refine⟨o,ho,λname=>?_⟩;have e:=hm name;unfold nsFind findBy at e;rw[<- Array.find?_toList] at e;unfold Ym;rw[hd];dsimp only
 split
 .rename_i y q
  rw[q] at e;exact congrArg some e
 .rename_i q
  rw[q] at e
  have a:es.toList.any (·.refKey)=false:=by
   rw[List.any_eq_false];intro y hy;obtain⟨z,t,hkey⟩:=hk y (YR.mp hy);simp[DictEntry.refKey,hkey]
  have a':¬es.toList.any (·.refKey)=true:=by rw[a];exact Qo
  rw[TB a'];exact congrArg some e
def putF(f:Str)(v:V):List (Str×V)->List (Str×V)
 | []=>[(f,v)]
 | (g,x)::r=>if g=f then(g,v)::r else(g,x)::putF f v r
theorem zhn(f g:Str)(v:V):∀fs:List (Str×V),(putF f v fs).lookup g=if g=f then some v else fs.lookup g
 | []=>by
   show Jm g [(f,v)]=_
   by_cases h:g=f
   .have hb:(g == f)=true:=beq_iff_eq.mpr h;simp only[Jm,hb,T0 h]
   .have hb:(g == f)=false:=beq_eq_false_iff_ne.mpr h;simp only[Jm,hb,TB h]
 | (k,x)::r=>by
   have ih:=zhn f g v r;rw[show putF f v ((k,x)::r)=(if k=f then(k,v)::r else(k,x)::putF f v r) from rfl]
   by_cases hk:k=f
   .rw[T0 hk]
    by_cases h:g=k
    .have hb:(g == k)=true:=beq_iff_eq.mpr h;simp only[Jm,hb,T0 (h.trans hk)]
    .have hb:(g == k)=false:=beq_eq_false_iff_ne.mpr h;simp only[Jm,hb,TB (λe:g=f=>h (e.trans hk.symm))]
   .rw[TB hk]
    by_cases h:g=k
    .have hb:(g == k)=true:=beq_iff_eq.mpr h;simp only[Jm,hb,TB (λe:g=f=>hk (h.symm.trans e))]
    .have hb:(g == k)=false:=beq_eq_false_iff_ne.mpr h;simp only[Jm,hb];exact ih
theorem RelO.some_of(r:RelO (some v) o):∃u,o=some u/\RelV v u:=by
 cases o with
 | none=>exact(show False from r).elim
 | some u=>exact⟨u,rfl,r⟩
section
variable {X:Cx}{pins:List (Addr×Obj)}{σ:St}{H:Hp}{s:Ux}{a C dx:Addr}{fs:List (Str×V)}{f:Str}{v:V}{A:U9}{E:Ut->Ux->Prop}
theorem zzj{prog:Uy}{w:U0}(hb:UJ e f env (eval e env)=eval e env)
 (h:wpAny (model prog w) A (eval e env) (λo s₁=>wpAny (model prog w) A (getAttr o f true) Q E s₁) E s):wpAny (model prog w) A (eval (.Attribute e f pos) env) Q E s :=
 Attribute_any_ h (by rw[arm_eval_Attribute,hb])
end
structure Room(k:Nat)(A:U9):Prop where
 hd:A.handled=none
 dp:A.depth+3 * k+5<recursionLimit
 un:A.units+16 * k+200<GJ
 gd:A.guards=some []
theorem Room.mono{j k:Nat}(r:Room k A)(h:j<=k):Room j A:=⟨r.hd,by have:=r.dp;lia,by have:=r.un;lia,r.gd⟩
theorem Room.deeper{k:Nat}(r:Room (k+1) A)(env:Env):Room k (A.deeper env) :=
 ⟨r.hd,by have:=r.dp;show A.depth+1+3 * k+5<_;lia,by have:=r.un;show A.units+3+16 * k+200<_;lia,r.gd⟩
theorem zi3{A:U9}{C:Addr}{us:List Ut}{kw:List (Str×Ut)}:(A.under (.builtin "type.__call__" ⟨.ref C::us,kw⟩)).depth=A.depth+1:=by
 first|rfl|simp[Yf,Code.weight,Code.isCreation,Vs,Code.isCaller,Code.frames,Vt,guardIds]
theorem zjl{A:U9}{C:Addr}{us:List Ut}{kw:List (Str×Ut)}:(A.under (.builtin "type.__call__" ⟨.ref C::us,kw⟩)).units=A.units+1:=by
 first|rfl|simp[Yf,Code.cUnits,Code.frames,Vt]
theorem Room.make{k:Nat}(r:Room (k+1) A)(C:Addr)(us:List Ut)(kw:List (Str×Ut)):Room k (A.under (.builtin "type.__call__" ⟨.ref C::us,kw⟩)) :=
 ⟨r.hd,by have:=r.dp;rw[zi3];lia,by have:=r.un;rw[zjl];lia,by first|exact r.gd|(simpa[Yf,Vs,guardIds] using r.gd)⟩
theorem Room.depth{k:Nat}(r:Room k A):A.depth<recursionLimit:=by have:=r.dp;lia
theorem Room.units{k:Nat}(r:Room k A):A.units+64<GJ:=by have:=r.un;lia
def tNil:TA:=λ_ H Q=>Q [] H
def za1(ta:TE)(tr:TA):TA:=λσ H Q=>ta σ H λx H1=>tr σ H1 λxs H2=>Q (x::xs) H2
section
variable {X:Cx}{e:Expr}{es:List Expr}{te:TE}{t:TA}{pos:Pos}
theorem zbk:PA X [] tNil:=λ_ _ _ _ H Q I h=>Jc ⟨[],H,I,.nil,h⟩
theorem zaw(ha:PE X e te)(hr:PA X es t)(hs:Uw (e::es) X.env=(false,eval e X.env)::Uw es X.env:=by rfl):PA X (e::es) (za1 te t):=by
 intro pos pins s σ H Q I h;rw[hs];show wpAny _ _ (GG ((false,eval e X.env)::UD pos (Uw es X.env))) _ _ s;refine Z7 (thn (ha pins s σ H _ I h) λu s1 zz=>?_);obtain⟨x,H1,I1,r1,q1⟩:=zz;exact thn (hr pos pins s1 σ H1 _ I1 q1) λus s2 ⟨xs,H2,I2,r2,q2⟩=>⟨x::xs,H2,I2,.cons r1 r2,q2⟩
def tTup(t:TA):TE:=λσ H Q=>t σ H λxs H1=>xs.length<=sizeLine/\∀p,H1 p=none->Q (.ref p) (upd H1 p (.tup xs))
def tLst(t:TA):TE:=λσ H Q=>t σ H λxs H1=>xs.length<=sizeLine/\∀p,H1 p=none->Q (.ref p) (upd H1 p (.lst xs))
theorem zmp{x1}(h:PA X es t):PE X (.Tuple es x1 pos) (tTup t):=by
 intro pins s σ H Q I hq;refine wpAny_Tuple_spliced (thn (h pos pins s σ H _ I hq) λus s1 ⟨xs,H1,I1,r,z,q⟩=>⟨by rw[<- r.length];exact z,?_⟩);have hf:H1 s1.heap.objs.size=none:=I1.hok.fresh (Qm _);refine⟨.ref s1.heap.objs.size,upd H1 s1.heap.objs.size (.tup xs),I1.laid (t':=s1.toks) (λb u e=>Qc _ e) (Qm _) ?_,rfl,q _ hf⟩;exact⟨z,us,r,⟨_,Qt _ rfl,rfl,_,rfl⟩⟩
theorem zt4(h:PA X es t):PE X (.List es pos) (tLst t):=by
 intro pins s σ H Q I hq;refine wpAny_List_spliced (thn (h pos pins s σ H _ I hq) λus s1 ⟨xs,H1,I1,r,z,q⟩=>⟨by rw[<- r.length];exact z,?_⟩);have hf:H1 s1.heap.objs.size=none:=I1.hok.fresh (Qm _);refine⟨.ref s1.heap.objs.size,upd H1 s1.heap.objs.size (.lst xs),I1.laid (t':=s1.toks) (λb u e=>Qc _ e) (Qm _) ?_,rfl,q _ hf⟩;exact⟨z,us,0,r,Qt _ rfl⟩
end
abbrev Sp:=List V->Hp->VK->XK->Prop
abbrev CXT:=List Env->Hp->Ux->XK->Ut->Ux->Prop
structure Env0(P:Uy)(w:U0)(K:Qa)(mg:Str->Option Ut)(base:Heap)(A:U9)(outer:List Env)(s:Ux)(H:Hp):Prop where
 frames:A.frames=some outer
 mod:Mod K mg base
 bs:∀b o,base.get? b=some o->s.heap.get? b=some o/\H b=none
 bsz:base.objs.size<=s.heap.objs.size
 funs:s.heap.FunFrames base outer
 frf:∀b∈frs outer,H b=none
 hok:HOk P w H s.heap
 bare:G4 s.gens
def CE(outer:List Env)(P:Uy)(w:U0)(H:Hp)(s:Ux)(Q:VK)(u:Ut)(s':Ux):Prop :=
 ∃v H',s'.os=s.os/\G4 s'.gens/\Un (frs outer) [] H H' s.heap s'.heap/\HOk P w H' s'.heap/\RelV v u/\Q v H'
def CR(CX:CXT)(outer:List Env)(P:Uy)(w:U0)(H:Hp)(s:Ux)(Q:VK)(E:XK)(r:Result)(s':Ux):Prop :=
 match r with
 | .ok (.ret u)=>CE outer P w H s Q u s'
 | .ok _=>False
 | .error e=>CX outer H s E e s'
structure FnOk(P:Uy)(w:U0)(K:Qa)(mg:Str->Option Ut)(base:Heap)(CX:CXT)(k:Nat)(f:Addr)(fd:UM)(ps:List Str)(sp:Sp):Prop where
 len:∀vs H Q E,sp vs H Q E->vs.length=ps.length
 run:∀(A:U9) (outer:List Env) (s:Ux) (H:Hp) (args:Args) (us:List Ut) (vs:List V) (Q:VK) (E:XK),Room k A->Env0 P w K mg base A outer s H->Te s fd args (ps.zip us)->Vals vs us->sp vs H Q E ->
  Gi (model P w) A (.call (.ref f) args) (CR CX outer P w H s Q E) s
theorem FnOk.mono{P:Uy}{w:U0}{K:Qa}{mg:Str->Option Ut}{base:Heap}{CX:CXT}{j k:Nat}{f:Addr}{fd:UM}{ps:List Str}{sp:Sp}(F:FnOk P w K mg base CX j f fd ps sp)(h:j<=k):
 FnOk P w K mg base CX k f fd ps sp:=⟨F.len,λA outer s H args us vs Q E hr=>F.run A outer s H args us vs Q E (hr.mono h)⟩
theorem Env0.make{P:Uy}{w:U0}{K:Qa}{mg:Str->Option Ut}{base:Heap}{A:U9}{outer:List Env}{s:Ux}{H:Hp}(e:Env0 P w K mg base A outer s H)(C:Addr)(us:List Ut)(kw:List (Str×Ut)):
 Env0 P w K mg base (A.under (.builtin "type.__call__" ⟨.ref C::us,kw⟩)) outer s H:=⟨by first|exact e.frames|(simpa[Yf,Code.envs,Vt,pushEnvs] using e.frames),e.mod,e.bs,e.bsz,e.funs,e.frf,e.hok,e.bare⟩
section
variable {X:Cx}{pins:List (Addr×Obj)}{σ:St}{H:Hp}{s s':Ux}
theorem Inv.env0(I:Inv X pins σ H s):Env0 X.prog X.w X.K X.mg X.base X.A X.stack s H :=
 ⟨I.ok.frames,I.ok.mod,I.bs,Q5 I.ok.bsz I.sz,I.stack,I.stkFree,I.hok,I.bare⟩
theorem Inv.after(I:Inv X pins σ H s)(h:CE X.stack X.prog X.w H s Q u s'):EP X pins σ Q u s':=by
 obtain⟨v,H',os,bare,un,hok,r,q⟩:=h;obtain⟨hh,g,d,t,os'⟩:=s';obtain rfl:os'=s.os:=os;exact⟨v,H',I.call (h':=hh) (g':=g) (d':=d) (t':=t) (ch:=[]) un hok bare (λb z=>absurd z (by simp)),r,q⟩
end
def zcf(sp:Sp)(dvs:List V)(E:XK)(t:TA):TE:=λσ H Q=>t σ H λvs H1=>sp (vs++dvs) H1 Q E
def Binds(K:Qa)(fd:UM)(ps:List Str)(ds:List Ut):Prop :=
 ∀(s:Ux) (us:List Ut),K.In s.heap->(us++ds).length=ps.length->Te s fd ⟨us,[]⟩ (ps.zip (us++ds))
theorem Binds.all{K:Qa}{fd:UM}{ps:List Str}(h:∀us:List Ut,us.length=ps.length->UK fd ⟨us,[]⟩=pure (ps.zip us)):Binds K fd ps []:=λs us _ hl=>by
 rw[QF] at hl ⊢;exact .of_eq (h us hl)
def znl(CX:CXT)(X:Cx)(E:XK):Prop:=∀(pins:List (Addr×Obj)) (σ:St) (H:Hp) (s:Ux) (e:Ut) (s':Ux),Inv X pins σ H s->CX X.stack H s E e s'->X.xe e s'
section
variable {X:Cx}{CX:CXT}{k:Nat}{f C:Addr}{fd:UM}{ps:List Str}{sp:Sp}{dvs:List V}{ds:List Ut}{E:XK}{x m:Str}{p pos apos:Pos}{e o:Expr}{es:List Expr}{ta:TE}{t:TA}
theorem z1n{pins:List (Addr×Obj)}(F:FnOk X.prog X.w X.K X.mg X.base CX k f fd ps sp)(hr:Room k X.A)(hb:Binds X.K fd ps ds)(hd:Vals dvs ds)(hx:znl CX X E)
 (I:Inv X pins σ H s) (r:Vals vs us) (h:sp (vs++dvs) H Q E):wpAny (model X.prog X.w) X.A (call (.ref f) us) (EP X pins σ Q) X.xe s:=by
 have r2:Vals (vs++dvs) (us++ds):=r.append hd;have hl:(us++ds).length=ps.length:=by rw[<- r2.length];exact F.len _ _ _ _ h
 refine Gs (Gq (F.run X.A X.stack s H ⟨us,[]⟩ (us++ds) (vs++dvs) Q E hr I.env0 (hb s us I.kIn hl) r2 h) λr s' hq=>?_)
 cases r with
 | error e=>exact hx pins σ H s e s' I hq
 | ok fl=>
   cases fl with
   | ret u=>exact I.after hq
   | next=>exact QZ hq
   | brk=>exact QZ hq
   | cont=>exact QZ hq
theorem zfq(F:FnOk X.prog X.w X.K X.mg X.base CX k f fd ps sp)(hr:Room k X.A)(hg:Gl X x)(hm:X.mg x=some (.ref f))(hk:Zt X.K (.ref f)=true)(hb:Binds X.K fd ps ds)(hd:Vals dvs ds)(hx:znl CX X E)
 (ha:PA X (e::es) t) (hdb:(x == ("__debug__" : Str))=false:=by decide) (he:Uw (e::es) X.env=(false,eval e X.env)::Uw es X.env:=by rfl) (hpl:(UD pos (Uw es X.env)).any (·.1)=false:=by rfl) :
 PE X (.Call (.Name x p) (e::es) [] pos) (zcf sp dvs E t):=by
 intro pins s σ H Q I h;refine U4 (zcn I hg hm ?_ hdb);refine Jo (h₀:=X.base) I.ok.mod.kin hk (thn (ha pos pins s σ H _ I h) λus s1 ⟨vs,H1,I1,r,q⟩=>⟨I1.kIn,?_⟩) he hpl;exact z1n F hr hb hd hx I1 r q
end
structure FnScope(N P:List Str)(sc:UN):Prop where
 kind:sc.kind = .function
 co:sc.isCoroutine=false
 gen:sc.isGenerator=false
 nd:N.Nodup
 pre:N.take P.length=P
 par:∀x∈P,sc.names.lookup x=some .local\/sc.names.lookup x=some .cell
 nofree:∀y∈sc.names,y.2≠.free
theorem zk8{kindOf:Str->Option UV}: ∀{binds:List (Str×Ut)} {m:Str->Option Ut},(∀v,(x,v) ∉ binds)->Tt kindOf binds m x=m x
 | [],_,_=>rfl
 | (n,v)::r,m,h=>by
   unfold Tt;rw[zk8 λw hw=>h w (Qq _ hw)]
   split
   .have:x≠n:=by rintro rfl;exact h v Qw
    simp[this]
   .rfl
theorem zlb{kindOf:Str->Option UV}: ∀{binds:List (Str×Ut)} {m:Str->Option Ut},(∀v,(x,v) ∉ binds)->Ts kindOf binds m x=m x
 | [],_,_=>rfl
 | (n,v)::r,m,h=>by
   unfold Ts;rw[zlb λw hw=>h w (Qq _ hw)]
   split
   .rfl
   .have:x≠n:=by rintro rfl;exact h v Qw
    simp[this]
theorem zla{kindOf:Str->Option UV}: ∀{P:List Str} {vs:List Ut} {i:Nat} {m:Str->Option Ut},P.Nodup->P[i]? = some x->vs[i]? = some v->kindOf x=some .local ->
 Tt kindOf (P.zip vs) m x=some v
 | [],_,_,_,_,h,_,_=>by simp at h
 | _::_,[],_,_,_,_,h,_=>by simp at h
 | p::P,w::vs,0,m,nd,h1,h2,hk=>by
   simp at h1 h2;subst h1;subst h2;show Tt kindOf ((p,w)::P.zip vs) m p=_;unfold Tt;rw[zk8 λv hv=>(JF.mp nd).1 (Jv hv).1,T0 hk];simp
 | p::P,w::vs,i+1,m,nd,h1,h2,hk=>by
   show Tt kindOf ((p,w)::P.zip vs) m x=_;unfold Tt;exact zla (i:=i) (JF.mp nd).2 (by simpa using h1) (by simpa using h2) hk
theorem zk5{kindOf:Str->Option UV}: ∀{P:List Str} {vs:List Ut} {i:Nat} {m:Str->Option Ut},P.Nodup->P[i]? = some x->vs[i]? = some v->kindOf x≠some .local ->
 Ts kindOf (P.zip vs) m x=some v
 | [],_,_,_,_,h,_,_=>by simp at h
 | _::_,[],_,_,_,_,h,_=>by simp at h
 | p::P,w::vs,0,m,nd,h1,h2,hk=>by
   simp at h1 h2;subst h1;subst h2;show Ts kindOf ((p,w)::P.zip vs) m p=_;unfold Ts;rw[zlb λv hv=>(JF.mp nd).1 (Jv hv).1,TB hk];simp
 | p::P,w::vs,i+1,m,nd,h1,h2,hk=>by
   show Ts kindOf ((p,w)::P.zip vs) m x=_;unfold Ts;exact zk5 (i:=i) (JF.mp nd).2 (by simpa using h1) (by simpa using h2) hk
def start(N:List Str)(vs:List V):St:=vs.map some++Qv (N.length-vs.length) none
def cxOf(CX:CXT)(P:Uy)(w:U0)(K:Qa)(mg:Str->Option Ut)(base:Heap)(N:List Str)(qual:Str)(scope:UN)(f:Addr)(cd:Ut)(A:U9)(outer:List Env)(s:Ux)(H:Hp)(E:XK):Cx where
 prog:=P
 w:=w
 K:=K
 mg:=mg
 base:=base
 A:=A.deeper (G6 qual scope s.heap.objs.size f cd)
 N:=N
 s₀:=s
 H₀:=H
 env:=G6 qual scope s.heap.objs.size f cd
 outer:=outer
 stack:=G6 qual scope s.heap.objs.size f cd::outer
 ex:=[]
 calm:=true
 fn:=λ_=>true
 pn:=[]
 xe:=λe s'=>wpAny (model P w) (A.deeper (G6 qual scope s.heap.objs.size f cd)) (leaving (G6 qual scope s.heap.objs.size f cd) e) (λ_ s''=>CX outer H s E e s'') (λe' s''=>CX outer H s E e' s'') s'
theorem zof{sc:UN}{n:Nat}{x:Str}(h:sc.names.lookup x=some .cell):∃c,(UE n sc.names []).lookup x=some c:=by
 have q:=Jp sc.names n [] (.inl h);exact JA.mp q
theorem zk1{CX:CXT}{P:Uy}{w:U0}{K:Qa}{mg:Str->Option Ut}{base:Heap}{N ps:List Str}{qual:Str}{scope:UN}{f:Addr}{cd:Ut}{A:U9}{outer:List Env}{s s1:Ux}{H:Hp}{E:XK}{us:List Ut}{vs:List V}
 (S:FnScope N ps scope) (hd:A.handled=none) (e0:Env0 P w K mg base A outer s H) (hl:vs.length=ps.length) (r:Vals vs us)
 (x:InCallC s s.heap.objs.size (Tt (G6 qual scope s.heap.objs.size f cd).kindOf (ps.zip us) λ_=>none) (UE (s.heap.objs.size+1) scope.names []) (Ts (G6 qual scope s.heap.objs.size f cd).kindOf (ps.zip us) λ_=>none) s1) :
 Inv (cxOf CX P w K mg base N qual scope f cd A outer s H E) [] (start N vs) H s1:=by
 have hpl:ps.length<=N.length:=by have:=congrArg VM S.pre;rw[QB] at this;lia
 obtain⟨h1,tk,rfl,hk⟩:=x.done;have noA:∀b:Addr,b ∉ (cxOf CX P w K mg base N qual scope f cd A outer s H E).ex:=λb z=>absurd (show b∈([]:List Addr) from z) (by simp)
 refine⟨⟨e0.mod,S.kind,rfl,rfl,Qm _,λy z c h1 h2=>?_,λy hy=>?_,λy c _ h=>?_,λ_=>hd,YS e0.frames,.inr ⟨rfl,rfl⟩,λb z=>absurd z (noA b),e0.bs,e0.bsz,λb _ _=>noA b,λb z=>absurd z (noA b),e0.funs,e0.frf⟩,
  rfl,e0.bare,Un.kept hk,⟨_,x.toInCall.ns,λi y v h1 h2 h3=>?_⟩,λy c h=>⟨_,x.cell y c h⟩,e0.hok.fresh (Qm _),λy c h=>?_,λp hp=>absurd (show p∈([]:List (Addr×Obj)) from hp) (by simp),e0.hok.kept hk,?_⟩
 .exact name_of_addr x.apart (Zv h1) (Zv h2)
 .have hy:scope.names.lookup y=some .cell\/scope.names.lookup y=some .free:=hy;rcases hy with hy|hy
  .exact zof hy
  .exact absurd rfl (S.nofree _ (Zv hy))
 .exact JL (x.above y c (Zv h))
 .have hi:i<vs.length:=by
   unfold start at h2
   by_cases hi:i<vs.length
   .exact hi
   .rw[Z1 (by simpa using hi)] at h2;rw[Zz] at h2
    split at h2 <;> cases h2
  have ha:vs[i]? = some v:=by
   unfold start at h2;rw[QW (by simpa using hi),Qs] at h2
   cases e:vs[i]? with
   | none=>rw[e] at h2;cases h2
   | some a=>rw[e] at h2;cases h2;rfl
  obtain⟨u,hu,rv⟩:=r.get ha
  have hp:ps[i]? = some y:=by
   rw[<- S.pre,List.getElem?_take_of_lt (by lia)];exact h1
  have ndP:ps.Nodup:=by rw[<- S.pre];exact S.nd.sublist (List.take_sublist _ _)
  refine⟨u,rv,?_⟩;rcases S.par y (Zm hp) with k|k
  .exact .inl ⟨k,zla ndP hp hu k⟩
  .obtain⟨c,e⟩:=zof (n:=s.heap.objs.size+1) k;refine .inr ⟨.inl k,c,e,?_⟩;have q:=x.cell y c e;rw[zk5 ndP hp hu (by show scope.names.lookup y≠_;rw[k];decide)] at q;exact q
 .exact e0.hok.fresh (JL (x.above y c (Zv h)))
 .unfold start;show _=N.length;rw[Qf,Qb,QU];lia
theorem zqr{CX:CXT}{P:Uy}{w:U0}{K:Qa}{mg:Str->Option Ut}{base:Heap}{k:Nat}{f:Addr}{name qual:Str}{params:Tk}{body:List Stmt}{scope:UN}{dV kV doc pm cdv ct oc:Ut}{an od:Option Addr}
 {osl:Array (Option Ut)} {N ps:List Str} {sp:Sp} (lk:K.lookup f=some ⟨oc,od,.func (Zq name qual params body scope dV kV doc pm an cdv ct),osl⟩) (hcd:Ji K cdv qual=true) (S:FnScope N ps scope)
 (len:∀vs H Q E,sp vs H Q E->vs.length=ps.length)
 (hbody:∀(A:U9) (outer:List Env) (s:Ux) (H:Hp) (vs:List V) (Q:VK) (E:XK),Room k (A.deeper (G6 qual scope s.heap.objs.size f cdv))->sp vs H Q E ->
  ∃t,PSs (cxOf CX P w K mg base N qual scope f cdv A outer s H E) body t/\t { nx:=λ_ H'=>Q .non H',rt:=Q } (start N vs) H) :
 FnOk P w K mg base CX (k+1) f (Zq name qual params body scope dV kV doc pm an cdv ct) ps sp:=by
 refine⟨len,λA outer s H args us vs Q E hr e0 hb r hsp=>?_⟩;have hl:=len _ _ _ _ hsp;have KX:K.In s.heap:=e0.mod.kin.keeps λb o e=>(e0.bs b o e).1;have lim:s.heap.NoLimit:=e0.mod.nolimit.keeps λb o e=>(e0.bs b o e).1
 have hkind:∀y∈ps.zip us,scope.names.lookup y.1=some .local\/(scope.names.lookup y.1=some .cell/\((UE (s.heap.objs.size+1) scope.names []).lookup y.1).isSome=true):=λ⟨n,v⟩ hy=>by
  rcases S.par n (Jv hy).1 with q|q
  .exact .inl q
  .exact .inr ⟨q,Jp _ _ _ (.inl q)⟩
 refine GO hr.depth (KX _ _ lk) rfl S.co S.gen rfl (Vi KX hcd) (hb _ _ _ _ ?_);refine G8 S.kind hkind λenv he s1 x=>?_;subst he;refine⟨lim.keeps x.toInCall.keep,codeAny_func ?_⟩;obtain⟨t,ht,hq⟩:=hbody A outer s H vs Q E (hr.deeper _) hsp;have I:Inv (cxOf CX P w K mg base N qual scope f cdv A outer s H E) [] (start N vs) H s1:=zk1 S hr.hd e0 hl r x;refine U2 (ht [] s1 (start N vs) H _ I hq) (λfl s' hs=>?_) λe s' hs=>hs
 have fin:∀{σ':St} {H':Hp} {v:V} {u:Ut},Inv (cxOf CX P w K mg base N qual scope f cdv A outer s H E) [] σ' H' s'->RelV v u->Q v H'->CE outer P w H s Q u s' :=
  λ{σ' H' v u} J rv q=>⟨v,H',J.os,J.bare,J.base,J.hok,rv,q⟩
 cases fl with
 | ret u=>
   obtain⟨v,σ',H',J,rv,q⟩:=hs;exact fin J rv q
 | next=>
   obtain⟨σ',H',J,q⟩:=hs;exact fin (v:=V.non) (u:=Zr) J rfl q
 | brk=>
   obtain⟨_,_,_,q⟩:=hs;exact QZ q
 | cont=>
   obtain⟨_,_,_,q⟩:=hs;exact QZ q
section
variable {X:Cx}{x:Str}{p pos:Pos}{e:Expr}{es:List Expr}{t:TA}{id T:String}{r:List V->Hp->VK->Prop}
def tCB(r:List V->Hp->VK->Prop)(t:TA):TE:=λσ H Q=>t σ H λvs H1=>r vs H1 Q
theorem zeh(hc:CallR X (.builtin id) r)(hg:Gl X x)(hm:X.mg x=none)(hv:U5 x=some (.builtin id))(ha:PA X (e::es) t)(hn:x ≠ "__name__" := by decide)(hdb:(x == ("__debug__" : Str))=false:=by decide)
 (he:Uw (e::es) X.env=(false,eval e X.env)::Uw es X.env:=by rfl) (hpl:(UD pos (Uw es X.env)).any (·.1)=false:=by rfl):PE X (.Call (.Name x p) (e::es) [] pos) (tCB r t):=by
 intro pins s σ H Q I h;refine U4 (zcp I hg hm hv ?_ hn hdb);exact Jj (thn (ha pos pins s σ H _ I h) λus s1 ⟨vs,H1,I1,r1,q1⟩=>hc pins s1 σ H1 vs us Q I1 r1 q1) he hpl
theorem zuf(hc:CallR X (.type T) r)(hg:Gl X x)(hm:X.mg x=none)(hv:U5 x=some (.type T))(ha:PA X (e::es) t)(hn:x ≠ "__name__" := by decide)(hdb:(x == ("__debug__" : Str))=false:=by decide)
 (he:Uw (e::es) X.env=(false,eval e X.env)::Uw es X.env:=by rfl) (hpl:(UD pos (Uw es X.env)).any (·.1)=false:=by rfl):PE X (.Call (.Name x p) (e::es) [] pos) (tCB r t):=by
 intro pins s σ H Q I h;refine U4 (zcp I hg hm hv ?_ hn hdb);exact Zw (thn (ha pos pins s σ H _ I h) λus s1 ⟨vs,H1,I1,r1,q1⟩=>hc pins s1 σ H1 vs us Q I1 r1 q1) he hpl
end
end L2
namespace HT
open PySem PyProof.Rows
section
variable {prog:Uy}{w:U0}{A:U9}{E:Ut->Ux->Prop}{s:Ux}
theorem cat_tup(ht:IsTup s.heap t vs.toArray)(hb:IsTup s.heap b ws.toArray)(hv:vs≠[])
 (h1:ws = []->Q (.ref t) s) (h2:ws≠[]->Q (.ref s.heap.objs.size) { s with heap:=s.heap.push { cls:=.type "tuple",data:=.seq (vs++ws).toArray } })
 (hsz:vs.length+ws.length<=sizeLine):wpAny (model prog w) A (UW .Add (.ref t) (.ref b)) Q E s:=by
 obtain⟨⟨cls,dd,data,sl⟩,ho,hc,n,hd⟩:=id ht;obtain⟨⟨cls2,dd2,data2,sl2⟩,ho2,hc2,n2,hd2⟩:=id hb;simp only at hc hd hc2 hd2;subst hc hd hc2 hd2;have e:vs.toArray++ws.toArray=(vs++ws).toArray:=by simp
 by_cases hw:ws = []
 .exact Tg ⟨_,ho,rfl⟩ ⟨_,ho2,rfl⟩ GC Ta JN JJ (JB _ _)
   (tuple_addW1 t b vs.toArray ws.toArray n n2 dd dd2 sl sl2 (by simpa using hv) (by simp[hw])) ⟨ho,ho2,h1 hw⟩
 .refine Tg ⟨_,ho,rfl⟩ ⟨_,ho2,rfl⟩ GC Ta JN JJ (JB _ _)
   (tuple_addW2 t b vs.toArray ws.toArray n n2 dd dd2 sl sl2 (by simpa using hv) (by simpa using hw) (by rw[Qp,Qp];exact hsz)) ⟨ho,ho2,?_⟩
  rw[e];exact h2 hw
def sIx(n d:Nat):Option Int->Nat
 | none=>d
 | some v=>if v<0 then(v+(n:Int)).toNat else min v.toNat n
theorem sIx_le(n d:Nat)(hd:d<=n)(o:Option Int):sIx n d o<=n:=by
 cases o with
 | none=>exact hd
 | some v=>
   show(if v<0 then(v+(n:Int)).toNat else min v.toNat n)<=n
   by_cases hv:v<0
   .rw[T0 hv];lia
   .rw[TB hv];exact Nat.min_le_right _ _
theorem clip_eq(v:Int)(n d:Nat):(if v<0 then max (v+(n:Int)) 0 else min v (n:Int))=((sIx n d (some v):Nat):Int):=by
 show(if v<0 then max (v+(n:Int)) 0 else min v (n:Int))=(((if v<0 then(v+(n:Int)).toNat else min v.toNat n):Nat):Int)
 by_cases hv:v<0
 .simp only[T0 hv];lia
 .simp only[TB hv];lia
theorem zqd(lo hi:Option Int)(n:Nat):J8 lo hi 1 (n:Int)=(((sIx n 0 lo:Nat):Int),((sIx n n hi:Nat):Int)):=by
 have h1:¬((1:Int)<0):=by lia
 unfold J8;simp only[h1,TN];refine Prod.ext ?_ ?_
 .cases lo with
  | none=>rfl
  | some v=>exact clip_eq v n 0
 .cases hi with
  | none=>rfl
  | some v=>exact clip_eq v n n
theorem zp9(i j:Nat):Ja (i:Int) (j:Int) 1=j-i:=by
 unfold Ja;have h1:(1:Int) > 0:=by lia
 simp only[h1,TL,Int.ediv_one]
 split <;> lia
theorem zie(p:GF v o)(h:Q o s):wpAny (model prog w) A (Builtin.Slice.slicePartIndex v) Q E s:=by
 cases p with
 | none=>exact slicePart_none h
 | int i t=>exact slicePart_int h
theorem sliceApplied_gen{sl:Addr}{vl vu:Ut}{lo hi:Option Int}{n:Nat}{Q:Int×Int×Nat->Ux->Prop}(hs:s.heap.IsSliceOf sl vl vu .none)(pl:GF vl lo)(pu:GF vu hi)
 (h:Q (((sIx n 0 lo:Nat):Int),1,sIx n n hi-sIx n 0 lo) s):wpAny (model prog w) A (Yn (.ref sl) (pure (n:Int))) Q E s:=by
 obtain⟨os,hos,hcs,hds⟩:=id hs;unfold Yn Builtin.Slice.sliceFields;refine Us (Us (U1 hos hds (x:=vl) rfl (Us (U1 hos hds (x:=vu) rfl (Us (U1 hos hds (x:=.none) rfl (Uv ?_)))))));refine Us (slicePart_none ?_);show wpAny _ _ (if((1:Int) == 0)=true then _ else _) _ _ s;rw[TB (by decide)];refine Us (zie pl (Us (zie pu (Us (Uv ?_)))));show wpAny _ _ (match J8 lo hi 1 (n:Int) with|(lo,hi)=>pure (lo,(1:Int),Ja lo hi 1)) _ _ s;rw[zqd lo hi n];show wpAny _ _ (pure (((sIx n 0 lo:Nat):Int),(1:Int),Ja ((sIx n 0 lo:Nat):Int) ((sIx n n hi:Nat):Int) 1)) _ _ s;rw[zp9];exact Uv h
theorem zv5(xs:Array Ut)(i k:Nat):((ZN k).filterMap λ(m:Nat)=>xs[((i:Int)+(m:Int) * 1).toNat]?).toArray=((xs.toList.drop i).take k).toArray:=by
 have e:(λ(m:Nat)=>xs[((i:Int)+(m:Int) * 1).toNat]?)=λm=>xs[i+m]?:=by
  funext m;have:((i:Int)+(m:Int) * 1).toNat=i+m:=by lia
  rw[this]
 rw[e];have:=pick_run xs i k;rw[List.filterMap_map] at this;have e2:((λx=>xs[x]?) ∘ λx=>i+x)=λm=>xs[i+m]?:=rfl;rw[e2] at this;rw[this]
theorem getItem_tuple_cut{t sl:Addr}{items:Array Ut}{vl vu:Ut}{lo hi:Option Int}{Q:Ut->Ux->Prop}(ht:IsTup s.heap t items)(hs:s.heap.IsSliceOf sl vl vu .none)(pl:GF vl lo)(pu:GF vu hi)
 (hw:¬(sIx items.size 0 lo=0/\sIx items.size items.size hi=items.size))
 (h:Q (.ref s.heap.objs.size) { s with heap:=s.heap.push { cls:=.type "tuple",data:=.seq ((items.toList.drop (sIx items.size 0 lo)).take (sIx items.size items.size hi-sIx items.size 0 lo)).toArray } })
 (hsz:items.size<=sizeLine):wpAny (model prog w) A (Gu (.ref t) (.ref sl)) Q E s:=by
 have htake:sizeOk (.seq ((items.toList.drop (sIx items.size 0 lo)).take (sIx items.size items.size hi-sIx items.size 0 lo)).toArray):=by
  show((items.toList.drop (sIx items.size 0 lo)).take (sIx items.size items.size hi-sIx items.size 0 lo)).toArray.size<=sizeLine;rw[Qp,QB,QO,J9];lia
 have hj:sIx items.size items.size hi<=items.size:=sIx_le _ _ (Qm _) hi;obtain⟨os,hos,hcs,hds⟩:=id hs;have hTs:s.TypeIs (.ref sl) "slice" := ⟨os,hos,hcs⟩;unfold Gu
 try with_reducible refine UA ?_
 first|refine Us (Uv ?_)|skip
 refine Us (wpAny_sequenceKey ht.typeIs (by decide) ?_)
 refine Us (U8 (name:=QH "__getitem__") ht.typeIs Zo
  (UH Zo ht.typeIs entry_tuple_getitem ?_ (args_tuple_getitem _ _)))
 show wpAny _ _ (Yo (.ref t) >>= _) _ _ s;refine Us (tupleItemsOf_ ht ?_);refine Us (GI hTs ?_);rw[T0 (by decide)];refine Us (sliceApplied_gen hs pl pu ?_)
 have hno:¬((((sIx items.size 0 lo:Nat):Int) == 0 && (1:Int) == 1 && (sIx items.size items.size hi-sIx items.size 0 lo) == items.size)=true):=by
  intro q;rw[Qu,Qu] at q;have q1:((sIx items.size 0 lo:Nat):Int)=0:=eq_of_beq q.1.1;have q2:sIx items.size items.size hi-sIx items.size 0 lo=items.size:=eq_of_beq q.2;exact hw ⟨by lia,by lia⟩
 show wpAny _ _ (if(((sIx items.size 0 lo:Nat):Int) == 0 && (1:Int) == 1 && (sIx items.size items.size hi-sIx items.size 0 lo) == items.size)=true then _ else _) _ _ s;rw[TB hno,zv5]
 first
  | exact Us (m:=Jf _) (UB (Uv ⟨_,rfl,Uv h⟩) htake)
  | exact Us (m:=Jf _) (UB (Us (Uv (Uv ⟨_,rfl,Uv h⟩))) htake)
  | exact Us (Us (m:=Jf _) (UB (Uv (Uv ⟨_,rfl,Uv h⟩)) htake))
  | exact Us (Us (m:=Jf _) (UB (Uv ⟨_,rfl,Uv h⟩) htake))
end
end HT
namespace L2
open PySem PySem.Spec PyProof.Rows
abbrev TO:=St->Hp->(Option Int->Hp->Prop)->Prop
def PO(X:Cx)(e:Option Expr)(t:TO):Prop :=
 ∀(pins:List (Addr×Obj)) (s:Ux) (σ:St) (H:Hp) (Q:Option Int->Hp->Prop),Inv X pins σ H s->t σ H Q ->
   wpAny (model X.prog X.w) X.A (evalPart e X.env) (λu s'=>∃o H',Inv X pins σ H' s'/\GF u o/\Q o H') X.xe s
def zpn:TO:=λ_ H Q=>Q none H
def zl6(t:TE):TO:=λσ H Q=>t σ H λx H1=>∃i,x = .int i/\Q (some i) H1
section
variable {X:Cx}{e:Expr}{te:TE}{lo hi:Option Expr}{tl th:TO}{pos p2:Pos}
theorem zyv:PO X none zpn:=by
 intro pins s σ H Q I h;rw[evalPart_none];exact Uv ⟨none,H,I,.none,h⟩
theorem zj7(h:PE X e te):PO X (some e) (zl6 te):=by
 intro pins s σ H Q I hw;rw[evalPart_some];refine thn (h pins s σ H _ I hw) λu s1 zz=>?_;obtain⟨x,H1,I1,r1,q1⟩:=zz;obtain⟨i,rfl,q⟩:=q1;obtain⟨t,rfl⟩:=r1;exact⟨some i,H1,I1,.int i t,q⟩
def SlR(X:Cx)(r:V->Option Int->Option Int->Hp->VK->Prop):Prop :=
 ∀(pins:List (Addr×Obj)) (s:Ux) (σ:St) (H:Hp) (x:V) (v vl vu:Ut) (lo hi:Option Int) (sl:Addr) (Q:VK),Inv X pins σ H s->RelV x v->s.heap.IsSliceOf sl vl vu .none->GF vl lo->GF vu hi->r x lo hi H Q ->
   ∃T id,Td (.type T) "__getitem__" = pure (some (.builtin id))/\s.TypeIs v T/\wpAny (model X.prog X.w) X.A (Gu v (.ref sl)) (EP X pins σ Q) X.xe s
theorem SlR.or(h:SlR X r)(h':SlR X r'):SlR X (λx lo hi H Q=>r x lo hi H Q\/r' x lo hi H Q):=by
 intro pins s σ H x v vl vu lo hi sl Q I rx hs pl pu q;rcases q with q|q
 .exact h pins s σ H x v vl vu lo hi sl Q I rx hs pl pu q
 .exact h' pins s σ H x v vl vu lo hi sl Q I rx hs pl pu q
def tSl(r:V->Option Int->Option Int->Hp->VK->Prop)(te:TE)(tl th:TO):TE:=λσ H Q=>te σ H λx H1=>tl σ H1 λl H2=>th σ H2 λu H3=>r x l u H3 Q
theorem znn(hr:SlR X r)(he:PE X e te)(hl:PO X lo tl)(hu:PO X hi th):PE X (.Subscript e (.Slice lo hi none p2) pos) (tSl r te tl th):=by
 intro pins s σ H Q I h;refine Subscript_ (thn (he pins s σ H _ I h) λv s1 zz=>?_);obtain⟨x,H1,I1,r1,q1⟩:=zz;refine wpAny_Slice (thn (hl pins s1 σ H1 _ I1 q1) λvl s2 ⟨l,H2,I2,pl,q2⟩=>thn (hu pins s2 σ H2 _ I2 q2) λvu s3 zz=>?_);obtain⟨u,H3,I3,pu,q3⟩:=zz;rw[evalPart_none];refine Uv ?_;have I4:Inv X pins σ H3 { s3 with heap:=s3.heap.push { cls:=.type "slice",data:=.fields #[vl,vu,.none] } }:=I3.kept (t':=s3.toks) λb ob q=>Qc _ q;obtain⟨T,id,hT,ht,hg⟩:=hr pins { s3 with heap:=s3.heap.push { cls:=.type "slice",data:=.fields #[vl,vu,.none] } } σ H3 x v vl vu l u s3.heap.objs.size Q I4 r1 (Heap.IsSliceOf.new ..) pl pu q3;show wpAny (model X.prog X.w) X.A (Tb e (.Slice lo hi none p2) v (.ref s3.heap.objs.size)) (EP X pins σ Q) X.xe { s3 with heap:=s3.heap.push { cls:=.type "slice",data:=.fields #[vl,vu,.none] } };exact tail_any (ops:=[.ref s3.heap.objs.size,v]) ht hT hg (by with_unfolding_all rfl)
def cutV(xs:List V)(lo hi:Option Int):List V:=(xs.drop (HT.sIx xs.length 0 lo)).take (HT.sIx xs.length xs.length hi-HT.sIx xs.length 0 lo)
theorem zhp(xs:List V)(lo hi:Option Int):(cutV xs lo hi).length<=xs.length:=by
 unfold cutV;rw[QB,QO];lia
def rSlT(K:Qa):V->Option Int->Option Int->Hp->VK->Prop:=λx lo hi H Q=>∃a xs,x = .ref a/\SqT K H a xs /\
 ¬(HT.sIx xs.length 0 lo=0/\HT.sIx xs.length xs.length hi=xs.length)/\∀p,H p=none->Q (.ref p) (upd H p (.tup (cutV xs lo hi)))
theorem sl_tup:SlR X (rSlT X.K):=by
 intro pins s σ H x v vl vu lo hi sl Q I rx hs pl pu h;obtain⟨a,xs,rfl,hx,hw,q⟩:=h;cases rx;obtain⟨its,r,ht,hz⟩:=I.tuple hx;have hlen:its.toArray.size=xs.length:=by rw[Qp];exact r.length.symm
 refine⟨"tuple",_,Zo.lookup,ht.typeIs,?_⟩;refine HT.getItem_tuple_cut ht hs pl pu (by rw[hlen];exact hw) ?_ (by rw[hlen];exact hz);rw[hlen];refine⟨.ref s.heap.objs.size,_,I.laid (t':=s.toks) (o:=.tup (cutV xs lo hi)) (λb ob q=>Qc _ q) (Qm _) ?_,rfl,q _ (I.hok.fresh (Qm _))⟩;exact⟨Q5 (zhp xs lo hi) hz,_,(r.drop (HT.sIx xs.length 0 lo)).take (HT.sIx xs.length xs.length hi-HT.sIx xs.length 0 lo),V9 _ _⟩
def zxd(K:Qa):R2:=λx y H Q=>∃a b xs ys,x = .ref a/\y = .ref b/\SqT K H a xs/\SqT K H b ys/\xs≠[]/\xs.length+ys.length<=sizeLine /\
 (ys = []->Q (.ref a) H)/\(ys≠[]->∀p,H p=none->Q (.ref p) (upd H p (.tup (xs++ys))))
theorem Vals.nil_iff(r:Vals xs us):us = []↔xs = []:=by
 cases r with
 | nil=>simp
 | cons _ _=>simp
theorem op_catT:OpR X (UW .Add) (zxd X.K):=by
 intro pins s σ H x y v u Q I rx ry h;obtain⟨a,b,xs,ys,rfl,rfl,ha,hb,hx,hz,q1,q2⟩:=h;cases rx;cases ry;obtain⟨its,r1,p1,_⟩:=I.tuple ha;obtain⟨its2,r2,p2,_⟩:=I.tuple hb;refine HT.cat_tup p1 p2 (λz=>hx (r1.nil_iff.mp z)) (λz=>⟨.ref a,H,I,rfl,q1 (r2.nil_iff.mp z)⟩) (λz=>?_) (by rw[<- r1.length,<- r2.length];exact hz);refine⟨.ref s.heap.objs.size,_,I.laid (t':=s.toks) (o:=.tup (xs++ys)) (λb ob q=>Qc _ q) (Qm _) ?_,rfl,q2 (λw=>z (r2.nil_iff.mpr w)) _ (I.hok.fresh (Qm _))⟩;exact⟨by rw[Qf];exact hz,_,r1.append r2,V9 _ _⟩
end
def ixN(n:Nat)(i:Int):Option Nat:=if 0<=i then(if i<n then some i.toNat else none) else if -(n:Int)<=i then some (i+n).toNat else none
def atI{α:Type}(xs:List α)(i:Int):Option α:=(ixN xs.length i).bind λj=>xs[j]?
theorem zpk{n:Nat}{i:Int}{j:Nat}(h:ixN n i=some j):Tp i n=some j/\j<n/\-(n:Int)<=i/\i<n:=by
 unfold ixN at h
 by_cases h0:0<=i
 .rw[T0 h0] at h
  by_cases h1:i<n
  .rw[T0 h1] at h;have e:i.toNat=j:=Zl h;exact⟨by rw[Tu h0 h1,e],by lia,by lia,h1⟩
  .rw[TB h1] at h;cases h
 .rw[TB h0] at h
  by_cases h1:-(n:Int)<=i
  .rw[T0 h1] at h;have e:(i+n).toNat=j:=Zl h;exact⟨by rw[Th (by lia) h1,e],by lia,h1,by lia⟩
  .rw[TB h1] at h;cases h
theorem zjx{α:Type}{xs:List α}{i:Int}{v:α}(h:atI xs i=some v):∃j,Tp i xs.length=some j/\xs[j]? = some v/\j<xs.length/\-(xs.length:Int)<=i/\i<xs.length:=by
 unfold atI at h
 cases e:ixN xs.length i with
 | none=>rw[e] at h;cases h
 | some j=>
   rw[e] at h;obtain⟨h1,h2,h3,h4⟩:=zpk e;exact⟨j,h1,h,h2,h3,h4⟩
theorem zkb{α:Type}{xs:List α}{j:Nat}{v:α}(h:xs[j]? = some v):atI xs (j:Int)=some v:=by
 have hj:j<xs.length:=(Qk.mp h).1
 have e:ixN xs.length (j:Int)=some j:=by
  unfold ixN;rw[T0 (by lia),T0 (by lia)];simp
 unfold atI;rw[e];exact h
def zke(b:Expr):Prop:=∀o i,subscripted b false o i=operate [o,i] (Gu o i)
def IxR(X:Cx)(r:R2):Prop :=
 ∀(value slice:Expr) (pins:List (Addr×Obj)) (s:Ux) (σ:St) (H:Hp) (x y:V) (v u:Ut) (Q:VK),Inv X pins σ H s->RelV x v->RelV y u->r x y H Q ->
   subscripted slice false v u=operate [v,u] (Gu v u)->wpAny (model X.prog X.w) X.A (Tb value slice v u) (EP X pins σ Q) X.xe s
def MtR(X:Cx)(id:String)(r:V->List V->Hp->VK->Prop):Prop :=
 ∀(pins:List (Addr×Obj)) (s:Ux) (σ:St) (H:Hp) (x:V) (xs:List V) (v:Ut) (us:List Ut) (Q:VK),Inv X pins σ H s->RelV x v->Vals xs us->r x xs H Q ->
   wpAny (model X.prog X.w) X.A (call (.builtin id) (v::us)) (EP X pins σ Q) X.xe s
section
variable {X:Cx}{a b:Expr}{ta tb:TE}{pos:Pos}
theorem IxR.or(h:IxR X r)(h':IxR X r'):IxR X (λx y H Q=>r x y H Q\/r' x y H Q):=by
 intro value slice pins s σ H x y v u Q I rx ry q hs;rcases q with q|q
 .exact h value slice pins s σ H x y v u Q I rx ry q hs
 .exact h' value slice pins s σ H x y v u Q I rx ry q hs
theorem zl0(hr:IxR X r)(ha:PE X a ta)(hb:PE X b tb)(hs:zke b):PE X (.Subscript a b pos) (tOp r ta tb):=by
 intro pins s σ H Q I h;exact Subscript_ (binT ha hb I h λv u s2 x y H2 I2 rx ry q=>hr a b pins s2 σ H2 x y v u Q I2 rx ry q (hs _ _))
def rIxL(K:Qa):R2:=λx y H Q=>∃p xs i v,x = .ref p/\y = .int i/\SqL K H p xs/\atI xs i=some v/\Q v H
def rIxT(K:Qa):R2:=λx y H Q=>∃p xs i v,x = .ref p/\y = .int i/\SqT K H p xs/\atI xs i=some v/\Q v H
def rIxS:R2:=λx y H Q=>∃z i c,x = .str z/\y = .int i/\z.length<=sizeLine/\atI z.cps.toList i=some c/\Q (.str ⟨#[c]⟩) H
theorem ix_list:IxR X (rIxL X.K):=by
 intro value slice pins s σ H x y v u Q I rx ry h hs;obtain⟨p,xs,i,z,rfl,rfl,hq,he,q⟩:=h;cases rx;obtain⟨t,rfl⟩:=ry;obtain⟨its,r,pl,hz⟩:=I.list hq;obtain⟨j,h1,h2,h3,h4,h5⟩:=zjx he;obtain⟨w,ew,rw'⟩:=r.get h2;have hl:=r.length;have hn:=zfe;have fin:EP X pins σ Q w s:=⟨z,H,I,rw',q⟩
 by_cases h0:0<=i
 .have hj:i.toNat=j:=by
   rw[Tu h0 h5] at h1;exact Zl h1
  exact item_listR pl.isList h0 (by lia) (by rw[hj];simpa using ew) fin hs
 .have hj:(i+(its.toArray.size:Int)).toNat=j:=by
   rw[Th (by lia) h4] at h1;rw[Qp,<- hl];exact Zl h1
  exact GH (x:=w) pl.isList.typeIs slot_list_getitem.lookup
   (wpAny_getItem_list_neg (Q:=λr s'=>r=w/\EP X pins σ Q r s') pl.isList (by lia) (by rw[Qp] <;> lia) (by lia) (by rw[hj];simpa using ew) ⟨rfl,fin⟩) hs
theorem ix_tup:IxR X (rIxT X.K):=by
 intro value slice pins s σ H x y v u Q I rx ry h hs;obtain⟨p,xs,i,z,rfl,rfl,hq,he,q⟩:=h;cases rx;obtain⟨t,rfl⟩:=ry;obtain⟨its,r,pl,hz⟩:=I.tuple hq;obtain⟨j,h1,h2,h3,h4,h5⟩:=zjx he;obtain⟨w,ew,rw'⟩:=r.get h2;have hl:=r.length;have hn:=zfe;have fin:EP X pins σ Q w s:=⟨z,H,I,rw',q⟩
 exact GH (x:=w) pl.typeIs slot_tuple_getitem.lookup
  (getItem_tuple (j:=j) (Q:=λr s'=>r=w/\EP X pins σ Q r s') pl (by lia) (by lia) (by rw[Qp,<- hl];exact h1) (by simpa using ew) ⟨rfl,fin⟩) hs
theorem z2o:IxR X rIxS:=by
 intro value slice pins s σ H x y v u Q I rx ry h hs;obtain⟨z,i,c,rfl,rfl,hz,he,q⟩:=h;obtain⟨t,rfl⟩:=rx;obtain⟨t',rfl⟩:=ry;obtain⟨j,h1,h2,h3,h4,h5⟩:=zjx he;have hl:z.cps.toList.length=z.length:=by simp[Vj]
 rw[hl] at h1 h4 h5;have hn:=zfe
 exact tail_any (typeIs_str s z t) slot_str_getitem.lookup (getItem_str (c:=c) (by
  have e1:decide (i < -(2 ^ 63:Int))=false:=TF (by lia);have e2:decide (i ≥ 2 ^ 63)=false:=TF (by lia)
  rw[e1,e2,Vc]) (by rw[h1];simpa using h2) ⟨.str ⟨#[c]⟩,H,I.tok _,⟨_,rfl⟩,q⟩) hs
def rIx(K:Qa):R2:=λx y H Q=>rIxL K x y H Q\/rIxT K x y H Q\/rIxS x y H Q
theorem zit:IxR X (rIx X.K):=ix_list.or (ix_tup.or z2o)
theorem zrh(its:List Ut)(n j:Nat)(u:Ut):Jq (·.setIfInBounds j u) { cls:=.type "list",data:=.seq its.toArray n } = { cls:=.type "list",data:=.seq (its.set j u).toArray n }:=by
 simp[Jq]
theorem Inv.lst{pins:List (Addr×Obj)}(I:Inv X pins σ H s)(h:H p=some (.lst xs)):
 ∃(its:List Ut) (n:Nat),Vals xs its/\s.heap.get? p=some { cls:=.type "list",data:=.seq its.toArray n }/\xs.length<=sizeLine:=by
 obtain⟨z,its,n,r,e⟩:=I.hok p _ h;exact⟨its,n,r,e,z⟩
theorem Inv.lstUpd{pins:List (Addr×Obj)}{σ:St}{H:Hp}{s:Ux}{p:Addr}{xs ys:List V}{its its':List Ut}{n n':Nat}{f:Obj->Obj}(I:Inv X pins σ H s)(h:H p=some (.lst xs))
 (ho:s.heap.get? p=some { cls:=.type "list",data:=.seq its.toArray n }) (hf:f { cls:=.type "list",data:=.seq its.toArray n } = { cls:=.type "list",data:=.seq its'.toArray n' }) (r:Vals ys its') (hz:ys.length<=sizeLine) (t:Nat) :
 Inv X pins σ (upd H p (.lst ys)) { s with heap:=s.heap.update p f,toks:=t }:=by
 have e:(s.heap.update p f).get? p=some { cls:=.type "list",data:=.seq its'.toArray n' }:=by
  rw[QM f ho (by rw[hf] <;> rfl),hf]
 refine I.write (x:=p) (e:=p) (by rw[h];trivial) (.inl rfl) (λb u hb q=>(Qx _ _ (QN hb)).trans q) ⟨_,e⟩ ?_;exact⟨hz,its',n',r,e⟩
def zi4:V->V->V->Hp->(Hp->Prop)->Prop:=λo i v H Q=>∃p xs k j,o = .ref p/\i = .int k/\H p=some (.lst xs)/\ixN xs.length k=some j/\Q (upd H p (.lst (xs.set j v)))
theorem zhy:PSet X zi4:=by
 intro pins s σ H o i v ov iv u Q I ro ri rv h;obtain⟨p,xs,k,j,rfl,rfl,hp,hj,q⟩:=h;cases ro;obtain⟨t,rfl⟩:=ri;obtain⟨its,n,r,ho,hz⟩:=I.lst hp;obtain⟨h1,h2,h3,h4⟩:=zpk hj;have hl:=r.length;have hn:=zfe
 have I':Inv X pins σ (upd H p (.lst (xs.set j v))) { s with heap:=s.heap.update p (Jq (·.setIfInBounds j u)) } :=
  I.lstUpd hp ho (zrh its n j u) (r.set rv j) (by rw[QC];exact hz) s.toks
 by_cases h0:0<=k
 .have hk:k.toNat=j:=by
   rw[Tu h0 h4] at h1;exact Zl h1
  exact PySem.W.ki_setAt ho h0 (by lia) (by rw[Qp,<- hl];exact h4) (by rw[hk];exact⟨_,I',q⟩)
 .have hk:(k+(its.toArray.size:Int)).toNat=j:=by
   rw[Th (by lia) h3] at h1;rw[Qp,<- hl];exact Zl h1
  exact PySem.W.ki_setBack ho (by lia) (by rw[Qp,<- hl];exact h3) (by lia) (by rw[hk];exact⟨_,I',q⟩)
theorem zn4(lo hi:Option Int)(n:Nat):(Go lo hi none n).1=((HT.sIx n 0 lo:Nat):Int)/\(Go lo hi none n).2.1=((HT.sIx n n hi:Nat):Int)/\(Go lo hi none n).2.2=1:=by
 refine⟨?_,?_,rfl⟩
 .cases lo with
  | none=>simp[Go,HT.sIx]
  | some i=>
    simp only[Go,HT.sIx,VA,show(1:Int) > 0 by decide,TL]
    by_cases h:i<0
    .simp only[h,TL] <;> lia
    .simp only[h,TN] <;> lia
 .cases hi with
  | none=>simp[Go,HT.sIx]
  | some i=>
    simp only[Go,HT.sIx,VA,show(1:Int) > 0 by decide,TL]
    by_cases h:i<0
    .simp only[h,TL] <;> lia
    .simp only[h,TN] <;> lia
theorem zls(its:List Ut)(lo hi:Option Int):slicePick its.toArray lo hi none=((its.drop (HT.sIx its.length 0 lo)).take (HT.sIx its.length its.length hi-HT.sIx its.length 0 lo)).toArray:=by
 obtain⟨h1,h2,h3⟩:=zn4 lo hi its.toArray.size;unfold slicePick;rw[h1,h2,h3];simp only[sliceRange_one,pick_run,Qp] <;> rfl
def rSlL(K:Qa):V->Option Int->Option Int->Hp->VK->Prop:=λx lo hi H Q=>∃a xs,x = .ref a/\SqL K H a xs/\∀p,H p=none->Q (.ref p) (upd H p (.lst (cutV xs lo hi)))
theorem sl_list:SlR X (rSlL X.K):=by
 intro pins s σ H x v vl vu lo hi sl Q I rx hs pl pu h;obtain⟨a,xs,rfl,hx,q⟩:=h;cases rx;obtain⟨its,r,ht,hz⟩:=I.list hx;have hlen:=r.length;refine⟨"list",_,slot_list_getitem.lookup,ht.isList.typeIs,?_⟩;refine wpAny_getItem_list_slice ht.isList hs pl pu .none (by simp) ?_ (by rw[Qp] <;> lia);rw[zls,<- hlen];refine⟨.ref s.heap.objs.size,_,I.laid (t':=s.toks) (o:=.lst (cutV xs lo hi)) (λb ob q=>Qc _ q) (Qm _) ?_,rfl,q _ (I.hok.fresh (Qm _))⟩;exact⟨Q5 (zhp xs lo hi) hz,_,0,(r.drop (HT.sIx xs.length 0 lo)).take (HT.sIx xs.length xs.length hi-HT.sIx xs.length 0 lo),Qt _ rfl⟩
theorem CallR.or(h:CallR X f r)(h':CallR X f r'):CallR X f (λxs H Q=>r xs H Q\/r' xs H Q):=by
 intro pins s σ H xs us Q I rs q;rcases q with q|q
 .exact h pins s σ H xs us Q I rs q
 .exact h' pins s σ H xs us Q I rs q
theorem zmx:CallR X (.type "list") (λxs H Q=>∃p ys,xs = [.ref p]/\(SqL X.K H p ys\/SqT X.K H p ys)/\∀l,H l=none->Q (.ref l) (upd H l (.lst ys))):=by
 intro pins s σ H xs us Q I r h;obtain⟨p,ys,rfl,hq,q⟩:=h;obtain⟨u,rfl,rx⟩:=zjf r;cases rx
 have fin:∀(its:List Ut),Vals ys its->ys.length<=sizeLine->∀(h':Heap) (c':Nat),(∀b o',s.heap.get? b=some o'->h'.get? b=some o') ->
  h'.get? s.heap.objs.size=some { cls:=.type "list",dict:=none,data:=.seq its.toArray c',slots:=#[] }->EP X pins σ Q (.ref s.heap.objs.size) { s with heap:=h' }:=λits r' hz h' c' kp e=>
  ⟨.ref s.heap.objs.size,_,I.laid (t':=s.toks) kp (Qm _) (show ObjOk X.prog X.w _ h' _ (.lst ys) from⟨hz,its,c',r',e⟩),rfl,q _ (I.hok.fresh (Qm _))⟩
 rcases hq with hq|hq
 .obtain⟨its,r',pl,hz⟩:=I.list hq;have hlen:=r'.length;obtain⟨o,ho,hc,n,hd⟩:=pl.isList;exact call_list_seq p (.inl rfl) ho hc hd (λh' c' kp e=>fin its r' hz h' c' kp e) (by simp only[Qp] <;> lia)
 .obtain⟨its,r',pl,hz⟩:=I.tuple hq;have hlen:=r'.length;obtain⟨o,ho,hc,n,hd⟩:=pl;exact call_list_seq p (.inr rfl) ho hc hd (λh' c' kp e=>fin its r' hz h' c' kp e) (by simp only[Qp] <;> lia)
theorem zlo:CallR X (.type "tuple") (λxs H Q=>∃p ys,xs = [.ref p]/\((SqL X.K H p ys/\∀l,H l=none->Q (.ref l) (upd H l (.tup ys)))\/(SqT X.K H p ys/\Q (.ref p) H))):=by
 intro pins s σ H xs us Q I r h;obtain⟨p,ys,rfl,h⟩:=h;obtain⟨u,rfl,rx⟩:=zjf r;cases rx;rcases h with ⟨hq,q⟩|⟨hq,q⟩
 .obtain⟨its,r',pl,hz⟩:=I.list hq;have hlen:=r'.length;refine call_tuple_list pl.isList (λh' kp=>?_) (by simp only[Qp] <;> lia);have I1:Inv X pins σ H { s with heap:=h' }:=I.kept (t':=s.toks) kp
  have I2:Inv X pins σ (upd H h'.objs.size (.tup ys)) { s with heap:=h'.push { cls:=.type "tuple",data:=.seq its.toArray } } :=
   I1.laid (t':=s.toks) (λb o e=>Qc _ e) (Qm _) (show ObjOk X.prog X.w _ _ _ (.tup ys) from⟨hz,its,r',V9 _ _⟩)
  exact⟨.ref h'.objs.size,_,I2,rfl,q _ (I1.hok.fresh (Qm _))⟩
 .obtain⟨its,r',pl,hz⟩:=I.tuple hq;exact call_tuple_same pl ⟨.ref p,H,I,rfl,q⟩
def tyV(K:Qa)(T:String)(x:V)(H:Hp):Prop:=match x with
 | .str _=>T = "str"
 | .int _=>T = "int"
 | .ref p=>(T = "list" /\ ∃xs,SqL K H p xs)\/(T = "tuple" /\ ∃o,K.lookup p=some o/\o.cls = .type "tuple" /\ o.dict=none) \/
  (T = "dict" /\ ((∃kvs,H p=some (.dK kvs))\/∃kvs,H p=some (.dT kvs)))\/(T = "set" /\ ∃S n,H p=some (.set S n))
 | _=>False
theorem zuk{pins:List (Addr×Obj)}(I:Inv X pins σ H s)(r:RelV x v)(ty:tyV X.K T x H):
 s.TypeIs v T/\∀a,v = .ref a->∃ob,s.heap.get? a=some ob/\ob.dict=none:=by
 cases x with
 | str z=>
   obtain⟨t,rfl⟩:=r;cases (show T = "str" from ty);exact⟨typeIs_str s z t,λ_ e=>nomatch e⟩
 | int i=>
   obtain⟨t,rfl⟩:=r;cases (show T = "int" from ty);exact⟨typeIs_int s i t,λ_ e=>nomatch e⟩
 | ref p=>
   cases r;rcases ty with ⟨rfl,xs,hq⟩|⟨rfl,o,hk,hc,hd⟩|⟨rfl,hk⟩|⟨rfl,S,n,hk⟩
   .obtain⟨its,_,pl,_⟩:=I.list hq;refine⟨pl.isList.typeIs,λa e=>?_⟩;cases e;obtain⟨o,n,e,c,hd,_⟩:=pl;exact⟨o,e,hd⟩
   .refine⟨⟨o,I.kIn p o hk,hc⟩,λa e=>?_⟩;cases e;exact⟨o,I.kIn _ o hk,hd⟩
   .have z:∃o,s.heap.get? p=some o/\o.ExactDict:=by
     rcases hk with ⟨kvs,hk⟩|⟨kvs,hk⟩
     .obtain⟨_,_,_,_,o,_,_,e,ex,_⟩:=I.hok p _ hk;exact⟨o,e,ex⟩
     .obtain⟨_,_,_,_,o,_,_,e,ex,_⟩:=I.hok p _ hk;exact⟨o,e,ex⟩
    obtain⟨o,e,ex⟩:=z;refine⟨⟨o,e,ex.1⟩,λa e2=>?_⟩;cases e2;exact⟨o,e,ex.2.1⟩
   .obtain⟨o,_,_,_,e,ex,_⟩:=I.hok p _ hk;refine⟨⟨o,e,ex.1⟩,λa e2=>?_⟩;cases e2;exact⟨o,e,ex.2.1⟩
 | _=>exact QZ ty
def tBM0(K:Qa)(T:String)(r:V->List V->Hp->VK->Prop)(to:TE):TE:=λσ H Q=>to σ H λx H1=>tyV K T x H1/\r x [] H1 Q
def tBM(K:Qa)(T:String)(r:V->List V->Hp->VK->Prop)(to:TE)(t:TA):TE:=λσ H Q=>to σ H λx H1=>tyV K T x H1/\t σ H1 λxs H2=>r x xs H2 Q
variable {o e:Expr}{es:List Expr}{to:TE}{t:TA}{name:Str}{apos cpos:Pos}{T id:String}{r:V->List V->Hp->VK->Prop}
theorem z4p(pa:PlainAttrs T)(slot:Slot T name id)(hty:typeOf (.builtin id)=pure (.type "method_descriptor"))(hm:MtR X id r)(ho:PE X o to)
 (hbase:UJ o name X.env (eval o X.env)=eval o X.env:=by rfl) (hline:(apos.endLine == cpos.line)=true:=by rfl):PE X (.Call (.Attribute o name apos) [] [] cpos) (tBM0 X.K T r to):=by
 intro pins s σ H Q I h;refine wpAny_Call_method0_late hbase hline (thn (ho pins s σ H _ I h) λv s1 zz=>?_);obtain⟨x,H1,I1,r1,ty,q1⟩:=zz;obtain⟨h1,h2⟩:=zuk I1 r1 ty;exact⟨T,id,pa,slot,hty,h1,h2,Y8 rfl (PySem.evalArgs_none (hm pins s1 σ H1 x [] v [] Q I1 r1 .nil q1))⟩
theorem zgb(pa:PlainAttrs T)(slot:Slot T name id)(hty:typeOf (.builtin id)=pure (.type "method_descriptor"))(hm:MtR X id r)(ho:PE X o to)(ha:PA X (e::es) t)
 (hbase:UJ o name X.env (eval o X.env)=eval o X.env:=by rfl)
 (hfew:((UD cpos (Uw (e::es) X.env)).all (λx=>!x.1) && (GU cpos (Gw [] X.env)).all (λx=>x.1.isSome)
  && decide ((e::es).length+([]:List Gp).length+(if([]:List Gp).isEmpty then 0 else 1)<30))=true:=by rfl)
 (hline:(apos.endLine == cpos.line)=true:=by rfl) (hs:Uw (e::es) X.env=(false,eval e X.env)::Uw es X.env:=by rfl) (hplain:(UD cpos (Uw es X.env)).any (·.1)=false:=by rfl) :
 PE X (.Call (.Attribute o name apos) (e::es) [] cpos) (tBM X.K T r to t):=by
 intro pins s σ H Q I h;refine wpAny_Call_method_late hbase hfew hline rfl (thn (ho pins s σ H _ I h) λv s1 zz=>?_);obtain⟨x,H1,I1,r1,ty,q1⟩:=zz;obtain⟨h1,h2⟩:=zuk I1 r1 ty;refine⟨T,id,pa,slot,hty,h1,h2,?_⟩;have hA:=ha cpos pins s1 σ H1 _ I1 q1;rw[hs] at hA ⊢;refine Y8 (by show(false || (UD cpos (Uw es X.env)).any (·.1))=false;rw[hplain] <;> rfl) (Calls.evalArgs_plain ?_);exact thn hA λus s2 ⟨vs,H2,I2,r2,q2⟩=>hm pins s2 σ H2 x vs v us Q I2 r1 r2 q2
/- xs.append(e),list.index on a module's tuple .. are MtR facts of 06m -/
end
def MtM(X:Cx)(id:String)(r:V->List V->Hp->VK->Prop):Prop :=
 ∀(pins:List (Addr×Obj)) (s:Ux) (σ:St) (H:Hp) (x:V) (xs:List V) (v:Ut) (us:List Ut) (Q:VK),Inv X pins σ H s->RelV x v->Vals xs us->r x xs H Q ->
   wpAny (model X.prog X.w) X.A (call (.builtin id) (v::us)) (EP X pins σ Q) X.xe s
theorem Vals.one:∀{x:V} {us:List Ut},Vals [x] us->∃u,us = [u]/\RelV x u
 | _,_,h=>by
   cases h with
   | cons r t=>cases t;exact⟨_,rfl,r⟩
theorem Vals.two:∀{x y:V} {us:List Ut},Vals [x,y] us->∃u v,us = [u,v]/\RelV x u/\RelV y v
 | _,_,_,h=>by
   cases h with
   | cons r t=>
     cases t with
     | cons q t=>cases t;exact⟨_,_,rfl,r,q⟩
theorem Vals.zero:∀{us:List Ut},Vals [] us->us = []
 | _,.nil=>rfl
theorem Vals.dropLast(h:Vals xs us):Vals xs.dropLast us.dropLast:=by
 induction h with
 | nil=>exact .nil
 | cons r t ih=>
   cases t with
   | nil=>exact .nil
   | cons q t'=>exact .cons r ih
theorem Vals.eraseIdx:∀{xs:List V} {us:List Ut} (i:Nat),Vals xs us->Vals (xs.eraseIdx i) (us.eraseIdx i)
 | _,_,_,.nil=>.nil
 | _,_,0,.cons _ t=>t
 | _,_,i+1,.cons r t=>.cons r (Vals.eraseIdx i t)
theorem Vals.reverse(h:Vals xs us):Vals xs.reverse us.reverse:=by
 induction h with
 | nil=>exact .nil
 | cons r t ih=>rw[Vu,Vu];exact Vals.append ih (.cons r .nil)
theorem zqz{α:Type}(l:List α):l.eraseIdx (l.length-1)=l.dropLast:=by
 induction l with
 | nil=>rfl
 | cons a r ih=>
   cases r with
   | nil=>rfl
   | cons b r=>
     have e:(a::b::r).length-1=((b::r).length-1)+1:=by
      have h1:(a::b::r).length=r.length+2:=rfl;have h2:(b::r).length=r.length+1:=rfl;lia
     rw[e,JK,ih]
     all_goals rfl
theorem zkw{α:Type}:∀(l:List α) (i:Nat),(l.eraseIdx i).length<=l.length
 | [],_=>Qm _
 | _::_,0=>Jn _
 | _::r,i+1=>VB (zkw r i)
section
variable {X:Cx}{pins:List (Addr×Obj)}{σ:St}{H:Hp}{s:Ux}{l b:Addr}{xs ys zs:List V}
theorem Inv.lset{its its':List Ut}{n:Nat}{f:Array Ut->Array Ut}{t':Nat}(I:Inv X pins σ H s)(hH:H l=some (.lst xs))
 (e:s.heap.get? l=some { cls:=.type "list",data:=.seq its.toArray n }) (hf:f its.toArray=its'.toArray) (hv:Vals ys its') (hz:ys.length<=sizeLine) :
 Inv X pins σ (upd H l (.lst ys)) { s with heap:=s.heap.update l (Jq f),toks:=t' }:=by
 have q:=PySem.IsL.update e f;rw[hf] at q;refine I.write (x:=l) (e:=l) (by rw[hH];exact trivial) (.inl rfl) (λb' u hb hu=>(Qx s.heap (Jq f) (QN hb)).trans hu) ⟨_,q⟩ ?_;exact⟨hz,its',_,hv,q⟩
theorem Inv.lnew{t':Nat}(I:Inv X pins σ H s)(hv:Vals ys its)(hz:ys.length<=sizeLine):
 Inv X pins σ (upd H s.heap.objs.size (.lst ys)) { s with heap:=s.heap.push { cls:=.type "list",data:=.seq its.toArray },toks:=t' } :=
 I.laid (λ_ _ q=>Qc _ q) (Qm _) ⟨hz,its,0,hv,Qt _ rfl⟩
theorem Inv.fresh(I:Inv X pins σ H s):H s.heap.objs.size=none:=I.hok.fresh (Qm _)
theorem Inv.lstM(I:Inv X pins σ H s)(hH:H l=some (.lst xs)):xs.length<=sizeLine/\∃(its:List Ut) (n:Nat),Vals xs its/\xs.length=its.length/\s.heap.get? l=some { cls:=.type "list",data:=.seq its.toArray n }:=by
 obtain⟨z,its,n,r,e⟩:=I.hok l _ hH;exact⟨z,its,n,r,r.length,e⟩
theorem zva{n:Nat}(h:n<=sizeLine):JC n=false:=by
 unfold JC;exact TF (by lia)
end
section
variable {X:Cx}
def zhe:V->List V->Hp->VK->Prop:=λx vs H Q=>∃l xs y,x = .ref l/\vs = [y]/\H l=some (.lst xs)/\xs.length<sizeLine/\Q .non (upd H l (.lst (xs ++ [y])))
theorem zlc:MtM X "list.append" zhe:=by
 intro pins s σ H x vs v us Q I rx rv h;obtain⟨l,xs,y,rfl,rfl,hH,hz,q⟩:=h;cases rx;obtain⟨u,rfl,ru⟩:=rv.one;obtain⟨z,its,n,r,hl,e⟩:=I.lstM hH;refine Tc F.slot_list_append ⟨_,e,rfl⟩ F.entry_list_append (F.args_list_append_2 _ _) (PySem.list_append l its.toArray n u (by rw[Qp];lia)) ⟨e,?_⟩;refine⟨.non,_,I.lset (its':=its ++ [u]) hH e (by simp) (r.append (.cons ru .nil)) ?_,rfl,q⟩;rw[Qf,Qz];lia
def zhj:V->List V->Hp->VK->Prop:=λx vs H Q=>∃l b xs zs,x = .ref l/\vs = [.ref b]/\H l=some (.lst xs)/\H b=some (.lst zs)/\xs.length+zs.length<=sizeLine/\Q .non (upd H l (.lst (xs++zs)))
theorem zto:MtM X "list.extend" zhj:=by
 intro pins s σ H x vs v us Q I rx rv h;obtain⟨l,b,xs,zs,rfl,rfl,hH,hB,hz,q⟩:=h;cases rx;obtain⟨u,rfl,ru⟩:=rv.one;cases ru;obtain⟨z,its,n,r,hl,e⟩:=I.lstM hH;obtain⟨z2,its2,n2,r2,hl2,e2⟩:=I.lstM hB;have hsz:its.toArray.size+its2.toArray.size<=sizeLine:=by rw[Qp,Qp];lia
 have hlong:¬(!its.toArray.isEmpty && JC (its.toArray.size+its2.toArray.size))=true:=by
  rw[zva hsz,VY];exact Qo
 refine Tc F.slot_list_extend ⟨_,e,rfl⟩ F.entry_list_extend (F.args_list_extend_2 _ _)
  (AutoSeq1.list_extend_list_list_0 l its.toArray n b its2.toArray n2 hlong (by rw[Qp];lia) (by lia)) ⟨e,e2,?_⟩
 refine⟨.non,_,I.lset (its':=its++its2) hH e (by simp) (r.append r2) ?_,rfl,q⟩;rw[Qf];lia
def rPop:V->List V->Hp->VK->Prop:=λx vs H Q=>∃l xs y,x = .ref l/\vs = []/\H l=some (.lst xs)/\xs[xs.length-1]? = some y/\Q y (upd H l (.lst xs.dropLast))
theorem z1d:MtM X "list.pop" rPop:=by
 intro pins s σ H x vs v us Q I rx rv h;obtain⟨l,xs,y,rfl,rfl,hH,hy,q⟩:=h;cases rx;have hus:=rv.zero;subst hus;obtain⟨z,its,n,r,hl,e⟩:=I.lstM hH;obtain⟨u,hu,ru⟩:=r.get hy
 have hy':its.toArray[its.toArray.size-1]? = some u:=by
  show its.toArray[its.length-1]? = some u;rw[<- YJ,<- hl];exact hu
 refine Tc F.slot_list_pop ⟨_,e,rfl⟩ VC (F.args_list_pop_1 _) (MeetsSeq.list_pop_last l its.toArray n u hy' (by rw[Qp];lia)) ⟨e,?_⟩;refine⟨y,_,I.lset (its':=its.dropLast) hH e ?_ r.dropLast ?_,ru,q⟩
 .show its.toArray.eraseIdxIfInBounds (its.toArray.size-1)=its.dropLast.toArray;rw[Qp,JT,zqz]
 .rw[List.length_dropLast];lia
def zjb:V->List V->Hp->VK->Prop:=λx vs H Q=>∃l xs i k y,x = .ref l/\vs = [.int i]/\H l=some (.lst xs)/\-(2 ^ 63)<=i/\i<2 ^ 63/\Tp i xs.length=some k/\xs[k]? = some y/\Q y (upd H l (.lst (xs.eraseIdx k)))
theorem zu5:MtM X "list.pop" zjb:=by
 intro pins s σ H x vs v us Q I rx rv h;obtain⟨l,xs,i,k,y,rfl,rfl,hH,h1,h2,hk,hy,q⟩:=h;cases rx;obtain⟨u,rfl,ru⟩:=rv.one;obtain⟨t,rfl⟩:=ru;obtain⟨z,its,n,r,hl,e⟩:=I.lstM hH;obtain⟨w,hw,rw'⟩:=r.get hy
 refine Tc F.slot_list_pop ⟨_,e,rfl⟩ VC (F.args_list_pop_2 _ _)
  (MeetsSeq.list_pop_at l its.toArray n i t k w (fitsIndex_both h1 h2) (by rw[Qp,<- hl];exact hk) (by rw[<- YJ];exact hw) (by rw[Qp];lia)) ⟨e,?_⟩
 refine⟨y,_,I.lset (its':=its.eraseIdx k) hH e ?_ (r.eraseIdx k) ?_,rw',q⟩
 .show its.toArray.eraseIdxIfInBounds k=(its.eraseIdx k).toArray;rw[JT]
 .have:=zkw xs k;lia
def rCat:R2:=λx y H Q=>∃l b xs zs,x = .ref l/\y = .ref b/\H l=some (.lst xs)/\H b=some (.lst zs)/\xs.length+zs.length<=sizeLine/\∀p,H p=none->Q (.ref p) (upd H p (.lst (xs++zs)))
theorem op_cat:OpR X (UW .Add) rCat:=by
 intro pins s σ H x y v u Q I rx ry h;obtain⟨l,b,xs,zs,rfl,rfl,hH,hB,hz,q⟩:=h;cases rx;cases ry;obtain⟨z,its,n,r,hl,e⟩:=I.lstM hH;obtain⟨z2,its2,n2,r2,hl2,e2⟩:=I.lstM hB;refine PySem.P.add_list e e2 ?_ (by rw[Qp,Qp];lia);have ea:its.toArray++its2.toArray=(its++its2).toArray:=by simp
 rw[ea];exact⟨.ref _,_,I.lnew (t':=s.toks) (r.append r2) (by rw[Qf];lia),rfl,q _ I.fresh⟩
end
section
variable {κ:Type}[DecidableEq κ]
def valV(kvs:List (κ×V))(k:κ):Option V:=(kvs.find? λkv=>decide (kv.1=k)).map (·.2)
def putK(kvs:List (κ×V))(k:κ)(v:V):List (κ×V) :=
 if(kvs.any λkv=>decide (kv.1=k))=true then kvs.map (λkv=>if kv.1=k then(kv.1,v) else kv) else kvs ++ [(k,v)]
theorem zh4{p:κ×V}{r:List (κ×V)}{k:κ}(e:p.1=k):valV (p::r) k=some p.2:=by simp[valV,ZJ,e]
theorem zib{p:κ×V}{r:List (κ×V)}{k:κ}(e:¬p.1=k):valV (p::r) k=valV r k:=by simp[valV,ZJ,e]
theorem zm2(k:κ):∀kvs:List (κ×V),(kvs.any λkv=>decide (kv.1=k))=(valV kvs k).isSome
 | []=>rfl
 | p::r=>by
   rw[Vd]
   by_cases e:p.1=k
   .simp only[zh4 e,TH e,Bool.true_or,Yp]
   .rw[zib e,TF e,Uh];exact zm2 k r
theorem ze5(kvs:List (κ×V))(k:κ)(v:V):(putK kvs k v).length<=kvs.length+1:=by
 unfold putK
 split
 .rw[Qb];lia
 .rw[Qf,Qj,YE];lia
theorem RelO.isSome_eq(r:RelO o u):o.isSome=u.isSome:=by
 cases o with
 | none=>cases u with
   | none=>rfl
   | some _=>exact(show False from r).elim
 | some _=>cases u with
   | none=>exact(show False from r).elim
   | some _=>rfl
theorem KV.val(r:KV kvs vs)(k:κ):RelO (valV kvs k) (GZ vs k):=by
 unfold KV at r
 induction r with
 | nil=>exact Yq
 | @cons p q ps qs h t ih=>
   obtain⟨h1,h2⟩:=h
   by_cases e:p.1=k
   .have e':q.1=k:=h1.symm.trans e;have b:GZ (q::qs) k=some q.2:=by simp[GZ,ZJ,e']
    rw[zh4 e,b];exact h2
   .have e':¬q.1=k:=λz=>e (h1.trans z);have b:GZ (q::qs) k=GZ qs k:=by simp[GZ,ZJ,e']
    rw[zib e,b];exact ih
theorem KV.any(r:KV kvs vs)(k:κ):(kvs.any λkv=>decide (kv.1=k))=vs.any λkv=>decide (kv.1=k):=by
 unfold KV at r
 induction r with
 | nil=>rfl
 | cons h t ih=>rw[Vd,Vd,ih,h.1]
theorem KV.repl(r:KV kvs vs)(k:κ)(ry:RelV y u):
 KV (kvs.map λkv=>if kv.1=k then(kv.1,y) else kv) (vs.map λkv=>if kv.1=k then(kv.1,u) else kv):=by
 unfold KV at r ⊢
 induction r with
 | nil=>exact .nil
 | @cons p q ps qs h t ih=>
   rw[QD,QD];refine .cons ?_ ih;obtain⟨h1,h2⟩:=h
   by_cases e:p.1=k
   .rw[T0 e,T0 (h1.symm.trans e)];exact⟨h1,ry⟩
   .rw[TB e,TB (λz=>e (h1.trans z))];exact⟨h1,h2⟩
theorem KV.put(r:KV kvs vs)(k:κ)(ry:RelV y u):KV (putK kvs k y) (stored vs k u):=by
 unfold putK stored;rw[r.any k]
 by_cases e:(vs.any λkv=>decide (kv.1=k))=true
 .rw[T0 e,T0 e];exact r.repl k ry
 .rw[TB e,TB e];exact Uq r ⟨rfl,ry⟩
theorem KV.length(r:KV kvs vs):kvs.length=vs.length:=Y1 r
end
theorem zl4{w:U0}(r:RelV (kV k) u):(zbn P w).is k u=true:=by
 cases k with
 | inl i=>obtain⟨t,e⟩:=(show ∃t,u=V6 i t from r);subst e;exact zol P w i t
 | inr x=>obtain⟨t,e⟩:=(show ∃t,u=V7 x t from r);subst e;exact zoi P w x t
theorem zli{w:U0}:∀{ks:List Key} {us:List Ut},Vals (ks.map kV) us->ItemsAre (zbn P w) ks us
 | [],_,r=>by rw[Vv] at r;cases r;exact .nil
 | k::ks,_,r=>by
   rw[QD] at r
   cases r with
   | cons h t=>exact .cons (zl4 h) (zli t)
abbrev KT(H:Hp):List (List Key×V)->List (List Key×Addr×Ut)->Prop:=Tl λp q=>p.1=q.1/\H q.2.1=some (.tup (p.1.map kV))/\RelV p.2 q.2.2
theorem KT.val(r:KT H kvs xs)(k:List Key):RelO (valV kvs k) ((Tr xs k).map (·.2)):=by
 induction r with
 | nil=>exact Yq
 | @cons p q ps qs h t ih=>
   obtain⟨h1,_,h2⟩:=h
   by_cases e:p.1=k
   .have e':q.1=k:=h1.symm.trans e;have b:Tr (q::qs) k=some q.2:=by simp[Tr,ZJ,e']
    rw[zh4 e,b];exact h2
   .have e':¬q.1=k:=λz=>e (h1.trans z);have b:Tr (q::qs) k=Tr qs k:=by simp[Tr,ZJ,e']
    rw[zib e,b];exact ih
theorem KT.repl(r:KT H kvs xs)(k:List Key)(ry:RelV y u):
 KT H (kvs.map λkv=>if kv.1=k then(kv.1,y) else kv) (xs.map (putAt k u)):=by
 induction r with
 | nil=>exact .nil
 | @cons p q ps qs h t ih=>
   rw[QD,QD];refine .cons ?_ ih;obtain⟨h1,h2,h3⟩:=h;unfold putAt
   by_cases e:p.1=k
   .rw[T0 e,T0 (h1.symm.trans e)];exact⟨h1,h2,ry⟩
   .rw[TB e,TB (λz=>e (h1.trans z))];exact⟨h1,h2,h3⟩
theorem KT.put(r:KT H kvs xs)(k:List Key)(hb:H b=some (.tup (k.map kV)))(ry:RelV y u):
 KT H (putK kvs k y) (storedH xs k b u):=by
 have e:(kvs.any λkv=>decide (kv.1=k))=(Tr xs k).isSome:=by
  rw[zm2,(r.val k).isSome_eq,Option.isSome_map]
 unfold putK storedH;rw[e]
 by_cases q:(Tr xs k).isSome=true
 .rw[T0 q,T0 q];exact r.repl k ry
 .rw[TB q,TB q];exact Uq r ⟨rfl,hb,ry⟩
theorem KT.keeps(r:KT H kvs xs)(ht:∀b ys,H b=some (.tup ys)->H' b=some (.tup ys)):KT H' kvs xs :=
 Paired.mapP r λ_ _ z=>⟨z.1,ht _ _ z.2.1,z.2.2⟩
section
variable {P:Uy}{w:U0}{H:Hp}{h:Heap}{a:Addr}
theorem zxm(ok:HOk P w H h)(e:Rd H a u):ObjOk P w H h a u:=e.ok ok
theorem zrb(ok:HOk P w H h)(e:Rd H a (.dK kvs)):kvs.length<=sizeLine/\(a == UY)=false/\∃vs,KV kvs vs/\h.DictOf (zbn P w) a vs :=
 show ObjOk P w H h a (.dK kvs) from zxm ok e
theorem zw8(ok:HOk P w H h)(e:H a=some (.dK kvs)):kvs.length<=sizeLine/\(a == UY)=false/\∃vs,KV kvs vs/\h.DictOf (zbn P w) a vs:=zrb ok (.inl e)
theorem zn3(ok:HOk P w H h)(e:H a=some (.tup (ks.map kV))):(tupleKind (zbn P w)).is h ks a:=by
 obtain⟨_,its,r,o,h1,h2,n,h3⟩:=(show ObjOk P w H h a (.tup (ks.map kV)) from ok a _ e);exact⟨o,its.toArray,n,h1,h2,h3,by simpa using zli r⟩
theorem zqb(ok:HOk P w H h)(e:Rd H a (.dT kvs)):kvs.length<=sizeLine/\(a == UY)=false /\
 ∃xs,KT H kvs xs/\h.DictOfH (tupleKind (zbn P w)) a xs:=by
 obtain⟨z,y,xs,r,o,es,ep,h1,h2,h3,h4,h5⟩:=(show ObjOk P w H h a (.dT kvs) from zxm ok e);refine⟨z,y,xs,r,o,es,ep,h1,h2,h3,h4,λx hx=>?_,h5⟩
 have all:∀{l:List (List Key×V)} {m:List (List Key×Addr×Ut)},KT H l m->∀x∈m,(tupleKind (zbn P w)).is h x.1 x.2.1:=by
  intro l m q
  induction q with
  | nil=>intro x hx;exact nomatch hx
  | @cons p q ps qs hq t ih=>
    intro x hx;rcases Q3.mp hx with e|hx
    .subst e;exact zn3 ok (by rw[<- hq.1];exact hq.2.1)
    .exact ih x hx
 exact all r x hx
theorem z5q(ok:HOk P w H h)(e:H a=some (.dT kvs)):kvs.length<=sizeLine/\(a == UY)=false /\
 ∃xs,KT H kvs xs/\h.DictOfH (tupleKind (zbn P w)) a xs:=zqb ok (.inl e)
end
def DGet(H:Hp)(a:Addr)(y:V)(r:Option V):Prop :=
 (∃kvs k,Rd H a (.dK kvs)/\y=kV k/\r=valV kvs k)\/∃kvs k b,Rd H a (.dT kvs)/\y = .ref b/\H b=some (.tup (k.map kV))/\r=valV kvs k
def DPut(H:Hp)(a:Addr)(y v:V)(H':Hp):Prop :=
 (∃kvs k,H a=some (.dK kvs)/\y=kV k/\kvs.length<sizeLine/\H'=upd H a (.dK (putK kvs k v))) \/
 ∃kvs k b,H a=some (.dT kvs)/\y = .ref b/\H b=some (.tup (k.map kV))/\kvs.length<sizeLine/\H'=upd H a (.dT (putK kvs k v))
section
variable {X:Cx}{pins:List (Addr×Obj)}{σ:St}{H:Hp}{s:Ux}{a:Addr}{y v:V}{u r:Ut}{o:Option V}{A:U9}{E:Ut->Ux->Prop}
theorem Inv.big(I:Inv X pins σ H s):UY<s.heap.objs.size:=by
 have h:mainGlobals<s.heap.objs.size:=(I.mod.glob.keeps I.bk).lt;exact Nat.lt_trans (by decide) h
theorem zrz(hu:A.units+1<GJ)(I:Inv X pins σ H s)(g:DGet H a y (some v))(ry:RelV y u)(h:∀w' s',Inv X pins σ H s'->RelV v w'->Q w' s'):
 wpAny (model X.prog X.w) A (Gu (.ref a) u) Q E s:=by
 rcases g with ⟨kvs,k,e,ey,l⟩|⟨kvs,k,b,e,ey,eb,l⟩
 .subst ey;obtain⟨z,hd,vs,rel,dd⟩:=zrb I.hok e;obtain⟨w',hw,rw'⟩:=RelO.some_of (v:=v) (o:=GZ vs k) (by rw[l];exact rel.val k);exact wpAny_getItem_of (zl4 ry) dd.mapOf hw (h w' _ (I.tok _) rw')
 .subst ey;cases (show u=Q9 b from ry);obtain⟨z,hd,xs,rel,dd⟩:=zqb I.hok e;obtain⟨w',hw,rw'⟩:=RelO.some_of (v:=v) (o:=(Tr xs k).map (·.2)) (by rw[l];exact rel.val k);obtain⟨p,hp,hp2⟩:=Q4.mp hw;refine wpAny_getItem_heap (tupleKind_room_in1 hu) (zn3 I.hok eb) dd hp ?_;rw[hp2];exact h w' _ (I.tok _) rw'
theorem zkg{t':Nat}(I:Inv X pins σ H s)(mu:Mut (H a))(hs:Z6 a s.heap h')(he:∃q,h'.get? a=some q)(new:ObjOk X.prog X.w (upd H a ob) h' a ob):
 Inv X pins σ (upd H a ob) { s with heap:=h',toks:=t' } :=
 I.write (x:=a) (e:=a) mu (.inl rfl) (λb q hb z=>(hs.2 b hb).trans z) he new
theorem zr4{w:U0}(z:kvs.length<=sizeLine)(hd:(a == UY)=false)(rel:KV kvs vs)(dd:h'.DictOf (zbn P w) a vs):
 ObjOk P w H' h' a (.dK kvs):=⟨z,hd,vs,rel,dd⟩
theorem zr1(hu:A.units+1<GJ)(I:Inv X pins σ H s)(g:DPut H a y v H')(ry:RelV y u)(rv:RelV v r)(h:∀s',Inv X pins σ H' s'->Q () s'):
 wpAny (model X.prog X.w) A (Ti (.ref a) u r) Q E s:=by
 rcases g with ⟨kvs,k,e,ey,l,eH⟩|⟨kvs,k,b,e,ey,eb,l,eH⟩
 .subst ey eH;obtain⟨z,hd,vs,rel,dd⟩:=zw8 I.hok e;have hz:vs.length<=sizeLine:=by rw[<- rel.length];exact z
  have hl:(putK kvs k v).length<=sizeLine:=by have:=ze5 kvs k v;lia
  refine wpAny_setItem_pairs (hsz:=hz) (zl4 ry) dd λh' dd' hs=>h _ ?_;have he:∃q,h'.get? a=some q:=let ⟨q,_,_,hq,_⟩:=dd';⟨q,hq⟩
  exact zkg I (by rw[e];exact Yq) hs he (zr4 hl hd (rel.put k rv) dd')
 .subst ey eH;cases (show u=Q9 b from ry);obtain⟨z,hd,xs,rel,dd⟩:=z5q I.hok e;have hz:xs.length<=sizeLine:=by rw[<- Y1 rel];exact z
  have hl:(putK kvs k v).length<=sizeLine:=by have:=ze5 kvs k v;lia
  refine wpAny_setItem_heap (hsz:=hz) (tupleKind_room_in1 hu) (zn3 I.hok eb) dd λh' dd' hs=>h _ ?_;obtain⟨q,es,ep,hq,h2,h3,h4,_,h5⟩:=dd';refine zkg I (by rw[e];exact Yq) hs ⟨q,hq⟩ ⟨hl,hd,_,(rel.put k eb rv).keeps λc ys ec=>?_,q,es,ep,hq,h2,h3,h4,h5⟩;rw[zae (z6a ec e (λz=>nomatch z))];exact ec
end
def NoSl(i:Expr):Prop:=∀ov iv,subscripted i false ov iv=operate [ov,iv] (Gu ov iv)
theorem zzb{prog:Uy}{w:U0}{A:U9}{E:Ut->Ux->Prop}{s:Ux}{env:Env}{value slice:Expr}{pos:Pos}{T id:String}{Q:Ut->Ux->Prop}
 (hl:Td (.type T) "__getitem__" = pure (some (.builtin id))) (hs:NoSl slice)
 (h:wpAny (model prog w) A (eval value env) (λo s₁=>wpAny (model prog w) A (eval slice env) (λi s₂=>s₂.TypeIs o T/\wpAny (model prog w) A (Gu o i) Q E s₂) E s₁) E s) :
 wpAny (model prog w) A (eval (.Subscript value slice pos) env) Q E s:=by
 refine Subscript_ (U2 h (λo s₁ h₁=>U2 h₁ (λi s₂ h₂=>?_) λ_ _ x=>x) λ_ _ x=>x);obtain⟨hT,h₂⟩:=h₂;unfold Tb;refine Us ?_;rw[getitemInPython_of_ne hT.not_modules];refine Us (GM hT hl ?_)
 have fin:wpAny (model prog w) A (subscripted slice false o i) (λr s₃=>wpAny (model prog w) A (letTemporaryGo value o r >>= λ_=>pure r) Q E s₃) E s₂:=by
  rw[hs o i];exact wpAny_operating (U2 h₂ (λr s₃ h₃=>Us (wpAny_letTemporaryGo (Uv h₃))) λ_ _ x=>x)
 first
  | exact Uv (Us fin)
  | exact Us (Uv (Us fin))
  | exact Us fin
theorem zos{pins:List (Addr×Obj)}(I:Inv X pins σ H s)(g:DGet H a y o):s.TypeIs (.ref a) "dict" := by
 rcases g with ⟨kvs,k,e,_,_⟩|⟨kvs,k,b,e,_,_,_⟩
 .obtain⟨_,_,vs,_,dd⟩:=zrb I.hok e;exact dd.typeIs
 .obtain⟨_,_,xs,_,dd⟩:=zqb I.hok e;exact dd.typeIs
def zwx(td ty:TE):TE:=λσ H Q=>td σ H λx H1=>ty σ H1 λy H2=>∃a v,x = .ref a/\DGet H2 a y (some v)/\Q v H2
def zl2(td ty tv:TE):TS:=λD σ H=>tv σ H λv H1=>td σ H1 λx H2=>ty σ H2 λy H3=>∃a H4,x = .ref a/\DPut H3 a y v H4/\D.nx σ H4
section
variable {X:Cx}{o i e value:Expr}{pos pos' tpos:Pos}{td ty tv:TE}
theorem zdf(hu:X.A.units+1<GJ)(ho:PE X o td)(hi:PE X i ty)(hs:NoSl i):PE X (.Subscript o i pos) (zwx td ty):=by
 intro pins s σ H Q I h;refine zzb PySem.F.slot_dict_getitem.lookup hs (thn (ho pins s σ H _ I h) λu s1 ⟨x,H1,I1,rx,q1⟩=>thn (hi pins s1 σ H1 _ I1 q1) λiv s2 zz=>?_);obtain⟨y,H2,I2,ry,a,v,ex,g,q2⟩:=zz;subst ex;obtain rfl:u=Q9 a:=rx;exact⟨zos I2 g,zrz hu I2 g ry λw' s3 I3 rw'=>⟨v,H2,I3,rw',q2⟩⟩
theorem zjv(hu:X.A.units+1<GJ)(ho:PE X o td)(hi:PE X i ty)(hv:PE X value tv)(hs:UZ value (some (.Subscript o i pos')) pos.line X.env=pure false):
 PS X (.Assign [.Subscript o i pos'] value pos) (zl2 td ty tv):=by
 intro pins s σ H D I h;refine wpAny_Assign_Subscript (thn (hv pins s σ H _ I h) λr s1 ⟨v,H1,I1,rv,q1⟩=>thn (ho pins s1 σ H1 _ I1 q1) λu s2 ⟨x,H2,I2,rx,q2⟩=>thn (hi pins s2 σ H2 _ I2 q2) λiv s3 zz=>?_) hs;obtain⟨y,H3,I3,ry,a,H4,ex,g,q3⟩:=zz;subst ex;obtain rfl:u=Q9 a:=rx;exact zr1 hu I3 g ry rv λs4 I4=>⟨σ,H4,I4,q3⟩
end
theorem zu3{w:U0}(h:Heap)(hb:UY<h.objs.size):ObjOk P w H (h.push { cls:=.type "dict",data:=.dict #[] }) h.objs.size (.dK []) :=
 ⟨QL _,beq_eq_false_iff_ne.mpr (QN (QP hb)),[],.nil,Heap.DictOf.new h⟩
def zmh:List (TE×TE)->St->Hp->(List (V×V)->Hp->Prop)->Prop
 | [],_,H,Q=>Q [] H
 | (tk,tv)::r,σ,H,Q=>tk σ H λx H1=>tv σ H1 λy H2=>zmh r σ H2 λps H3=>Q ((x,y)::ps) H3
abbrev VV:List (V×V)->List (Ut×Ut)->Prop:=Tl λp q=>RelV p.1 q.1/\RelV p.2 q.2
def PPs(X:Cx)(pos:Pos)(keys:List (Option Expr))(values:List Expr)(trs:List (TE×TE)):Prop :=
 ∀(pins:List (Addr×Obj)) (s:Ux) (σ:St) (H:Hp) (Q:List (V×V)->Hp->Prop),Inv X pins σ H s->zmh trs σ H Q ->
   wpAny (model X.prog X.w) X.A (evalPairs (pairTrees keys values X.env pos)) (λvs s'=>∃ps H',Inv X pins σ H' s'/\VV ps vs/\Q ps H') X.xe s
theorem z0e: PPs X pos [] [] []:=λpins s σ H Q I h=>pairTrees_nil_walk ⟨[],H,I,.nil,h⟩
theorem zh3(hk:PE X k tk)(hv:PE X v tv)(hr:PPs X pos ks vs trs):
 PPs X pos (some k::ks) (v::vs) ((tk,tv)::trs):=λpins s σ H Q I h=>
 pairTrees_cons_walk (thn (hk pins s σ H _ I h) λu s1 ⟨x,H1,I1,rx,q1⟩=>thn (hv pins s1 σ H1 _ I1 q1) λw2 s2 ⟨y,H2,I2,ry,q2⟩=>
  thn (hr pins s2 σ H2 _ I2 q2) λws s3 ⟨ps,H3,I3,rel,q3⟩=>⟨(x,y)::ps,H3,I3,.cons ⟨rx,ry⟩ rel,q3⟩)
def zeg(kvs more:List (Key×V)):List (Key×V):=more.foldl (λacc kv=>putK acc kv.1 kv.2) kvs
theorem KV.merge:∀{more:List (Key×V)} {rs:List (Key×Ut)} {kvs:List (Key×V)} {vs:List (Key×Ut)},KV more rs->KV kvs vs->KV (zeg kvs more) (merged vs rs):=by
 intro more rs kvs vs r;unfold KV at r
 induction r generalizing kvs vs with
 | nil=>intro q;exact q
 | @cons p q ps qs h t ih=>
   intro r0
   have e:KV (putK kvs p.1 p.2) (stored vs q.1 q.2):=by
    have:=r0.put p.1 h.2;rw[<- h.1];exact this
   exact ih e
theorem zgi:∀(more kvs:List (Key×V)),(zeg kvs more).length<=kvs.length+more.length
 | [],kvs=>by show kvs.length<=kvs.length+0;lia
 | p::r,kvs=>by
   have h1:=zgi r (putK kvs p.1 p.2);have h2:=ze5 kvs p.1 p.2;show(zeg (putK kvs p.1 p.2) r).length<=_;rw[Qj];lia
theorem zji{w:U0}:∀{kvs:List (Key×V)} {ws:List (Ut×Ut)},VV (kvs.map λkv=>(kV kv.1,kv.2)) ws->∃rs,Carries (zbn P w) ws rs/\KV kvs rs
 | [],_,r=>by rw[Vv] at r;cases r;exact⟨[],Yq,.nil⟩
 | p::kvs,_,r=>by
   rw[QD] at r
   cases r with
   | @cons a b as bs h t=>
     obtain⟨rs,c,q⟩:=zji (P:=P) (w:=w) t;obtain⟨b1,b2⟩:=b;exact⟨(p.1,b2)::rs,⟨zl4 h.1,rfl,c⟩,.cons ⟨rfl,h.2⟩ q⟩
def zxi(trs:List (TE×TE)):TE:=λσ H Q=>∀p,H p=none->zmh trs σ (upd H p (.dK [])) λps H2=>H2 p=some (.dK [])/\∃kvs:List (Key×V),ps=kvs.map (λkv=>(kV kv.1,kv.2))/\kvs.length<=15/\Q (.ref p) (upd H2 p (.dK (zeg [] kvs)))
theorem z0v{keys:List (Option Expr)}{values:List Expr}(h:PPs X pos keys values trs)(hall:keys.all (·.isSome)=true)(hl:keys.length=values.length)(h0:keys≠[])
 (h15:keys.length<=15):PE X (.Dict keys values pos) (zxi trs):=by
 intro pins s σ H Q I q;have hn:=I.hok.fresh (Qm s.heap.objs.size);have I1:=I.laid (a:=s.heap.objs.size) (o:=.dK []) (h':=s.heap.push { cls:=.type "dict",data:=.dict #[] }) (t':=s.toks) (λ_ _ q=>Qc _ q) (Qm _) (zu3 s.heap I.big);refine wpAny_Dict_walk (knd:=zbn X.prog X.w) hall hl h0 h15 (thn (h pins _ σ _ _ I1 (q _ hn)) λws s2 zz=>?_);obtain⟨ps,H2,I2,rel,e,kvs,ep,lk,q2⟩:=zz;subst ep;obtain⟨rs,c,rk⟩:=zji (P:=X.prog) (w:=X.w) rel;obtain⟨z,hd,vs0,r0,dd⟩:=zw8 I2.hok e;cases r0;refine⟨rs,c,dd,λh' dd' hs=>⟨.ref s.heap.objs.size,_,?_,rfl,q2⟩⟩
 have hz:(zeg [] kvs).length<=sizeLine:=by
  have h1:=zgi kvs [];rw[YE] at h1;rw[Uz];lia
 have he:∃q,h'.get? s.heap.objs.size=some q:=let ⟨q,_,_,hq,_⟩:=dd';⟨q,hq⟩
 exact zkg I2 (by rw[e];exact Yq) hs he (zr4 hz hd (rk.merge .nil) dd')
end L2
namespace Att
open PySem PySem.W PySem.Calls PyProof.Rows
theorem zi8{h:Heap}:∀(ns:List Int) (vs:List Ut),WellAll P h vs (ns.map WData.int)->Tw vs ns:=by
 intro ns
 induction ns with
 | nil=>
   intro vs w;rw[Vv] at w;cases w;exact .nil
 | cons n ns ih=>
   intro vs w;rw[QD] at w
   cases w with
   | cons a b=>
     cases a;exact .cons _ _ (ih _ b)
theorem ztb{l:OpenLaw}{n:Nat}(hn:l.most=some n){P:Params}{h:Heap}{args:List WData}{vals:List Ut}
 (hpre:l.row.toRowW.claim.pre args=true) (hwl:WellAll P h vals args) :
 ∃a vs ns,vals = [Q9 a]/\args = [WData.list (ns.map WData.int)]/\h.get? a=some { cls:=.type "list",data:=.seq vs.toArray }/\Tw vs ns/\ns.length<=n:=by
 have hsh:WShape.hasAll [] args [.list .int]=true:=(pre_splitW hpre).1;have hc:l.pre.holds [] { args:=args }=true:=(pre_splitW hpre).2;obtain⟨d,r,rfl,h1,h2⟩:=hasAllW_cons hsh;obtain rfl:=hasAllW_nil h2;obtain⟨xs,rfl,h3⟩:=hasW_list h1;obtain⟨ns,rfl⟩:=items_int h3
 have hlen:ns.length<=n:=by
  unfold OpenLaw.pre at hc
  have h4:(WTm.not (.lt (.lit (.int (n:Int))) (.len (.arg 0)))).holds [] { args:=[.list (ns.map .int)] }=true:=by
   have h4:=(holds_andW hc).1;rw[hn] at h4;exact h4
  have h5:=condW_of h4 (w_not (w_lt w_lit (w_len_list (w_arg rfl))));rw[Qb] at h5;refine JU λq=>?_;have q':(n:Int)<((ns.length:Nat):Int):=by lia
  first
   | (rw[TH q'] at h5;exact absurd h5 (by decide))
   | (simp at h5;lia)
 cases hwl with
 | cons w1 w2=>
   cases w2
   cases w1 with
   | list ho hall=>exact⟨_,_,ns,rfl,rfl,ho,zi8 ns _ hall,hlen⟩
theorem zso(l:OpenLaw)(args:List WData):l.row.toRowW.claim.post args (.bool true) args=true :=
 postW_of (r:=l.row.toRowW) (X:=(true == true))
  (show WShape.has [] (.bool true) .bool=true by first|rfl|decide|simp[WShape.has,WShape.arms,WShape.armsAll])
  (show(WTm.eq .res (.lit (.bool true))).value [] { args:=args,res:=some (.bool true),after:=args }=some (.bool (true == true)) from w_eq_bool (w_res rfl) w_lit) rfl
theorem attach_call{l:OpenLaw}{n:Nat}{q:Uy}{loose:List Str}{XP:(Str->Option Ut)->Heap->Prop}{YP:U0->Heap->Prop}{d:DefRec}
 (hn:l.most=some n) (hdf:d.params.defaults = [])
 (call:∀(w:U0) (s₀ s₁:Ux) (mg mb:Str->Option Ut) (fa:Addr) (o:Obj) (pm cd doc:Ut) (a:Addr) (vs:List Ut) (ns:List Int),
  Ground q loose [] XP w s₀ mg mb s₁.heap->YP w s₁.heap ->
  s₁.heap.get? fa=some o->o.data = .func (docDef d.name d.params d.body d.scope pm cd doc)->s₁.heap.CodeRec cd d.name->mg d.name=some (.ref fa) ->
  s₁.heap.get? a=some { cls:=.type "list",data:=.seq vs.toArray }->Tw vs ns->ns.length<=n->s₁.gens = #[] ->
  Gi (model l.prog w) callerA (.call (.ref fa) ⟨[.ref a],[]⟩) (λr s'=>r = .ok (.ret (.bool true))/\OldK s₁.heap s'.heap/\s'.os=s₁.os/\G4 s'.gens) s₁) :
 WalkO q loose XP YP l.row.toRowW d [] (λf vs=>VZ f vs):=by
 intro w s₀ s₁ mg mb G Y fa o pm cd doc dV kV ho hd hcd hD hmg hg args vals as hpre hlay hrd hwl hlo;obtain rfl:dV = .none:=Dflts.none hD hdf;obtain rfl:kV = .none:=Dflts.noKw hD;obtain⟨a,vs,ns,rfl,rfl,hobj,hints,hlen⟩:=ztb hn hpre hwl;refine enter_call (Gq (call w s₀ s₁ mg mb fa o pm cd doc a vs ns G Y ho (fd_plain hd) hcd hmg hobj hints hlen hg) λr s' hq=>?_);obtain⟨rfl,h2,h3,h4⟩:=hq;exact⟨.inl ⟨.bool true,.bool true,[],rfl,λ_=>rfl,.bool true,zso l _,λ_=>⟨List.Pairwise.nil,λ_ hm=>(nomatch hm)⟩⟩,h2,h3,h4⟩
end Att
namespace L2
open PySem PySem.Spec PyProof.Rows
theorem zks:∀{vs:List Ut} {ns:List Int},Tw vs ns->Vals (ns.map V.int) vs
 | _,_,.nil=>.nil
 | _,_,.cons n t h=>.cons ⟨t,rfl⟩ (zks h)
def Only(H:Hp):Prop:=∀b,H b=none\/∃o xs,H b=some (.frz o (.lst xs))
theorem zvl{P:Uy}{w:U0}{K:Qa}{mg mb:Str->Option Ut}{CX:CXT}{k:Nat}{fa a:Addr}{fd:UM}{x:Str}{sp:Sp}{s₁:Ux}{vs:List Ut}{ns:List Int}
 (KX:K.In s₁.heap) (hns:s₁.heap.Ns mainGlobals mg) (hb:s₁.heap.Ns builtinsNs mb) (hbb:∀x:Str,x ≠ "__name__" -> mb x=U5 x) (hlim:s₁.heap.NoLimit) (hg:s₁.gens = #[])
 (ha:s₁.heap.get? a=some { cls:=.type "list",data:=.seq vs.toArray }) (hi:Tw vs ns) (hl:ns.length<=sizeLine) (hr:Room k callerA)
 (F:∀base:Heap,K.In base->base.Ns mainGlobals mg->FnOk P w K mg base CX k fa fd [x] sp) (hbind:∀(s:Ux) (u:Ut),Te s fd ⟨[u],[]⟩ [(x,u)])
 (hsp:∀H:Hp,Only H->SqL K H a (ns.map V.int)->sp [.ref a] H (λv _=>v = .bl true) λ_ _ _=>False)
 (hCX:∀H e s',CX [] H s₁ (λ_ _ _=>False) e s'->False) :
 Gi (model P w) callerA (.call (.ref fa) ⟨[.ref a],[]⟩) (λr s'=>r = .ok (.ret (.bool true))/\OldK s₁.heap s'.heap/\s'.os=s₁.os/\G4 s'.gens) s₁:=by
 have rv:=zks hi;have lenV:=hi.length
 -- from an abstract heap in which nothing but the script may be tracked
 have core:∀H:Hp,Only H->SqL K H a (ns.map V.int)->HOk P w H s₁.heap->(∀b,H b≠none->b=a)->(H a≠none->K.lookup a=none) ->
  Gi (model P w) callerA (.call (.ref fa) ⟨[.ref a],[]⟩) (λr s'=>r = .ok (.ret (.bool true))/\OldK s₁.heap s'.heap/\s'.os=s₁.os/\G4 s'.gens) s₁:=by
  intro H hO hS hok hA hK;have base_of:∀{b:Addr} {o:Obj},s₁.heap.get? b=some o->H b=none->(hidT s₁.heap H).get? b=some o:=λe n=>zvu e n
  have noA:∀{b:Addr} {o:Obj} {es:Array DictEntry} {ep:Nat},s₁.heap.get? b=some o->o.data = .dict es ep->H b=none:=λ{b o es ep} e d=>by
   cases q:H b with
   | none=>rfl
   | some u=>
     have e':b=a:=hA b (by rw[q];simp);subst e';rw[ha] at e;cases e;have d':Data.seq vs.toArray _=Data.dict es ep:=d;cases d'
  have nsK:∀{b:Addr} {m:Str->Option Ut},s₁.heap.Ns b m->(hidT s₁.heap H).Ns b m:=λ{b m} ⟨o,es,ep,e,d,r⟩=>⟨o,es,ep,base_of e (noA e d),d,r⟩
  have hKb:K.In (hidT s₁.heap H):=λb o e=>base_of (KX b o e) (by
   cases q:H b with
   | none=>rfl
   | some u=>
     have e':b=a:=hA b (by rw[q];simp);subst e'
     rw[hK (by rw[q];simp)] at e;cases e)
  have hM:Mod K mg (hidT s₁.heap H):=⟨hKb,nsK hns,⟨mb,nsK hb,hbb⟩,let ⟨mc,h1,h2⟩:=hlim;⟨mc,nsK h1,h2⟩⟩;have e0:Env0 P w K mg (hidT s₁.heap H) callerA [] s₁ H:=⟨rfl,hM,λb o e=>zy7 e,Y9 (ztr _ _),trivial,λb hb=>absurd (show b∈([]:List Addr) from hb) (by simp),hok,.of_eq hg⟩;refine Gq ((F _ hKb (nsK hns)).run callerA [] s₁ H ⟨[.ref a],[]⟩ [.ref a] [.ref a] _ _ hr e0 (hbind s₁ (.ref a)) (.cons rfl .nil) (hsp H hO hS)) λr s' h=>?_
  cases r with
  | error e=>exact(hCX H e s' h).elim
  | ok fl=>
    cases fl with
    | next=>exact QZ h
    | brk=>exact QZ h
    | cont=>exact QZ h
    | ret u=>
      obtain⟨v,H',os,bare,un,hok',r',q⟩:=h;have q':v = .bl true:=q;subst q';obtain rfl:u=ZC true:=r';refine⟨rfl,OldK.of_keep λb o e=>?_,os,bare⟩
      cases q:H b with
      | none=>exact un.keep b o e q (by intro z;exact absurd (show b∈([]:List Addr) from z) (by simp)) (by simp)
      | some u=>
        rcases hO b with z|⟨ob,xs,z⟩
        .rw[q] at z;cases z
        .have z2:=un.frzs b ob _ z;obtain⟨e1,_⟩:=hok b _ z;obtain⟨e2,_⟩:=hok' b _ z2;rw[e] at e1;cases e1;exact e2
 cases hk:K.lookup a with
 | some o=>
   -- the script is one of the module's own objects
   have e:=KX a o hk;rw[ha] at e;cases e;refine core (λ_=>none) (λ_=>.inl rfl) (.inr ⟨_,vs.toArray,_,hk,rfl,rfl,rfl,by rw[Qp,lenV];exact hl,by simpa using rv⟩) (λb u z=>by have z':(none:Option HO)=some u:=z;cases z') (λb z=>absurd rfl z) λz=>absurd rfl z
 | none=>
   refine core (λb=>if b=a then some (.frz { cls:=.type "list",data:=.seq vs.toArray } (.lst (ns.map V.int))) else none) (λb=>?_) (.inl (.inr ⟨{ cls:=.type "list",data:=.seq vs.toArray },T0 rfl⟩)) (λb u z=>?_) (λb z=>?_) λ_=>hk
   .by_cases hb:b=a
    .exact .inr ⟨_,_,T0 hb⟩
    .exact .inl (TB hb)
   .by_cases hb:b=a
    .have z':=(T0 hb).symm.trans z;cases z';subst hb;exact⟨ha,by rw[Qb];exact hl,vs,_,rv,ha⟩
    .have z':=(TB hb).symm.trans z;cases z'
   .by_cases hb:b=a
    .exact hb
    .exact absurd (TB hb) z
theorem walk_of{l:YF}{n k:Nat}{q:Uy}{loose:List Str}{XP:(Str->Option Ut)->Heap->Prop}{YP:U0->Heap->Prop}{d:DefRec}{K:Params->Qa}{CX:U0->CXT}{sp:U0->Sp}{x:Str}
 (hn:l.most=some n) (hn2:n<=sizeLine) (hdf:d.params.defaults = []) (hr:Room k callerA)
 (hY:∀(w:U0) (h:Heap),YP w h->(K w.params).In h)
 (F:∀(w:U0) (mg:Str->Option Ut) (fa:Addr) (h:Heap),(K w.params).In h->h.Ns mainGlobals mg->mg d.name=some (.ref fa) ->
  ∃fd:UM,(∀(s:Ux) (u:Ut),Te s fd ⟨[u],[]⟩ [(x,u)]) /\
    ∀base:Heap,(K w.params).In base->base.Ns mainGlobals mg->FnOk l.prog w (K w.params) mg base (CX w) k fa fd [x] (sp w))
 (hsp:∀(w:U0) (H:Hp) (a:Addr) (ns:List Int),ns.length<=n->Only H->SqL (K w.params) H a (ns.map V.int)->sp w [.ref a] H (λv _=>v = .bl true) λ_ _ _=>False)
 (hCX:∀(w:U0) (H:Hp) (s:Ux) (e:Ut) (s':Ux),CX w [] H s (λ_ _ _=>False) e s'->False) :
 Ui q loose XP YP l.row.toRowW d [] (λf vs=>VZ f vs):=by
 refine Att.attach_call hn hdf λw s₀ s₁ mg mb fa o pm cd doc a vs ns G Y ho hd hcd hmg hobj hints hlen hg=>?_;have KX:=hY w _ Y;obtain⟨fd,hb,hF⟩:=F w mg fa _ KX G.T.g hmg;exact zvl KX G.T.g G.T.b G.T.builtins G.T.nolimit hg hobj hints (Q5 hlen hn2) hr hF hb (λH hO hS=>hsp w H a ns hlen hO hS) λH e s'=>hCX w H s₁ e s'
def zb8(s:Stmt):Tk:=match s with
 | .FunctionDef _ a _ _ _ _ _ _ _ _=>a
 | _=>{ posonlyargs:=[],args:=[],vararg:=none,kwonlyargs:=[],kw_defaults:=[],kwarg:=none,defaults:=[] }
def zbi(s:Stmt):List Stmt:=match s with
 | .FunctionDef _ _ b _ _ _ _ _ _ _=>b
 | _=>[]
def zah(s:Stmt):UN:=match s with
 | .FunctionDef _ _ _ _ _ _ sc _ _ _=>sc
 | _=>{ kind:=.function,names:=[],isGenerator:=false,isCoroutine:=false }
abbrev CX0:CXT:=λ_ _ _ _ _ _=>False
abbrev E0:XK:=λ_ _ _=>False
theorem zim: znl CX0 X E0:=λ_ _ _ _ _ _ _ h=>h.elim
structure Fun(K:Qa)(x qual:Str)(st:Stmt)(f:Addr)(fd:UM):Prop where
 ex:∃(oc:Ut) (od:Option Addr) (kV doc pm:Ut) (an:Option Addr) (cdv ct:Ut) (osl:Array (Option Ut)),
  fd=Zq x qual (zb8 st) (zbi st) (zah st) .none kV doc pm an cdv ct/\K.lookup f=some ⟨oc,od,.func fd,osl⟩/\Ji K cdv qual=true
 kp:Zt K (.ref f)=true
section
variable {P:Uy}{w:U0}{K:Qa}{mg:Str->Option Ut}{base:Heap}
theorem Fun.ok{x qual:Str}{st:Stmt}{f:Addr}{fd:UM}{N ps:List Str}{k:Nat}{sp:Sp}(F:Fun K x qual st f fd)(S:FnScope N ps (zah st))(len:∀vs H Q E,sp vs H Q E->vs.length=ps.length)
 (hbody:∀(cdv:Ut) (A:U9) (outer:List Env) (s:Ux) (H:Hp) (vs:List V) (Q:VK) (E:XK),Room k (A.deeper (G6 qual (zah st) s.heap.objs.size f cdv))->sp vs H Q E ->
  ∃t,PSs (cxOf CX0 P w K mg base N qual (zah st) f cdv A outer s H E).nox (zbi st) t/\t { nx:=λ_ H'=>Q .non H',rt:=Q } (start N vs) H):FnOk P w K mg base CX0 (k+1) f fd ps sp:=by
 obtain⟨oc,od,kV,doc,pm,an,cdv,ct,osl,rfl,lk,hcd⟩:=F.ex;refine zqr lk hcd S len λA outer s H vs Q E hr hsp=>?_;obtain⟨t,h,q⟩:=hbody cdv A outer s H vs Q E hr hsp;exact⟨t,h.nox,q⟩
theorem Fun.binds{x qual:Str}{st:Stmt}{f:Addr}{fd:UM}{ps:List Str}(F:Fun K x qual st f fd)
 (h:∀(kV doc pm:Ut) (an:Option Addr) (cdv ct:Ut) (us:List Ut),us.length=ps.length->UK (Zq x qual (zb8 st) (zbi st) (zah st) .none kV doc pm an cdv ct) ⟨us,[]⟩=pure (ps.zip us)):Binds K fd ps []:=by
 obtain⟨oc,od,kV,doc,pm,an,cdv,ct,osl,rfl,lk,hcd⟩:=F.ex;exact .all (h kV doc pm an cdv ct)
theorem zs2{x qual:Str}{st:Stmt}{f:Addr}{oc:Ut}{od an:Option Addr}{osl:Array (Option Ut)}{kV doc pm cdv ct:Ut}(l:K.lookup f=some ⟨oc,od,.func (Zq x qual (zb8 st) (zbi st) (zah st) .none kV doc pm an cdv ct),osl⟩)
 (c:Ji K cdv qual=true) (k:Zt K (.ref f)=true):Fun K x qual st f (Zq x qual (zb8 st) (zbi st) (zah st) .none kV doc pm an cdv ct):=⟨⟨oc,od,kV,doc,pm,an,cdv,ct,osl,rfl,l,c⟩,k⟩
end
theorem zdl{k:Nat}(hr:Room k A):A.units+1<GJ:=Vk (Nat.add_le_add_left (by decide:1<=64) _) hr.units
theorem iteF{A B:Prop}(h:B):if false=true then A else B:=by
 rw[TB Qo];exact h
theorem iteT{A B:Prop}(h:A):if true=true then A else B:=by
 rw[T0 rfl];exact h
theorem ite2{c A B:Prop}[Decidable c](h1:c->A)(h2:¬c->B):if c then A else B:=by
 by_cases h:c
 .rw[T0 h];exact h1 h
 .rw[TB h];exact h2 h
def Same(H H':Hp):Prop:=∀b o,H b=some o->H' b=some o
theorem Same.refl(H:Hp):Same H H:=λ_ _ h=>h
theorem Same.trans(a:Same H H1)(b:Same H1 H2):Same H H2:=λc o h=>b c o (a c o h)
theorem Same.free(e:Same H H')(h:H' l=J1):H l=J1:=by
 cases q:H l with
 | none=>rfl
 | some o=>
   rw[e l o q] at h;cases h
theorem Same.seq{K:Qa}{H H':Hp}{a:Addr}{xs:List V}(e:Same H H')(h:SqL K H a xs):SqL K H' a xs:=by
 rcases h with (h|⟨o,h⟩)|h
 .exact .inl (.inl (e _ _ h))
 .exact .inl (.inr ⟨o,e _ _ h⟩)
 .exact .inr h
end L2
set_option maxHeartbeats 4000000
namespace L3
open PySem PySem.Spec
open PyProof.Rows hiding St
open L2
theorem zrc{α β:Type}{l:List α}{f:α->β->Sem (ForInStep β)}(g:α->β->β):∀(c:β),(∀x∈l,∀c,f x c=pure (.yield (g x c)))->forIn l c f=pure (l.foldl (λc x=>g x c) c):=by
 induction l with
 | nil=>intro c _;rfl
 | cons x l ih=>
   intro c h;rw[JG,h x Qw,pure_bind];exact ih (g x c) λy hy=>h y (Qq _ hy)
def clOf(ns:List (Str×UV))(env:Env):List (Str×Addr):=ns.foldl (λcs x=>if x.2 == .free then(x.1,(env.cells.lookup x.1).getD 0)::cs else cs) []
theorem zqa{scope:UN}(h:∀p∈scope.names,p.2 = .free->∃c,env.cells.lookup p.1=some c):closureFor scope env=pure (clOf scope.names env):=by
 simp only[closureFor];unfold clOf;rw[zrc (λ(x:Str×UV) (cs:List (Str×Addr))=>if x.2 == .free then(x.1,(env.cells.lookup x.1).getD 0)::cs else cs)]
 .rfl
 .intro x hx c;obtain⟨n,k⟩:=x;dsimp only
  by_cases hk:k = .free
  .subst hk;obtain⟨a,ha⟩:=h _ hx rfl;have ha':env.cells.lookup n=some a:=ha;simp only[TK,TL,cellOf,ha',pure_bind,Y3]
  .have hb:(k == Zk)=false:=by simpa using hk
   simp only[hb,ZU,TN]
theorem zzn{env:Env}{x:Str}:∀(ns:List (Str×UV)) (acc:List (Str×Addr)) (c:Addr),
 (ns.foldl (λcs y=>if y.2 == .free then(y.1,(env.cells.lookup y.1).getD 0)::cs else cs) acc).lookup x=some c->acc.lookup x=some c\/((x,Zk)∈ns/\c=(env.cells.lookup x).getD 0):=by
 intro ns
 induction ns with
 | nil=>intro acc c h;exact .inl h
 | cons y r ih=>
   intro acc c h;obtain⟨n,k⟩:=y;rw[YG] at h;rcases ih _ c h with h1|⟨h1,h2⟩
   .by_cases hk:k = .free
    .subst hk;simp only[TK,TL] at h1
     by_cases hx:x=n
     .subst hx;rw[Zp] at h1;cases h1;exact .inr ⟨Qw,rfl⟩
     .have hb:(x == n)=false:=by simpa using hx
      rw[Zu,hb] at h1;exact .inl h1
    .have hb:(k == Zk)=false:=by simpa using hk
     simp only[hb,ZU,TN] at h1;exact .inl h1
   .exact .inr ⟨Qq _ h1,h2⟩
theorem zot{env:Env}{x:Str}:∀(ns:List (Str×UV)) (acc:List (Str×Addr)),(acc.lookup x).isSome=true\/(x,Zk)∈ns ->
 ((ns.foldl (λcs y=>if y.2 == .free then(y.1,(env.cells.lookup y.1).getD 0)::cs else cs) acc).lookup x).isSome=true:=by
 intro ns
 induction ns with
 | nil => intro acc h;rcases h with h|h
          .exact h
          .exact absurd h (by simp)
 | cons y r ih=>
   intro acc h;obtain⟨n,k⟩:=y;rw[YG];refine ih _ ?_
   by_cases hk:k = .free
   .subst hk;simp only[TK,TL]
    by_cases hx:x=n
    .subst hx;left;rw[Zp];rfl
    .have hb:(x == n)=false:=by simpa using hx
     rw[Zu,hb];rcases h with h|h
     .exact .inl h
     .rcases Q3.mp h with z|z
      .injection z with z1 _;exact absurd z1 hx
      .exact .inr z
   .have hb:(k == Zk)=false:=by simpa using hk
    simp only[hb,ZU,TN];rcases h with h|h
    .exact .inl h
    .rcases Q3.mp h with z|z
     .injection z with _ z2;exact absurd z2.symm hk
     .exact .inr z
theorem zqx(h:(clOf ns env).lookup x=some c):(x,Zk)∈ns/\c=(env.cells.lookup x).getD 0:=by
 rcases zzn ns [] c h with z|z
 .cases z
 .exact z
theorem zt3(h:(x,Zk)∈ns)(e:env.cells.lookup x=some c):(clOf ns env).lookup x=some c:=by
 obtain⟨d,hd⟩:=JA.mp (zot (env:=env) ns [] (.inr h));have hd':(clOf ns env).lookup x=some d:=hd;rw[hd',(zqx hd').2,e];rfl
theorem zdh{env:Env}{x:Str}:∀(names:List (Str×UV)),
 (names.map λ(n,k)=>if(k == Zk && env.scope.kind == .function && env.kindOf n == some .cell) then(n,Zn) else(n,k)).lookup x =
  (names.lookup x).map λk=>if(k == Zk && env.scope.kind == .function && env.kindOf x == some .cell) then Zn else k
 | []=>rfl
 | (n,k)::r=>by
   have ih:=zdh (env:=env) (x:=x) r;show Jm x ((if(k == Zk && env.scope.kind == .function && env.kindOf n == some .cell)=true then(n,Zn) else(n,k))::_)=_
   by_cases hx:x=n
   .subst hx
    by_cases hc:(k == Zk && env.scope.kind == .function && env.kindOf x == some .cell)=true
    .rw[T0 hc,Zp,Zp,JY,T0 hc]
    .rw[TB hc,Zp,Zp,JY,TB hc]
   .have hb:(x == n)=false:=by simpa using hx
    by_cases hc:(k == Zk && env.scope.kind == .function && env.kindOf n == some .cell)=true
    .rw[T0 hc,Zu,hb,Zu,hb];exact ih
    .rw[TB hc,Zu,hb,Zu,hb];exact ih
theorem zij: ∀(names:List (Str×UV)) (h:Heap) (acc:List (Str×Addr)),(UE h.objs.size names acc).lookup x=some c ->
 acc.lookup x=some c\/((x,Zn)∈names/\h.objs.size<=c/\(pushCells h names).IsCell c none)
 | [],_,_,e=>.inl e
 | (n,k)::r,h,acc,e=>by
   unfold UE at e;unfold pushCells
   by_cases hk:k = .cell
   .subst hk;simp only[TK,TL] at e ⊢;rw[<- Zi h { cls:=.type "cell",data:=.cell none }] at e;rcases zij r _ _ e with z|⟨z1,z2,z3⟩
    .by_cases hx:x=n
     .subst hx;rw[Zp] at z;cases z;exact .inr ⟨Qw,Qm _,⟨_,GL r _ _ _ (Qt _ rfl),rfl⟩⟩
     .have hb:(x == n)=false:=by simpa using hx
      rw[Zu,hb] at z;exact .inl z
    .rw[Zi] at z2;exact .inr ⟨Qq _ z1,by lia,z3⟩
   .have hb:(k == Zn)=false:=by simpa using hk
    simp only[hb,ZU,TN] at e ⊢;rcases zij r h acc e with z|⟨z1,z2,z3⟩
    .exact .inl z
    .exact .inr ⟨Qq _ z1,z2,z3⟩
theorem zix: ∀(names:List (Str×UV)) (n:Nat) (acc:List (Str×Addr)),(x,Zn) ∉ names->(UE n names acc).lookup x=acc.lookup x
 | [],_,_,_=>rfl
 | (y,k)::r,n,acc,h=>by
   have hr:(x,Zn) ∉ r:=λz=>h (Qq _ z);unfold UE
   by_cases hk:k = .cell
   .subst hk;simp only[TK,TL]
    have hx:(x == y)=false:=by
     have:x≠y:=λz=>h (by rw[z];exact Qw);simpa using this
    rw[zix r _ _ hr,Zu,hx]
   .have hb:(k == Zn)=false:=by simpa using hk
    simp only[hb,ZU,TN];exact zix r n acc hr
theorem zn6:∀(names:List (Str×UV)) (n:Nat) (acc:List (Str×Addr)),(∀x c,acc.lookup x=some c->c<n)->(∀x y c,acc.lookup x=some c->acc.lookup y=some c->x=y) ->
 ∀x y c,(UE n names acc).lookup x=some c->(UE n names acc).lookup y=some c->x=y
 | [],_,_,_,hi=>hi
 | (a,k)::r,n,acc,hb,hi=>by
   unfold UE
   by_cases hk:k = .cell
   .subst hk;simp only[TK,TL]
    have lk:∀x c,((a,n)::acc).lookup x=some c->(x=a/\c=n)\/(x≠a/\acc.lookup x=some c):=λx c e=>by
     by_cases hx:x=a
     .subst hx;rw[Zp] at e;cases e;exact .inl ⟨rfl,rfl⟩
     .have hz:(x == a)=false:=by simpa using hx
      rw[Zu,hz] at e;exact .inr ⟨hx,e⟩
    refine zn6 r (n+1) _ (λx c e=>?_) λx y c e1 e2=>?_
    .rcases lk x c e with ⟨_,z⟩|⟨_,z⟩
     .rw[z];exact Nat.lt_succ_self _
     .exact Yy (hb x c z)
    .rcases lk x c e1 with ⟨z1,w1⟩|⟨z1,w1⟩ <;> rcases lk y c e2 with ⟨z2,w2⟩|⟨z2,w2⟩
     .rw[z1,z2]
     .exact absurd (hb y c w2) (by rw[w1];exact Zj _)
     .exact absurd (hb x c w1) (by rw[w2];exact Zj _)
     .exact hi x y c w1 w2
   .have hz:(k == Zn)=false:=by simpa using hk
    simp only[hz,ZU,TN];exact zn6 r n acc hb hi
theorem zqc{scope:UN}{globals:Addr}{qual:Str}{code:Ut}{builtins:Addr} 
 (h:∀h',h'.Ns s.heap.objs.size (λ_=>none)->(∀b o,s.heap.get? b=some o->h'.get? b=some o)->(∀x c,(UE (s.heap.objs.size+1) scope.names cl).lookup x=some c->cl.lookup x=some c\/((x,Zn)∈scope.names/\s.heap.objs.size+1<=c/\h'.IsCell c none)) ->
  Q (newEnv scope s.heap.objs.size globals (UE (s.heap.objs.size+1) scope.names cl) qual none code (some env) builtins) { s with heap:=h' }) :
 wpAny M A (newFunctionEnv scope globals cl [] qual none code (some env) builtins) Q E s:=by
 simp only[newFunctionEnv,Yp,TL];refine Us (wpAny_alloc ?_);refine Us (wpAny_layCells _ (λname kind cells=>by cases hkc:kind == Zn <;> simp[hkc]) _ _ _ _ ?_);rw[show({ s with heap:=s.heap.push { cls:=.type "dict",data:=.dict #[] } }:Ux).heap.objs.size=s.heap.objs.size+1 from Zi ..];rw[JO];refine Us (Uv (Uv (h _ ((Heap.Ns.new s.heap (.type "dict")).keeps (GL _ _)) (λb o e=>GL _ _ b o (Qc _ e)) λx c e=>?_)));have:=zij scope.names (s.heap.push { cls:=.type "dict",data:=.dict #[] }) cl (x:=x) (c:=c) (by rw[Zi];exact e);rwa [Zi] at this
def zb1(X:Cx)(scope:UN)(N':List Str)(C:Addr)(s:Ux)(H:Hp)(ex:List Addr):Cx :=
 { X with N:=N',s₀:=s,H₀:=H,env:=compEnvC scope (UE (C+1) scope.names (clOf scope.names X.env)) C X.env,outer:=X.stack,stack:=X.stack,ex:=ex,fn:=λx=>scope.names.lookup x == some .cell,pn:=[],xe:=λ_ _=>False }
def zpe(h:Nat)(N' N:List Str)(names sc:List (Str×UV)):Bool :=
 decide (N'.length=h+N.length) && decide N'.Nodup
 && (names.all λp=>(p.2 != .cell || names.lookup p.1 == some .cell) && (p.2 != .local || names.lookup p.1 == some .local) && (p.2 != .free || (names.lookup p.1 == some .free && (sc.lookup p.1 == some .cell || sc.lookup p.1 == some .free))))
 && (((N'.drop h).zip N).all λp=>match names.lookup p.1 with|some .free=>p.1 == p.2|some .local=>false|some .cell=>false|_=>true)
structure ScopeOk(h:Nat)(N' N:List Str)(scope:UN)(sc:UN):Prop where
 kind:scope.kind = .function
 len:N'.length=h+N.length
 nd:N'.Nodup
 cell:∀y∈scope.names,y.2 = .cell->scope.names.lookup y.1=some .cell
 loc:∀y∈scope.names,y.2 = .local->scope.names.lookup y.1=some .local
 free:∀y∈scope.names,y.2 = .free->scope.names.lookup y.1=some .free/\(sc.names.lookup y.1=some .cell\/sc.names.lookup y.1=some .free)
 out:∀(i:Nat) (x:Str) (k:UV),N'[h+i]? = some x->scope.names.lookup x=some k->(k = .local\/k = .cell\/k = .free)->N[i]? = some x/\k = .free
theorem ScopeOk.of{h:Nat}{scope:UN}(hk:scope.kind = .function)(e:zpe h N' N scope.names sc.names=true):ScopeOk h N' N scope sc:=by
 unfold zpe at e;simp only[Qu,TC,J4] at e;obtain⟨⟨⟨e1,e2⟩,e3⟩,e4⟩:=e;refine⟨hk,e1,e2,λy hy z=>?_,λy hy z=>?_,λy hy z=>?_,λi x k hx hl hkk=>?_⟩
 .have:=e3 y hy;rw[z] at this;simpa using this
 .have:=e3 y hy;rw[z] at this;simpa using this
 .have:=e3 y hy;rw[z] at this;simpa using this
 .have h1:(N'.drop h)[i]? = some x:=by rw[ZV];exact hx
  have hi:i<N.length:=by
   obtain⟨z,_⟩:=Qk.mp hx;lia
  have h2:N[i]? = some N[i]:=Qi hi
  have hm:(x,N[i])∈(N'.drop h).zip N:=by
   refine Zm (i:=i) ?_;rw[List.getElem?_zip_eq_some];exact⟨h1,h2⟩
  have q:=e4 _ hm;rw[hl] at q;rcases hkk with rfl|rfl|rfl
  .exact absurd q (by simp)
  .exact absurd q (by simp)
  .have q':x=N[i]:=by simpa using q
   exact⟨by rw[h2,<- q'],rfl⟩
def PF(X:Cx)(ifs:List Expr)(t:TT):Prop :=
 ∀(pins:List (Addr×Obj)) (s:Ux) (σ:St) (H:Hp) (Q:Bool->Hp->Prop),Inv X pins σ H s->t σ H Q ->
   wpAny (model X.prog X.w) X.A (forIn ifs true λc r=>if r=true then do let ok <- isTrue c X.env (eval c X.env);pure (JZ ok) else pure (JZ r)) (TP X pins σ Q) X.xe s
def tYes:TT:=λ_ H Q=>Q true H
theorem zmq: PF X [] tYes:=λ_ _ _ H _ I h=>wpAny_tests_nil ⟨H,I,h⟩
theorem ztg(h:PT X c t):PF X [c] t:=λpins s σ H Q I q=>wpAny_tests_one (h pins s σ H Q I q)
def OwnG(h:Nat)(g:TG):Prop:=∀v (σ:St) H Q,h<=σ.length->g v σ H Q->g v σ H λσ2 H2=>Q σ2 H2/\σ2.length=σ.length/\σ2.drop h=σ.drop h
theorem zei{h i:Nat}(hi:i<h):OwnG h (za9 i):=λv σ H Q hl q=>⟨q,by simp,by rw[List.drop_set_of_lt hi]⟩
def zjn(h:Nat)(g:TGs):Prop:=∀vs (σ:St) H Q,h<=σ.length->g vs σ H Q->g vs σ H λσ2 H2=>Q σ2 H2/\σ2.length=σ.length/\σ2.drop h=σ.drop h
theorem zx4{h:Nat}:zjn h gNil:=λvs σ H Q _ q=>⟨q.1,q.2,rfl,rfl⟩
def MonG(g:TG):Prop:=∀v σ H (Q Q':St->Hp->Prop),(∀σ H,Q σ H->Q' σ H)->g v σ H Q->g v σ H Q'
def zjd(g:TGs):Prop:=∀v σ H (Q Q':St->Hp->Prop),(∀σ H,Q σ H->Q' σ H)->g v σ H Q->g v σ H Q'
theorem zmt{i:Nat}:MonG (za9 i):=λ_ _ _ _ _ h q=>h _ _ q
theorem zyk:zjd gNil:=λ_ _ _ _ _ h q=>⟨q.1,h _ _ q.2⟩
theorem zvw(a:MonG g)(b:zjd gs):zjd (zey g gs):=λvs σ H Q Q' h ⟨v,r,e,q⟩=>⟨v,r,e,a _ _ _ _ _ (λσ' H' z=>b _ _ _ _ _ h z) q⟩
theorem zv6{h:Nat}(m:MonG g)(m2:zjd gs)(a:OwnG h g)(b:zjn h gs):zjn h (zey g gs):=λvs σ H Q hl ⟨v,r,e,q⟩=>by
 refine⟨v,r,e,m _ _ _ _ _ (λσ' H' z=>?_) (a v σ H _ hl q)⟩;obtain⟨z1,z2,z3⟩:=z;exact m2 _ _ _ _ _ (λσ2 H2 ⟨y1,y2,y3⟩=>⟨y1,y2.trans z2,y3.trans z3⟩) (b r σ' H' Q (by lia) z1)
theorem z0n{K:Qa}{h n:Nat}{gs:TGs}(b:zjn h gs):OwnG h (gTup K n gs):=λv σ H Q hl ⟨a,xs,e1,e2,e3,q⟩=>⟨a,xs,e1,e2,e3,b xs σ H Q hl q⟩
def zf1(h:Nat)(wi:TI)(g:TG)(tf:TT)(te:TE):TE:=λσ H Q=>wi σ H λJ H1=>∀D,H1 D=none->∃W:Nat->Nat->List V->Hp->Prop,(∃m,W 0 m [] (upd H1 D (.lst [])))/\∀i m ys H,W i m ys H ->
 H D=some (.lst ys)/\((J.stop i H/\Q (.ref D) H)\/(J.go i H/\∀x H',J.yld i H x H'->g x (Qv h none++σ) H' λσ2 H2=>tf σ2 H2 λc H3=>
   if c=true then te σ2 H3 λy H4=>H4 D=some (.lst ys)/\ys.length<sizeLine/\∃m',m'<m/\W (i+1) m' (ys ++ [y]) (upd H4 D (.lst (ys ++ [y]))) else ∃m',m'<m/\W (i+1) m' ys H3))
theorem zon{prog:Uy}{w:U0}{R:Result->Ux->Prop}{target iter:Expr}{scope:UN}(I:Nat->Ux->Prop)
 (turn:∀n s,I n s->wpAny (model prog w) A (GB it) (λr s₁=>match r with
  | none=>R (.ok .next) s₁
  | some v=>wpAny (model prog w) A (Gz target it v) (λ_ s₀=>wpAny (model prog w) A (Ge target env v) (λ_ s₂=>
   wpAny (model prog w) A (forIn ifs true λc r=>if r=true then do let ok <- isTrue c env (eval c env);pure (JZ ok) else pure (JZ r)) (λok s₃=>
    if ok=true then wpAny (model prog w) A (eval elt env) (λx s₄=>
     wpAny (model prog w) A (call (.builtin "list.append") [acc,x]) (λ_ s₅=>∃m,m<n/\I m s₅) (λ_ _=>False) s₄) (λ_ _=>False) s₃
    else ∃m,m<n/\I m s₃) (λ_ _=>False) s₂) (λ_ _=>False) s₀) (λ_ _=>False) s₁) (λ_ _=>False) s)
 (n:Nat) (h:I n s):Gi (model prog w) A (.compLoop (.ListComp elt [⟨target,iter,ifs,0⟩] scope pos) 0 it acc env) R s:=by
 refine codeAny_loop rfl I (λn s hI=>?_) n h;show wpAny _ A ((compTurn (.ListComp elt [⟨target,iter,ifs,0⟩] scope pos) 0 it acc env).onRaise (λx=>do Gr x env;theTreesLotGoes x)) _ _ s;refine wpAny_noted ?_;rw[compTurn_list];refine Us (UQ (Us (U2 (turn n s hI) (λr s₁ h₁=>?_) λ_ _ h'=>h'.elim)))
 cases r with
 | none=>exact Uv h₁
 | some v=>
   refine Us (U2 h₁ (λ_ s₀ h₀=>?_) λ_ _ h'=>h'.elim);refine Us (U2 h₀ (λ_ s₂ h₂=>Us (U2 h₂ (λok s₃ h₃=>?_) λ_ _ h'=>h'.elim)) λ_ _ h'=>h'.elim)
   cases ok with
   | false=>exact Uv ⟨rfl,h₃⟩
   | true=>
     exact Us (Us (U2 h₃ (λx s₄ h₄=>Us (U2 h₄ (λ_ s₅ h₅=>Uv (Uv ⟨rfl,h₅⟩)) λ_ _ h'=>h'.elim)) λ_ _ h'=>h'.elim))
section
variable {X:Cx}{pins:List (Addr×Obj)}{σ:St}{H:Hp}{s:Ux}
theorem zfp{h:Nat}{scope:UN}(I:Inv X pins σ H s)(S:ScopeOk h N' X.N scope X.env.scope):∀x c,(clOf scope.names X.env).lookup x=some c->X.env.cells.lookup x=some c:=λx c e=>by
 obtain⟨h1,h2⟩:=zqx e;obtain⟨d,hd⟩:=I.ok.has x (S.free _ h1 rfl).2;rw[hd] at h2 ⊢;rw[h2];rfl
theorem zka{h:Nat}{scope:UN}(S:ScopeOk h N' X.N scope X.env.scope)(hf:(x,Zk)∈scope.names):(x,Zn) ∉ scope.names:=λz=>by
 have a:=(S.free _ hf rfl).1;have b:=S.cell _ z rfl;rw[show scope.names.lookup x=some .free from a] at b;cases b
theorem zjq{h:Nat}{scope:UN}(I:Inv X pins σ H s)(S:ScopeOk h N' X.N scope X.env.scope):∀x c,(UE (s.heap.objs.size+1) scope.names (clOf scope.names X.env)).lookup x=some c->X.env.cells.lookup x=some c\/((x,Zn)∈scope.names/\s.heap.objs.size+1<=c):=λx c e=>by
 have z:=zij scope.names (s.heap.push { cls:=.type "dict",data:=.dict #[] }) (clOf scope.names X.env) (x:=x) (c:=c) (by rw[Zi];exact e);rw[Zi] at z;rcases z with z|⟨z1,z2,_⟩
 .exact .inl (zfp I S x c z)
 .exact .inr ⟨z1,z2⟩
theorem zp1{h:Nat}{scope:UN}(I:Inv X pins σ H s)(S:ScopeOk h N' X.N scope X.env.scope):∀x c,(clOf scope.names X.env).lookup x=some c->c<s.heap.objs.size+1:=λx c e=>by
 obtain⟨v,o,ho,_⟩:=I.cell x c (zfp I S x c e);exact Yy (Qg ho)
theorem zyo{h:Nat}{scope:UN}(I:Inv X pins σ H s)(S:ScopeOk h N' X.N scope X.env.scope)(hf:∀b∈fp,FpOk X pins H b)(hlt:∀b∈fp,b<s.heap.objs.size):
 (zb1 X scope N' s.heap.objs.size s H fp).Ok:=by
 have cl:=zjq I S;refine⟨I.ok.mod,?_,I.ok.glob,I.ok.blt,Qm _,zn6 _ _ _ (zp1 I S) λx y c e1 e2=>I.ok.inj x y c (zfp I S x c e1) (zfp I S y c e2),λx hx=>?_,λx c z e=>?_,I.ok.hd,I.ok.frames,.inl rfl,λb hb=>⟨QP (hlt b hb),λx c e=>(cl x c e).elim (λz=>(hf b hb).2.2.2.2.1 x c z) λz w=>Zj _ (Q7 (hlt b hb) (JP (w ▸ z.2)))⟩,λb o e=>I.bs b o e,Q5 I.ok.bsz I.sz,λb o e hb=>?_,λb hb z=>?_,I.stack,I.stkFree⟩
 .exact S.kind
 .have hx':(relabel scope X.env).names.lookup x=some .cell\/(relabel scope X.env).names.lookup x=some .free:=hx;have e:=zdh (env:=X.env) (x:=x) scope.names
  have hl:scope.names.lookup x=some .free\/scope.names.lookup x=some .cell:=by
   cases q:scope.names.lookup x with
   | none=>rw[q] at e;rcases hx' with z|z <;> (have z':=e.symm.trans z;cases z')
   | some k=>
     rw[q,JY] at e
     by_cases hk:k = .free
     .rw[hk];exact .inl rfl
     .have hc:¬(k == Zk && X.env.scope.kind == .function && X.env.kindOf x == some .cell)=true:=by
       have:(k == Zk)=false:=by simpa using hk
       rw[this];simp
      rw[TB hc] at e;rcases hx' with z|z
      .have z':=e.symm.trans z;cases z';exact .inr rfl
      .have z':=e.symm.trans z;cases z';exact .inl rfl
  rcases hl with hl|hl
  .have hm:=Zv hl;obtain⟨c,hc⟩:=I.ok.has x (S.free _ hm rfl).2;exact⟨c,(zix _ _ _ (zka S hm)).trans (zt3 hm hc)⟩
  .exact JA.mp (Jp _ _ _ (.inl hl))
 .have z:(scope.names.lookup x == some Zn)=true:=z;have z:scope.names.lookup x=some .cell:=by simpa using z
  rcases zij scope.names (s.heap.push { cls:=.type "dict",data:=.dict #[] }) (clOf scope.names X.env) (x:=x) (c:=c) (by rw[Zi];exact e) with w|⟨_,w,_⟩
  .exact absurd (Zv z) (zka S (zqx w).1)
  .rw[Zi] at w;exact JP w
 .rcases(hf b hb).2.2.2.1 with z|z
  .exact I.ok.noex b o e z
  .exact absurd (Q7 (Qg (I.ok.bs b o e).1) z) (Zj _)
 .obtain⟨_,f1,f2,_⟩:=hf b hb;rcases Q3.mp (I.stkSub b z) with q|q
  .exact f1 q
  .exact f2 q
theorem zqp{h:Nat}{scope:UN}{tk:Nat}(I:Inv X pins σ H s)(S:ScopeOk h N' X.N scope X.env.scope)(hf:∀b∈fp,FpOk X pins H b)(hlt:∀b∈fp,b<s.heap.objs.size)
 (hn:h'.Ns s.heap.objs.size λ_=>none) (kp:∀b o,s.heap.get? b=some o->h'.get? b=some o) (hcs:∀x c,(UE (s.heap.objs.size+1) scope.names (clOf scope.names X.env)).lookup x=some c->(clOf scope.names X.env).lookup x=some c\/((x,Zn)∈scope.names/\s.heap.objs.size+1<=c/\h'.IsCell c none)) :
 Inv (zb1 X scope N' s.heap.objs.size s H fp) [] (Qv h none++σ) H { s with heap:=h',toks:=tk }:=by
 have ok:=zyo I S hf hlt;have cl:=zfp I S;refine⟨ok,rfl,I.bare,Un.kept kp,⟨_,hn,λi x v e1 e2 e3=>?_⟩,λx c e=>?_,I.hok.fresh (Qm _),λx c e=>(hcs x c e).elim (λz=>I.freeC x c (cl x c z)) λz=>I.hok.fresh (JP z.2.1),λp hp=>absurd (show p∈([]:List (Addr×Obj)) from hp) (by simp),I.hok.kept kp,?_⟩
 .have e1:N'[i]? = some x:=e1
  by_cases hi:i<h
  .rw[QW (by simpa using hi),Zz,T0 hi] at e2;cases e2
  .obtain⟨j,rfl⟩:∃j,i=h+j:=⟨i-h,by lia⟩;rw[Z1 (by simp),QU,Nat.add_sub_cancel_left] at e2;have e3:Vis (relabel scope X.env) x:=e3;have er:=zdh (env:=X.env) (x:=x) scope.names
   have hl:∃k,scope.names.lookup x=some k/\(k = .local\/k = .cell\/k = .free)/\(relabel scope X.env).names.lookup x=some (if(k == Zk && X.env.scope.kind == .function && X.env.kindOf x == some .cell) then Zn else k):=by
    cases q:scope.names.lookup x with
    | none=>rw[q] at er;rcases e3 with z|z|z <;> (have z':=er.symm.trans z;cases z')
    | some k=>
      rw[q,JY] at er;refine⟨k,rfl,?_,er⟩
      by_cases hc:(k == Zk && X.env.scope.kind == .function && X.env.kindOf x == some .cell)=true
      .simp only[Qu,beq_iff_eq] at hc;exact .inr (.inr hc.1.1)
      .rw[TB hc] at er;rcases e3 with z|z|z <;> (have z':=er.symm.trans z;cases z';simp)
   obtain⟨k,hk,hkk,hre⟩:=hl;obtain⟨hN,rfl⟩:=S.out j x k e1 hk hkk;have hm:=Zv hk;have hfr:=(S.free _ hm rfl).2;obtain⟨m,hnm,hlk⟩:=I.loc;obtain⟨u,ru,lk⟩:=hlk j x v hN e2 (by rcases hfr with z|z;exact .inr (.inl z);exact .inr (.inr z));refine⟨u,ru,?_⟩;rcases lk with ⟨hloc,_⟩|⟨hkd,c,hc,hcell⟩
   .have hloc:X.env.scope.names.lookup x=some .local:=hloc;rcases hfr with z|z <;> (rw[hloc] at z;cases z)
   .refine .inr ⟨?_,c,(zix _ _ _ (zka S hm)).trans (zt3 hm hc),?_⟩
    .show(relabel scope X.env).names.lookup x=some .cell\/(relabel scope X.env).names.lookup x=some .free;rw[hre]
     split
     .exact .inl rfl
     .exact .inr rfl
    .obtain⟨o,ho,hd⟩:=hcell;exact⟨o,kp c o ho,hd⟩
 .rcases hcs x c e with z|z
  .obtain⟨v,o,ho,hd⟩:=I.cell x c (cl x c z);exact⟨v,o,kp c o ho,hd⟩
  .exact⟨_,z.2.2⟩
 .show(Qv h none++σ).length=N'.length;rw[Qf,QU,S.len,I.len]
theorem zu2{h:Nat}{scope:UN}{pins':List (Addr×Obj)}(I:Inv X pins σ H s)(S:ScopeOk h N' X.N scope X.env.scope)(hf:∀b∈fp,FpOk X pins H b)
 (J:Inv (zb1 X scope N' s.heap.objs.size s H fp) pins' σ' H' s') (hs:Z6 s.heap.objs.size s'.heap h'):Inv X pins σ H' { s' with heap:=h' }:=by
 have ne:∀b o,s.heap.get? b=some o->b≠s.heap.objs.size:=λb o e=>QP (Qg e);have u:Un (frs X.stack) fp H H' s.heap s'.heap:=J.base;have hC:H' s.heap.objs.size=none:=J.free;obtain⟨m0,⟨oC,_,_,hoC,_⟩,_⟩:=id J.loc;refine I.call' (s':={ s' with heap:=h' }) (ch:=fp) J.os ⟨λb o e n hb hx=>(hs.2 b (ne b o e)).trans (u.keep b o e n hb hx),λb o e n hb hx=>?_,u.free,λb o e hx=>?_,u.tups,u.frzs,u.tbls⟩ (λb ob e=>?_) J.bare λb hb=>?_
 .obtain⟨sl,z⟩:=u.slot b o e n hb hx;exact⟨sl,(hs.2 b (ne b o e)).trans z⟩
 .obtain⟨o',z⟩:=u.there b o e hx;exact⟨o',(hs.2 b (ne b o e)).trans z⟩
 .refine(J.hok b ob e).stay (λc w' hc q=>(hs.2 c ?_).trans q) (λ_ q=>q) λ_ _ q=>q;rintro rfl;rcases hc with z|z
  .rw[<- z,hC] at e;cases e
  .rw[hC] at z;cases z
 .obtain⟨_,f1,_,f3,f4,f5⟩:=hf b hb;exact⟨f3,f1,f4,f5⟩
end
theorem zkx{iter:Expr}{scope:UN}{R:Ut->Ux->Prop}{pins:List (Addr×Obj)}(h:Nat)(S:ScopeOk h N' X.N scope X.env.scope)(hc:X.calm=true)(hi:PI X tg iter wi)
 (hg:∀C s H ex,PG (zb1 X scope N' C s H ex) tg g) (ho:OwnG h g) (ht:∀C s H ex,PF (zb1 X scope N' C s H ex) ifs tf) (he:∀C s H ex,PE (zb1 X scope N' C s H ex) elt te)
 (hs:∀x,UF iter X.env x=pure x) (I:Inv X pins σ H s) (hq:zf1 h wi g tf te σ H Q)
 (fin:∀(D:Addr) (H3 H5:Hp) (s3 s6:Ux) m6 fl,Inv X pins σ H3 s3->(∀h7,Z6 s3.heap.objs.size s6.heap h7->Inv X pins σ H5 { s6 with heap:=h7 })->H5 s3.heap.objs.size=none->s6.heap.Ns s3.heap.objs.size m6->Q (.ref D) H5->compPost (model X.prog X.w) X.A X.xe use R (.ref D) s3.heap.objs.size (.ok fl) s6) :
 wpAny (model X.prog X.w) X.A (comprehension (.ListComp elt [⟨tg,iter,ifs,0⟩] scope pos) scope X.env cp (newList []) false (eval iter X.env) use) R X.xe s:=by
 refine wpAny_comprehension_free (use:=use) rfl hs (zqa (env:=X.env) λp hp hk=>I.ok.has p.1 (S.free p hp hk).2) S.kind S.loc ?_;refine thn (hi pins s σ H _ I hq) λv s1 h1=>thn h1 λitv s2 h2=>?_;obtain⟨it,fp,tn,J,H2,rfl,I2,T,st2,f2,hq⟩:=h2;refine UB ?_ (by show 0<=sizeLine;exact QL _);have hD:H2 s2.heap.objs.size=none:=I2.hok.fresh (Qm _);have I3:Inv X pins σ (upd H2 s2.heap.objs.size (.lst [])) { s2 with heap:=s2.heap.push { cls:=.type "list",data:=.seq ([]:List Ut).toArray },toks:=s2.toks }:=I2.lnew (t':=s2.toks) .nil (QL _);generalize hs3:({ s2 with heap:=s2.heap.push { cls:=.type "list",data:=.seq ([]:List Ut).toArray },toks:=s2.toks }:Ux)=s3 at I3;have hs3':({ s2 with heap:=s2.heap.push { cls:=.type "list",data:=.seq ([]:List Ut).toArray } }:Ux)=s3:=hs3;obtain⟨W,⟨m0,w0⟩,turn⟩:=hq s2.heap.objs.size hD
 have olt:∀b∈fp,b<s2.heap.objs.size:=λb hb=>by
  obtain⟨o,e,_⟩:=T.obj _ _ st2 b hb;exact Qg e
 have hsz:s3.heap.objs.size=s2.heap.objs.size+1:=by rw[<- hs3];exact Zi ..
 have k23:∀b o,s2.heap.get? b=some o->s3.heap.get? b=some o:=λb o e=>by rw[<- hs3];exact Qc _ e
 have f3:∀b∈fp,FpOk X pins (upd H2 s2.heap.objs.size (.lst [])) b:=λb hb=>⟨by rw[zae (QP (olt b hb))];exact(f2 b hb).1,(f2 b hb).2⟩;have lt3:∀b∈fp,b<s3.heap.objs.size:=λb hb=>by rw[hsz];exact Yy (olt b hb)
 refine zqc λh4 hn4 k34 cs4=>?_;have I4:=zqp (h':=h4) (tk:=s3.toks) I3 S f3 lt3 hn4 k34 cs4;have st4:tn 0 h4:=T.keep _ _ _ st2 λb hb o e=>k34 b o (k23 b o e);generalize hX:zb1 X scope N' s3.heap.objs.size s3 (upd H2 s2.heap.objs.size (.lst [])) fp=X' at I4;have hA:X'.A=X.A:=by rw[<- hX];rfl
 -- the iterator's objects,in the block
 have fpX:∀{H':Hp} {pl:List (Addr×Obj)},(∀b∈fp,H' b=none)->pl = []->∀b∈fp,FpOk X' pl H' b:=λ{H' pl} hn0 hpl b hb=>by
  subst hpl;obtain⟨q0,q1,q2,q3,q4,q5⟩:=f3 b hb;subst hX;refine⟨hn0 b hb,QP (lt3 b hb),λz=>?_,.inl hb,λx c e=>(zjq I3 S x c e).elim (q4 x c) λz w=>Zj _ (Q7 (lt3 b hb) (JP (w ▸ z.2))),λp hp=>absurd (show p∈([]:List (Addr×Obj)) from hp) (by simp)⟩;rcases Q3.mp (I3.stkSub b z) with z|z
  .exact q1 z
  .exact q2 z
 have hcX:X'.calm=true:=by rw[<- hX];exact hc
 have hR:∀s':Ux,(∃(m:Nat) (i:Nat) (ys:List V) (H':Hp),Inv X' [] (Qv h none++σ) H' s'/\tn i s'.heap/\(∀b∈fp,H' b=none)/\W i m ys H')->True:=λ_ _=>trivial
 have loop:∀(sL:Ux),(Inv X' [] (Qv h none++σ) (upd H2 s2.heap.objs.size (.lst [])) sL)->tn 0 sL.heap ->
  Gi (model X.prog X.w) X.A (.compLoop (.ListComp elt [⟨tg,iter,ifs,0⟩] scope pos) 0 (.ref it) (.ref s2.heap.objs.size) X'.env)
   (compPost (model X.prog X.w) X.A X.xe use R (.ref s2.heap.objs.size) s3.heap.objs.size) sL:=by
  intro sL IL stL;refine zon (λn s'=>∃i ys H',Inv X' [] (Qv h none++σ) H' s'/\tn i s'.heap/\(∀b∈fp,H' b=none)/\W i n ys H') ?_ m0 ⟨0,[],_,IL,stL,λb hb=>(f3 b hb).1,w0⟩;rintro n s5 ⟨i,ys,H5,I5,st5,fr5,w5⟩;obtain⟨hDy,hh⟩:=turn i n ys H5 w5;have eP:X'.prog=X.prog:=by rw[<- hX];rfl
  have eW:X'.w=X.w:=by rw[<- hX];rfl
  have eK:X'.K=X.K:=by rw[<- hX];rfl
  have eE:X'.xe=λ_ _=>False:=by rw[<- hX];rfl
  rcases hh with ⟨stop,qn⟩|⟨go,step⟩
  .have:=T.done X' eP eW eK hcX i [] s5 _ H5 (λ_ _=>False) I5 (fpX fr5 rfl) st5 stop;rw[hA] at this;refine thn this λr s6 zz=>?_;obtain⟨hr,I6⟩:=zz;subst hr;obtain⟨m6,hm6,_⟩:=id I6.loc;rw[<- hX] at hm6 I6;exact fin _ _ H5 s3 s6 m6 _ I3 (λh7 hs7=>zu2 I3 S f3 I6 hs7) I6.free hm6 qn
  .have:=T.item X' eP eW eK hcX i [] s5 _ H5 (λ_ _=>False) I5 (fpX fr5 rfl) st5 go;rw[hA] at this;refine thn this λr s6 zz=>?_;obtain⟨u,hr,h6⟩:=zz;subst hr;refine thn h6 λ_ s7 zz=>?_;obtain⟨x,H7,I7,r7,y7,st7,fr7⟩:=zz;have I7':=I7.pinned (fpX fr7 rfl) (T.obj _ _ st7)
   have back:∀{σ':St} {H':Hp} {s':Ux},Inv X' ([]++zgz fp s7.heap) σ' H' s'->σ'.length=(Qv h none++σ:St).length->σ'.drop h=(Qv h none++σ:St).drop h ->
    Inv X' [] (Qv h none++σ) H' s'/\tn (i+1) s'.heap/\∀b∈fp,H' b=none:=by
    intro σ' H' s' I' hl hd;refine⟨I'.unpinned.weak hl.symm λj v e=>?_,T.keep _ _ _ st7 λb hb o e=>?_,λb hb=>?_⟩
    .by_cases hj:j<h
     .rw[QW (by simpa using hj),Zz,T0 hj] at e;cases e
     .have e1:(σ'.drop h)[j-h]? = σ'[j]?:=by rw[ZV];congr 1;lia
      have e2:((Qv h none++σ:St).drop h)[j-h]? = (Qv h none++σ:St)[j]?:=by rw[ZV];congr 1;lia
      rw[<- e1,hd,e2];exact e
    .exact(I'.pin (b,o) (QT _ (QT _ (zd6 hb e)))).1
    .obtain⟨o,e,_⟩:=T.obj _ _ st7 b hb;exact(I'.pin (b,o) (QT _ (QT _ (zd6 hb e)))).2.1
   have hg':=hg s3.heap.objs.size s3 (upd H2 s2.heap.objs.size (.lst [])) fp;have ht':=ht s3.heap.objs.size s3 (upd H2 s2.heap.objs.size (.lst [])) fp;have he':=he s3.heap.objs.size s3 (upd H2 s2.heap.objs.size (.lst [])) fp;rw[hX] at hg' ht' he';have hl0:h<=(Qv h none++σ:St).length:=by simp
   have a1:=hg' _ s7 _ H7 x u _ I7' r7 (ho x _ H7 _ hl0 (step x H7 y7));rw[hA,eP,eW,eE] at a1;refine thn a1 λ_ s8 zz=>?_;obtain⟨σ8,H8,I8,q8,l8,d8⟩:=zz;have a2:=ht' _ s8 σ8 H8 _ I8 q8;rw[hA,eP,eW,eE] at a2;refine thn a2 λc s9 zz=>?_;obtain⟨H9,I9,q9⟩:=zz
   cases c with
   | false=>
     obtain⟨m',hm',w'⟩:=q9;obtain⟨b1,b2,b3⟩:=back I9 l8 d8;exact⟨m',hm',i+1,ys,H9,b1,b2,b3,w'⟩
   | true=>
     have a3:=he' _ s9 σ8 H9 _ I9 q9;rw[hA,eP,eW,eE] at a3;refine thn a3 λyv s10 zz=>?_;obtain⟨y,H10,I10,r10,hD10,hz10,m',hm',w'⟩:=zz;have a4:=zlc (X:=X') _ s10 σ8 H10 (.ref s2.heap.objs.size) [y] (.ref s2.heap.objs.size) [yv] (λ_ Hz=>Hz=upd H10 s2.heap.objs.size (.lst (ys ++ [y]))) I10 rfl (.cons r10 .nil) ⟨_,ys,y,rfl,rfl,hD10,hz10,rfl⟩;rw[hA,eP,eW,eE] at a4;refine thn a4 λ_ s11 zz=>?_;obtain⟨_,H11,I11,_,e11⟩:=zz;subst e11;obtain⟨b1,b2,b3⟩:=back I11 l8 d8;exact⟨m',hm',i+1,ys ++ [y],_,b1,b2,b3,w'⟩
 have end_:=codeAny_compStart_list (prog:=X.prog) (w:=X.w) (A:=X.A) (R:=compPost (model X.prog X.w) X.A X.xe use R (.ref s2.heap.objs.size) s3.heap.objs.size) (elt:=elt) (target:=tg) (iter:=iter) (ifs:=ifs) (rest:=[]) (scope:=scope) (pos:=pos) (it:=.ref it) (acc:=.ref s2.heap.objs.size) (env:=X'.env)
  (loop _ I4 st4) (T.self _ 0 _ _ _ st4 (loop _ I4 st4))
 have hE:X'.env=compEnvC scope (UE (s3.heap.objs.size+1) scope.names (clOf scope.names X.env)) s3.heap.objs.size X.env:=by rw[<- hX];rfl
 rw[hE] at end_;exact end_
theorem zkp{iter:Expr}{scope:UN}(h:Nat)(S:ScopeOk h N' X.N scope X.env.scope)(hc:X.calm=true)(hi:PI X tg iter wi)
 (hg:∀C s H ex,PG (zb1 X scope N' C s H ex) tg g) (ho:OwnG h g) (ht:∀C s H ex,PF (zb1 X scope N' C s H ex) ifs tf) (he:∀C s H ex,PE (zb1 X scope N' C s H ex) elt te)
 (hs:∀x,UF iter X.env x=pure x:=by intro _;rfl) :
 PE X (.ListComp elt [⟨tg,iter,ifs,0⟩] scope pos) (zf1 h wi g tf te):=by
 intro pins s σ H Q I hq;rw[eval_ListComp];exact zkx h S hc hi hg ho ht he hs I hq λD H3 H5 s3 s6 m6 fl I3 bk hC hm qn=>⟨m6,hm,λh7 hs7=>⟨.ref D,H5,bk h7 hs7,rfl,qn⟩⟩
theorem zjh{iter:Expr}{scope:UN}{spos:Pos}{n0:Nat}(hN0:X.N.Nodup)(hi0:X.N[n0]? = some x0)(hx0:X.env.scope.names.lookup x0=some .local)(hsw:UZ (.ListComp elt [⟨tg,iter,ifs,0⟩] scope pos) (some (.Name x0 py)) spos.line X.env=pure true)(h:Nat)(S:ScopeOk h N' X.N scope X.env.scope)(hc:X.calm=true)(hi:PI X tg iter wi)
 (hg:∀C s H ex,PG (zb1 X scope N' C s H ex) tg g) (ho:OwnG h g) (ht:∀C s H ex,PF (zb1 X scope N' C s H ex) ifs tf) (he:∀C s H ex,PE (zb1 X scope N' C s H ex) elt te)
 (hs:∀x,UF iter X.env x=pure x:=by intro _;rfl) :
 PS X (.Assign [.Name x0 py] (.ListComp elt [⟨tg,iter,ifs,0⟩] scope pos) spos) (tAsg (zf1 h wi g tf te) (za9 n0)):=by
 intro pins s σ H DD I hq;rw[exec_Assign_Name_used _ _ _ _ hsw];refine Us (UQ (Us ?_));show wpAny _ X.A (do let _ <- comprehension (.ListComp elt [⟨tg,iter,ifs,0⟩] scope pos) scope X.env _ (newList []) false (eval iter X.env) (some (Ge (.Name x0 py) X.env))) _ _ s;refine Us (U2 (zkx (use:=some (Ge (.Name x0 py) X.env)) (R:=λ_ s'=>SP X pins DD .next s') h S hc hi hg ho ht he hs I hq λD H3 H5 s3 s6 m6 fl I3 bk hC hm qn=>?_) (λ_ s' hq=>Uv (Uv hq)) λ_ _ e=>e);have J6:Inv X pins σ H5 s6:=bk _ (Heap.SameBut.refl ..);have neL:s3.heap.objs.size≠X.env.locals:=JM I3.lt
 have neC:∀x c,X.env.cells.lookup x=some c->c≠s3.heap.objs.size:=λx c e=>by
  obtain⟨v,z⟩:=I3.cell x c e;exact QP z.lt
 show wpAny (model X.prog X.w) X.A (Ge (.Name x0 py) X.env (.ref D)) _ _ s6;refine wpAny_assign_Name (zlh (v:=.ref D) J6 hN0 hi0 (.inl hx0) rfl (λs7 I7 zz=>?_) (.inr hx0));obtain⟨a,hsb,ha⟩:=zz
 have hac:s3.heap.objs.size≠a:=by
  rcases ha with rfl|ha
  .exact neL
  .exact QN (neC _ _ ha)
 refine⟨m6,hm.sameBut hsb hac,λh8 hs8=>⟨_,H5,I7.turned (t':=s7.toks) (it:=s3.heap.objs.size) (λb o hb e=>(hs8.2 b hb).trans e) hC neL (.inr I3.sz) neC (λp hp=>?_),qn⟩⟩;exact QP (Qg (I3.pin p hp).1)
def chA(v:Ut):Prop:=v = .ref 120
structure Fly(h:Heap)(e:Addr)(cls:Ut)(dx:Option Addr)(T:Option Addr):Prop where
 obj:∃oe vs,h.get? e=some oe/\oe.cls=cls/\oe.dict=dx/\oe.data = .fields vs/\1<vs.size/\vs[1]? = some (T.elim .none .ref)/\(vs[2]? = some .none\/chA cls)
 note:∀t,T=some t->t≠e/\∃oT ts,h.get? t=some oT/\oT.data = .fields ts/\ts[3]? = some .none
structure Flew(fs:List Addr)(e:Addr)(T:Option Addr)(h h':Heap):Prop where
 keep:∀b o,b≠e->T≠some b->b ∉ fs->h.get? b=some o->h'.get? b=some o
 slot:∀b o,b∈fs->h.get? b=some o->∃sl,h'.get? b=some { o with slots:=sl }
structure FlyN(h:Heap)(e:Addr)(cls:Ut)(dx:Option Addr)(t L:Addr):Prop where
 obj:∃oe vs,h.get? e=some oe/\oe.cls=cls/\oe.dict=dx/\oe.data = .fields vs/\1<vs.size/\vs[1]? = some (.ref t)/\(vs[2]? = some .none\/chA cls)
 ne:t≠e
 note:∃oT ts,h.get? t=some oT/\oT.data = .fields ts/\ts[3]? = some (rawInt L)
section
variable {M:Model}{A:U9}{E:Ut->Ux->Prop}{s:Ux}{base:Heap}{env:Env}{outer:List Env}{L e:Addr}
theorem zj0(o:Obj)(f):(o.mapFields f).dict=o.dict:=by
 obtain⟨c,d,dt,sl⟩:=o;cases dt <;> rfl
theorem FlyN.set(F:FlyN s.heap e cls dx t L)(v:Ut):∃oT ts,s.heap.get? t=some oT/\oT.data = .fields ts/\3<ts.size/\(s.heap.update t (QQ (·.setIfInBounds 3 v))).get? t=some (QQ (·.setIfInBounds 3 v) oT)/\(QQ (·.setIfInBounds 3 v) oT).data = .fields (ts.setIfInBounds 3 v)/\(ts.setIfInBounds 3 v)[3]? = some v/\∀b,b≠t->(s.heap.update t (QQ (·.setIfInBounds 3 v))).get? b=s.heap.get? b:=by
 obtain⟨oT,ts,ht,dt,t3⟩:=F.note;have z3:3<ts.size:=(ZW.mp t3).1;have d4:=Jr dt (·.setIfInBounds 3 v);exact⟨oT,ts,ht,dt,z3,QM _ ht (ZZ d4),d4,by simp[z3],λb nb=>Qx _ _ (QN nb)⟩
theorem zk7(F:FlyN s.heap e cls dx t L)(q:∀h',Fly h' e cls dx (some t)->(∀b o,b≠t->s.heap.get? b=some o->h'.get? b=some o)->Q () { s with heap:=h' }):wpAny M A (Gn (.ref e) none) Q E s:=by
 obtain⟨oT,ts,ht,dt,z3,t4,d4,v4,ot⟩:=F.set .none;obtain⟨oe,vs,he,hc,hx,hd,hz,h1,h2⟩:=F.obj;unfold Gn;refine Us (U1 he hd h1 ?_);rw[T0 (by simp)];exact UX ht dt z3 (q _ ⟨⟨oe,vs,(ot e (QN F.ne)).trans he,hc,hx,hd,hz,h1,h2⟩,λu eu=>by cases eu;exact⟨F.ne,_,_,t4,d4,v4⟩⟩ λb o nb hb=>(ot b nb).trans hb)
theorem zjg{head:Ut}{hn:Bool}(hfr:A.frames=some (env::outer))(hl:s.heap.FunFrames base (env::outer))(hf:env.frame=some L)
 (he:s.heap.get? e=some oe) (hc:oe.cls=cls) (hx:oe.dict=dx) (hd:oe.data = .fields vs) (hz:1<vs.size) (h2:vs[2]? = some .none\/chA cls)
 (q:∀h' t,FlyN h' e cls dx t L->s.heap.objs.size<=t->Flew (frs (env::outer)) e none s.heap h'->h'.FunFrames base (env::outer)->Q () { s with heap:=h' }) :
 wpAny M A (do let a <- frameOf env;let pl <- entryPlaceOf L hn;let b <- Yc head a .none (rawInt L) .none pl;setField (.ref e) 1 b) Q E s:=by
 have ne:e ∉ frs (env::outer):=λm=>by
  obtain⟨_,o,ho,nf⟩:=hl.mem m;rw[he] at ho;cases ho;exact nf vs hd
 refine Us (wpAny_frameOf_fun hfr hl hf λh1 s1=>?_);refine Us (wpAny_entryPlaceOf λpl hp=>?_);unfold Yc newFields;refine Us (UB ?_ (hp.sizeOk5 _ _ _ _ _));generalize ho:({ cls:=.type "traceback",dict:=none,data:=.fields ([head,.ref L,.none,rawInt L,.none]++(if pl.isEmpty then Qv 6 Zr else pl)).toArray }:Obj)=nt;have z3:3<([head,.ref L,.none,rawInt L,.none]++(if pl.isEmpty then Qv 6 Zr else pl)).toArray.size:=by simp only[Qp,Qf,Qj] <;> lia
 generalize hts:([head,.ref L,.none,rawInt L,.none]++(if pl.isEmpty then Qv 6 Zr else pl)).toArray=ts at ho z3;have dn:nt.data = .fields ts:=by rw[<- ho]
 have fn:nt.isFreed=false:=ZZ dn;have e1:h1.get? e=some oe:=(s1.2.1 e ne).trans he;have e2:=Qc nt e1;have te:h1.objs.size≠e:=JM (Qg e1);have d3:=Jr hd (·.setIfInBounds 1 (Q9 h1.objs.size));have e3:=QM (QQ (·.setIfInBounds 1 (Q9 h1.objs.size))) e2 (ZZ d3);have t3:=(Qx (h1.push nt) (QQ (·.setIfInBounds 1 (Q9 h1.objs.size))) (QN te)).trans (Qt h1 fn)
 have kp:∀b o,b≠e->h1.get? b=some o->((h1.push nt).update e (QQ (·.setIfInBounds 1 (Q9 h1.objs.size)))).get? b=some o:=λb o nb hb=>by
  rw[Qx _ _ (QN nb)];exact Qc nt hb
 refine UX e2 hd hz (q _ h1.objs.size ⟨⟨_,_,e3,(Vw _ _).trans hc,(zj0 _ _).trans hx,d3,by simpa using hz,by simp[hz],by simpa using h2⟩,te,_,_,t3,dn,by rw[<- hts];simp⟩ ?_ ⟨λb o nb _ nf hb=>?_,λb o mb hb=>?_⟩ ?_)
 .exact Y9 s1.1.symm
 .exact kp b o nb ((s1.2.1 b nf).trans hb)
 .obtain⟨sl,h2⟩:=s1.2.2 b o hb;exact⟨sl,kp b _ (λz=>ne (z ▸ mb)) h2⟩
 .refine hl.of_keeps λb o hb nf=>?_;obtain⟨sl,h2⟩:=s1.2.2 b o hb;exact⟨_,kp b _ (λz=>by rw[z,he] at hb;cases hb;exact nf vs hd) h2,rfl⟩
theorem zk2{head:Ut}{hn:Bool}(hfr:A.frames=some (env::outer))(hl:s.heap.FunFrames base (env::outer))(hf:env.frame=some L)
 (he:s.heap.get? e=some oe) (hc:oe.cls=cls) (hx:oe.dict=dx) (hd:oe.data = .fields vs) (hz:1<vs.size) (h2:vs[2]? = some .none\/chA cls)
 (q:∀h' t,Fly h' e cls dx (some t)->s.heap.objs.size<=t->Flew (frs (env::outer)) e none s.heap h'->h'.FunFrames base (env::outer)->Q () { s with heap:=h' }) :
 wpAny M A (do let a <- frameOf env;let pl <- entryPlaceOf L hn;let b <- Yc head a .none (rawInt L) .none pl;setField (.ref e) 1 b) (λ_ s'=>wpAny M A (Gn (.ref e) none) Q E s') E s:=by
 refine U2 (zjg (L:=L) hfr hl hf he hc hx hd hz h2 λh' t F nt W fr=>zk7 F λh2' F2 kp=>?_) (λ_ _ z=>z) λ_ _ z=>z;have lt:∀b o,s.heap.get? b=some o->b≠t:=λb o hb z=>absurd (Qg hb) (Z3.mpr (z ▸ nt));refine q h2' t F2 nt ⟨λb o nb nT nf hb=>kp b o (lt b o hb) (W.keep b o nb nT nf hb),λb o mb hb=>?_⟩ (fr.of_keeps λb o hb nf=>⟨o,kp b o (λz=>?_) hb,rfl⟩)
 .obtain⟨sl,h⟩:=W.slot b o mb hb;exact⟨sl,kp b _ (lt b o hb) h⟩
 .obtain⟨oT,ts,ht,dt,_⟩:=F.note;rw[z,ht] at hb;cases hb;exact nf ts dt
theorem zhw(hfr:A.frames=some (env::outer))(hl:s.heap.FunFrames base (env::outer))(hf:env.frame=some L)(hb:∀t,T=some t->base.get? t=none)
 (F:Fly s.heap e cls dx T) (q:∀h' t,Fly h' e cls dx (some t)->s.heap.objs.size<=t->Flew (frs (env::outer)) e T s.heap h'->h'.FunFrames base (env::outer)->Q () { s with heap:=h' }) :
 wpAny M A (Gr (.ref e) env) (λ_ s'=>wpAny M A (Gn (.ref e) none) Q E s') E s:=by
 obtain⟨⟨oe,vs,he,hc,hx,hd,hz,h1,hch⟩,nt⟩:=F;unfold Gr;simp only[hf];refine Us (U1 he hd h1 ?_)
 cases T with
 | none=>
   rw[TB (by decide)];exact zk2 hfr hl hf he hc hx hd hz hch q
 | some t=>
   obtain⟨tne,oT,ts,ht,dt,t3⟩:=nt t rfl;have z3:3<ts.size:=(ZW.mp t3).1;rw[T0 (show((some t).elim Zr Q9 != Zr)=true by simp)];refine Us (U1 ht dt t3 ?_);rw[TB (by simp[rawInt])];refine Us (UX ht dt z3 ?_);have ot:∀b,b≠t->(s.heap.update t (QQ (·.setIfInBounds 3 Zr))).get? b=s.heap.get? b:=λb nb=>Qx _ _ (QN nb)
   have rcd:∀b o,s.heap.get? b=some o->(∀vs,o.data≠.fields vs)->b≠t:=λb o gb nf z=>by
    rw[z,ht] at gb;cases gb;exact nf ts dt
   have nfr:t ∉ frs (env::outer):=λm=>by
    obtain⟨_,o,go,nf⟩:=hl.mem m;rw[ht] at go;cases go;exact nf ts dt
   refine zk2 (s:={ s with heap:=s.heap.update t (QQ (·.setIfInBounds 3 Zr)) }) hfr (hl.of_keeps λb o gb nf=>⟨o,(ot b (rcd b o gb nf)).trans gb,rfl⟩) hf ((ot e (QN tne)).trans he) hc hx hd hz hch λh' u F' nu W fr=>?_;exact q h' u F' (by rw[<- Heap.size_after_update s.heap t];exact nu) ⟨λb o nb nT nf gb=>W.keep b o nb (by simp) nf ((ot b λz=>nT (by rw[z])).trans gb),λb o mb gb=>W.slot b o mb ((ot b λz=>nfr (z ▸ mb)).trans gb)⟩ fr
theorem zse(hfr:A.frames=some (env::outer))(hl:s.heap.FunFrames base (env::outer))(hf:env.frame=some L)(hb:∀t,T=some t->base.get? t=none)
 (F:Fly s.heap e cls dx T) (q:∀h' t,Fly h' e cls dx (some t)->s.heap.objs.size<=t->Flew (frs (env::outer)) e T s.heap h'->h'.FunFrames base (env::outer)->Q () { s with heap:=h' }) :
 wpAny M A (leaving env (.ref e)) Q E s:=Us (zhw hfr hl hf hb F q)
theorem zmj(F:Fly s.heap e cls dx (some t))(q:∀h',Fly h' e cls dx (some t)->(∀b o,b≠t->s.heap.get? b=some o->h'.get? b=some o)->Q () { s with heap:=h' }):wpAny M A (Gn (.ref e) none) Q E s:=by
 obtain⟨⟨oe,vs,he,hc,hx,hd,hz,h1,hch⟩,nt⟩:=F;obtain⟨tne,oT,ts,ht,dt,t3⟩:=nt t rfl;have z3:3<ts.size:=(ZW.mp t3).1;unfold Gn;refine Us (U1 he hd h1 ?_);rw[T0 (show((some t).elim Zr Q9 != Zr)=true by simp)];have d4:=Jr dt (·.setIfInBounds 3 ((none:Option Addr).elim Zr λf=>rawInt f));have t4:=QM (QQ (·.setIfInBounds 3 ((none:Option Addr).elim Zr λf=>rawInt f))) ht (ZZ d4);refine UX ht dt z3 (q _ ⟨⟨oe,vs,(Qx _ _ tne).trans he,hc,hx,hd,hz,h1,hch⟩,λu eu=>?_⟩ λb o nb hb=>(Qx _ _ (QN nb)).trans hb);cases eu;exact⟨tne,_,_,t4,d4,by simp[z3]⟩
end
section
variable {P:Uy}{w:U0}{H:Hp}{h h':Heap}{fs:List Addr}{e:Addr}{T:Option Addr}
theorem Flew.un(W:Flew fs e T h h'):Un fs (e::T.toList) H H h h' where
 keep:=λb o q _ nf nx=>W.keep b o (λz=>nx (by rw[z];exact Qw)) (λz=>nx (by rw[z];simp)) nf q
 slot:=λb o q _ mf _=>W.slot b o mf q
 free:=λb o q n _=>n
 there:=λb o q nx=>by
  by_cases hb:b∈fs
  .obtain⟨sl,z⟩:=W.slot b o hb q;exact⟨_,z⟩
  .exact⟨o,W.keep b o (λz=>nx (by rw[z];exact Qw)) (λz=>nx (by rw[z];simp)) hb q⟩
 tups:=λ_ _ q=>q
 frzs:=λ_ _ _ q=>q
 tbls:=λb ps q=>⟨#[],by rw[JI];exact q⟩
theorem Flew.hok(W:Flew fs e T h h')(hok:HOk P w H h)(he:H e=none)(hT:∀t,T=some t->H t=none)(hf:∀b∈fs,H b=none):HOk P w H h':=λa o q=>
 (hok a o q).stay (λb u hb g=>by
  have nb:H b≠none:=by
   rcases hb with z|z
   .rw[z,q];simp
   .rw[z];simp
  exact W.keep b u (λz=>nb (by rw[z];exact he)) (λz=>nb (hT b z)) (λz=>nb (hf b z)) g) (λ_ z=>z) λ_ _ z=>z
end
def CX1(P:Uy)(w:U0):CXT:=λouter H s E e s'=>∃(a C dx:Addr) (T:Option Addr) (H':Hp),e = .ref a/\s'.os=s.os/\G4 s'.gens/\Un (frs outer) [] H H' s.heap s'.heap/\HOk P w H' s'.heap /\
 Fly s'.heap a (.ref C) (some dx) T/\H' a=none/\s.heap.objs.size<=a/\(∀t,T=some t->H' t=none/\s.heap.objs.size<=t)/\E (.ref C) (some dx) H'
structure Bdy(P:Uy)(w:U0)(X:Cx)(E:XK):Prop where
 prog:X.prog=P
 wld:X.w=w
 stk:X.stack=X.env::X.outer
 fr:X.env.frame=some X.env.locals
 ex:X.ex = []
 xe:X.xe=λe s'=>wpAny (model P w) X.A (leaving X.env e) (λ_ s''=>CX1 P w X.outer X.H₀ X.s₀ E e s'') (λe' s''=>CX1 P w X.outer X.H₀ X.s₀ E e' s'') s'
section
variable {P:Uy}{w:U0}{X:Cx}{E:XK}{pins:List (Addr×Obj)}{σ:St}{H:Hp}{s:Ux}{a C dx:Addr}{T:Option Addr}
theorem Bdy.out(B:Bdy P w X E)(I:Inv X pins σ H s)(F:Fly s.heap a (.ref C) (some dx) T)(na:H a=none)(fa:X.s₀.heap.objs.size<=a)(hT:∀t,T=some t->H t=none/\X.s₀.heap.objs.size<=t)(q:E (.ref C) (some dx) H):X.xe (.ref a) s:=by
 have fr0:X.A.frames=some (X.env::X.outer):=by rw[I.ok.frames,B.stk]
 have st0:s.heap.FunFrames X.base (X.env::X.outer):=by have:=I.stack;rwa [B.stk] at this
 have bT:∀t,T=some t->X.base.get? t=none:=λt z=>by
  cases g:X.base.get? t with
  | none=>rfl
  | some o=>exact absurd (Qg (I.ok.bs t o g).1) (Z3.mpr (hT t z).2)
 rw[B.xe];refine zse fr0 st0 B.fr bT F λh' t F' nt W fr=>?_;have frn:∀b∈frs (X.env::X.outer),H b=none:=by have:=I.stkFree;rwa [B.stk] at this
 have hok:=B.prog ▸ B.wld ▸ W.hok I.hok na (λt z=>(hT t z).1) frn;have bu:=I.base;rw[B.ex] at bu
 have s0:∀b o,X.s₀.heap.get? b=some o->b≠a/\T≠some b/\b≠X.env.locals:=λb o g=>by
  refine⟨λz=>?_,λz=>?_,λz=>?_⟩
  .rw[z] at g;exact absurd (Qg g) (Z3.mpr fa)
  .exact absurd (Qg g) (Z3.mpr (hT b z).2)
  .rw[z] at g;exact absurd (Q7 (Qg g) I.ok.above) (Zj _)
 have nf:∀b,b≠X.env.locals->b ∉ X.fs->b ∉ frs (X.env::X.outer):=λb h1 h2 m=>by
  have m2:b∈X.env.locals::X.fs:=by
   have:frs (X.env::X.outer)=X.env.locals::X.fs:=by
    show Ua _ (X.env::X.outer)=_;rw[Jg,B.fr];rfl
   rwa [this] at m
  rcases Q3.mp m2 with z|z
  .exact h1 z
  .exact h2 z
 have mf:∀b,b∈X.fs->b∈frs (X.env::X.outer):=λb m=>by
  show b∈Ua _ (X.env::X.outer);rw[Jg,B.fr];exact Qq _ m
 have un:Un (frs X.outer) [] X.H₀ H X.s₀.heap h':={
  keep:=λb o g n hb hx=>let ⟨z1,z2,z3⟩:=s0 b o g;W.keep b o z1 z2 (nf b z3 hb) (bu.keep b o g n hb hx)
  slot:=λb o g n hb hx=>by
   obtain⟨sl,g1⟩:=bu.slot b o g n hb hx;obtain⟨sl2,g2⟩:=W.slot b _ (mf b hb) g1;exact⟨sl2,g2⟩
  free:=bu.free
  there:=λb o g hx=>by
   obtain⟨o1,g1⟩:=bu.there b o g hx;obtain⟨z1,z2,z3⟩:=s0 b o g
   by_cases hb:b∈X.fs
   .obtain⟨sl2,g2⟩:=W.slot b _ (mf b hb) g1;exact⟨_,g2⟩
   .exact⟨o1,W.keep b o1 z1 z2 (nf b z3 hb) g1⟩
  tups:=bu.tups
  frzs:=bu.frzs
  tbls:=bu.tbls }
 refine⟨a,C,dx,some t,H,rfl,I.os,I.bare,un,hok,F',na,fa,λu z=>?_,q⟩;cases z;exact⟨I.hok.fresh nt,Q5 I.sz nt⟩
end
end L3
namespace L3
open PySem PySem.Spec PySem.Calls
open PyProof.Rows hiding St
open L2
theorem zqv{K:Qa}{h:Heap}{A1:Addr}{c0:Ut}{dd od:Option Addr}{cd:ClassData}{sl osl:Array (Option Ut)}{es:Array DictEntry}{ep:Nat}{oc:Ut}{bmB tl:List Ut}(x:K.In h)
 (hA:K.lookup A1=some ⟨c0,dd,.cls cd,sl⟩) (hN:K.lookup cd.ns=some ⟨oc,od,.dict es ep,osl⟩) (sk:StrKeys es) (ni:nsFind es "__init__" = none) (T:OwnTail h bmB tl):OwnTail h bmB (.ref A1::tl) :=
 .own (x _ _ hA) ⟨_,es,ep,x _ _ hN,rfl,sk,λ_=>rfl⟩ ni T
abbrev zdw(us:List Ut):Obj:={ cls:=.type "tuple",data:=.seq us.toArray }
abbrev zc7(C t:Addr):Obj:={ cls:=.ref C,data:=.fields #[.ref t,.none,.none,.none,.bool false,.none] }
section
variable {prog:Uy}{w:U0}{A:U9}{K:Qa}{C N f:Addr}{R:Result->Ux->Prop}{s:Ux}{us:List Ut}
variable {nm q:Str}{bs bm bmB:List Ut}{sn:List Str}{sub:List Ut}{ab:Bool}{col:Option Bool}{dd:Option Addr}{k0 k1 k2 k3 k5:Option Ut}{B newId initId:String}
theorem z2f(X:K.In s.heap)(hC:K.lookup C=some (Gm nm q C N bs bm true sn sub ab col dd k0 k1 k2 k3 k5 newId))(T:OwnTail s.heap bmB bm)(F:ExcBaseFacts B newId initId bmB)
 (hi:QY K (.ref C) "__init__" = some (some (.ref f))) (hf:ZM K (.ref f)=some (.type "function")) (hu:us.length<=sizeLine)
 (h:Gi (model prog w) (A.under (.builtin "type.__call__" ⟨.ref C::us,[]⟩)) (.call (.ref f) ⟨.ref (s.heap.objs.size+1)::us,[]⟩) (PySem.W.InitBack (s.heap.objs.size+1) R)
  { s with heap:=(s.heap.push (zdw us)).push (zc7 C s.heap.objs.size) }) :
 Gi (model prog w) A (.call (.ref C) ⟨us,[]⟩) R s:=by
 obtain⟨hh,g,d,tk,os⟩:=s;have gC:=X _ _ hC;have t1:=tc_lookup;have t2:=tc_bind (.ref C);have tT:(⟨hh,g,d,tk,os⟩:Ux).TypeIs (.ref C) "type" := ⟨_,gC,rfl⟩;refine codeAny_of_tree ?_;show wpAny _ _ (callAny (.ref C) _) _ _ _
 repeat (any_goals (first|assumption|with_reducible refine UG gC ?_|wp_step))
 refine⟨rfl,?_⟩;refine codeAny_call_builtin_at (Vl _ (by decide +kernel)) entry_typeCall (wpAny_check_type_call_sub gC ?_)
 repeat (first|with_reducible refine UG gC ?_|with_reducible refine wpAny_madeBy_exc gC ?_|wp_step)
 refine codeAny_call_builtin_code (Vl _ F.quiet) (wpAny_check_new_subT F T gC (codeAny_exc_new_subT F T gC ?_ hu));show wpAny _ _ _ _ _ _;have kp:∀b o,hh.get? b=some o->((hh.push (zdw us)).push (zc7 C hh.objs.size)).get? b=some o:=λb o z=>Qc _ (Qc _ z);have gC1:=kp _ _ gC;have X1:=X.keeps kp;have gx:((hh.push (zdw us)).push (zc7 C hh.objs.size)).get? (hh.objs.size+1)=some (zc7 C hh.objs.size):=by heap_get
 have cC:(Q9 C::bm).contains (.ref C)=true:=by simp
 have tx:ZB (model prog w) ((hh.push (zdw us)).push (zc7 C hh.objs.size)) (typeOf (.ref (hh.objs.size+1))) (.ref C):=(JV gx).andThen .now
 have sx:ZB (model prog w) ((hh.push (zdw us)).push (zc7 C hh.objs.size)) (isSubtype (.ref C) (.ref C)) true:=λA1 Q1 E1 s1 k1 z1=>by
  obtain⟨h1,g1,d1,u1,o1⟩:=s1;refine G0 (k1 _ _ gC1) ?_;rw[cC];exact z1
 have ix:=Jd (M:=model prog w) X1 hi;have bx:=PySem.W.bind_fn (M:=model prog w) X1 (.ref (hh.objs.size+1)) hf;have nx:ZB (model prog w) ((hh.push (zdw us)).push (zc7 C hh.objs.size)) (isInstance (.ref (hh.objs.size+1)) (.ref C)) true:=tx.andThen sx;refine Us (nx.here ?_);rw[TB (by decide)];unfold callSpecial? specialOf;refine Us (UA (Us (Us (tx.here ?_))));refine ix.here ?_;refine UA (Us (bx.here ?_));refine Us (Gs (Gq h λr s' z=>?_));rcases r with e|(v|_|_|_)
 .exact z
 .exact z.elim
 .exact z.elim
 .exact z.elim
 .obtain⟨rfl,z⟩:=z;exact Uv (Uv z)
end
end L3
namespace L3
open PySem PySem.Spec PySem.Calls Builtin Builtin.ObjectAttr
open PyProof.Rows hiding St
open L2
structure XCls(K:Qa)(C:Addr)(f:Str):Prop where
 cls:∃cd,JD K C=some cd/\cd.hasDict=true/\cd.mro.isEmpty=false/\cd.mro.contains (.type "object")=true/\∀v,refuseLoop v "__setattr__" cd.mro=pure ()
 sa:QY K (.ref C) "__setattr__" = some (some (.builtin "object.__setattr__"))
 no:QY K (.ref C) f=some none
section
variable {prog:Uy}{w:U0}{A:U9}{E:Ut->Ux->Prop}{K:Qa}{C x:Addr}{s:Ux}{f:Str}{v:Ut}{o:Obj}{vs:Array Ut}{Q:Unit->Ux->Prop}{R:Result->Ux->Prop}
theorem z5j(X:K.In s.heap)(c:XCls K C f)(hx:s.heap.get? x=some o)(hc:o.cls = .ref C)
 (h:wpAny (model prog w) A.in1 (storeInOwnDict (.ref x) (.ref C) (.str f tk) f v false)
  (λfin s'=>match fin with | .done z=>R (.ok z) s' | .again c'=>c'.quiet=true/\Gi (model prog w) A c' R s') (λe s'=>R (.error e) s') s) :
 Gi (model prog w) A (.call (.builtin "object.__setattr__") ⟨[.ref x,.str f tk,v],[]⟩) R s:=by
 obtain⟨⟨cd,c1,c2,c3,c4,c5⟩,sa,no⟩:=c;have S:=YT
 have ty:ZB (model prog w) s.heap (typeOf (.ref x)) (.ref C):=by
  obtain⟨oc,od,dt,sl⟩:=o;cases hc;exact(JV hx).andThen .now
 have sb:ZB (model prog w) s.heap (isInstance (.ref x) (.type "object")) true:=ty.andThen (Jh X (by unfold QG;rw[c1,Option.bind_some,TB (by rw[c3];decide),c4]));refine GV S.slot.plain S.entry (@Vm (model prog w) _ _ s "object.__setattr__" "object" "__setattr__" (.ref x) [.str f tk,v] [] _ S.kind S.split sb (S.args (.ref x) (.str f tk) v) ?_);have mr:ZB (model prog w) s.heap (mroOf (.ref C)) cd.mro:=(Yd X c1).andThen .now;rw[PySem.W.osa_eq,refuse_eq];refine Us (Us (ty.here (Us (mr.here ?_))));rw[c5];refine Uv (Us (ty.here (Us ((Jd X no).here (Us (Uv ?_))))));exact h
theorem zwp(X:K.In s.heap)(c:XCls K C f)(hx:s.heap.get? x=some o)(hc:o.cls = .ref C)
 (h:wpAny (model prog w) A.in1 (storeInOwnDict (.ref x) (.ref C) (.str f s.toks) f v false) (λfin s'=>match fin with | .done (.ret _)=>Q () s'|_=>False) E { s with toks:=s.toks+1 }) :
 wpAny (model prog w) A (Tx (.ref x) f v) Q E s:=by
 have ty:ZB (model prog w) s.heap (typeOf (.ref x)) (.ref C):=by
  obtain⟨oc,od,dt,sl⟩:=o;cases hc;exact(JV hx).andThen .now
 unfold Tx callSpecial? specialOf;refine Us (Tj (Us (Us (Us (Z8 (s:={ s with toks:=s.toks+1 }) ty ?_)))));refine Z8 (s:={ s with toks:=s.toks+1 }) (Jd X c.sa) ?_;refine UA ?_;rw[YT.slot.bind];refine Us (Uv (Us (Gs (z5j (s:={ s with toks:=s.toks+1 }) X c hx hc (U2 h (λfin s' z=>?_) λe s' z=>z)))));rcases fin with (_|_|_|u)|c'
 .exact z.elim
 .exact z.elim
 .exact z.elim
 .exact Uv (Uv z)
 .exact z.elim
theorem z2t(X:K.In s.heap)(c:XCls K C f)(hx:s.heap.get? x=some o)(hc:o.cls = .ref C)(hd:o.data = .fields vs)(hn:o.dict=none)
 (h:∀h' d tk,h'.get? x=some { o with dict:=some d }->h'.Ns1 d (λy=>if y=f then some v else none)->d=s.heap.objs.size->(∀b u,b≠x->s.heap.get? b=some u->h'.get? b=some u)->Q () { s with heap:=h',toks:=tk }) :
 wpAny (model prog w) A (Tx (.ref x) f v) Q E s:=by
 refine zwp X c hx hc ?_;obtain⟨⟨cd,c1,c2,c3,c4,c5⟩,sa,no⟩:=c;obtain⟨hh,g,d,tk,os⟩:=s;obtain⟨oc,od,dt,sl⟩:=o;cases hc;cases hd;cases hn;have gx:(hh.push Jz).get? x=some ⟨.ref C,none,.fields vs,sl⟩:=Qc _ hx;have nx:x≠hh.objs.size:=QP (Qg hx);unfold storeInOwnDict ownDictForStores instanceDict;refine Us (Uv (Us (Us (G7 hx (Us (Z8 (s:=⟨hh,g,d,tk+1,os⟩) (Yd X c1) ?_))))));rw[c2];refine Us (wpAny_alloc ?_);refine Us (wpAny_update gx ?_);refine Uv ?_;have g2:((hh.push Jz).update x λo=>{ cls:=o.cls,dict:=some hh.objs.size,data:=o.data,slots:=o.slots }).get? hh.objs.size=some Jz:=(Qx _ _ nx).trans (Heap.get?_push_at rfl rfl);have g3:((hh.push Jz).update x λo=>{ cls:=o.cls,dict:=some hh.objs.size,data:=o.data,slots:=o.slots }).get? x=some ⟨.ref C,some hh.objs.size,.fields vs,sl⟩:=QM _ gx rfl;have n2:((hh.push Jz).update x λo=>{ cls:=o.cls,dict:=some hh.objs.size,data:=o.data,slots:=o.slots }).Ns hh.objs.size (λ_=>none):=⟨_,#[],_,g2,rfl,λe he=>absurd he (by simp),λ_=>rfl⟩;show wpAny _ _ (storeInDict hh.objs.size (.str f tk) f v) _ _ _;unfold storeInDict newKeyGuard;refine Us (Uv (Us (wpAny_nsSet1 (Heap.Ns1.of_empty n2) λh' m1 sb=>?_)));obtain⟨oD,eD,pD,hoD,hdD,hcD⟩:=m1.count (Ur f v Within.nil);refine Us (wpAny_lookBehind hoD (by rw[hdD];exact pastItsLine_dict (Q5 hcD (by rw[Qj,YE,Uz];lia))) (Uv ?_));refine h h' hh.objs.size _ ((sb.2 x nx).trans g3) m1 rfl λb u nb hb=>?_;exact(sb.2 b (QP (Qg hb))).trans ((Qx _ _ (QN nb)).trans (Qc _ hb))
theorem z3p(X:K.In s.heap)(c:XCls K C f)(hx:s.heap.get? x=some o)(hc:o.cls = .ref C)(hd:o.data = .fields vs)(hn:o.dict=some dx)(m:s.heap.Ns1 dx mA)(hw:Within mA ns)(hz:ns.length<=1000)
 (h:∀h' tk,h'.Ns1 dx (λy=>if y=f then some v else mA y)->(∀b u,b≠dx->s.heap.get? b=some u->h'.get? b=some u)->Q () { s with heap:=h',toks:=tk }) :
 wpAny (model prog w) A (Tx (.ref x) f v) Q E s:=by
 refine zwp X c hx hc ?_;obtain⟨⟨cd,c1,c2,c3,c4,c5⟩,sa,no⟩:=c;obtain⟨hh,g,d,tk,os⟩:=s;obtain⟨oc,od,dt,sl⟩:=o;cases hc;cases hd;cases hn;unfold storeInOwnDict ownDictForStores instanceDict;refine Us (Uv (Us (Us (G7 hx (Us (Z8 (s:=⟨hh,g,d,tk+1,os⟩) (Yd X c1) ?_))))));rw[c2];refine Uv (a:=some dx) ?_;show wpAny _ _ (storeInDict dx (.str f tk) f v) _ _ _;unfold storeInDict newKeyGuard;refine Us (Uv (Us (wpAny_nsSet1 m λh' m1 sb=>?_)));obtain⟨oD,eD,pD,hoD,hdD,hcD⟩:=m1.count (Ur f v hw);refine Us (wpAny_lookBehind hoD (by rw[hdD];exact pastItsLine_dict (Q5 hcD (by rw[Qj,Uz];lia))) (Uv ?_));exact h h' _ m1 λb u nb hb=>(sb.2 b nb).trans hb
end
abbrev ze1(C t:Addr)(dx:Option Addr):Obj:={ cls:=.ref C,dict:=dx,data:=.fields #[.ref t,.none,.none,.none,.bool false,.none] }
def XO(x C:Addr)(dx:Option Addr):HO:=.ext λh=>∃t:Addr,h.get? x=some (ze1 C t dx)
def MutX:Option HO->Prop
 | some (.ext _)=>True
 | some (.xd _)=>True
 | _=>False
section
variable {X:Cx}{pins:List (Addr×Obj)}{σ:St}{H H':Hp}{s:Ux}{h':Heap}
theorem Inv.chg{t':Nat}(I:Inv X pins σ H s)(S:Addr->Prop)(hS:∀b,S b->(H b=none/\s.heap.objs.size<=b)\/MutX (H b))(k:∀b u,¬S b->s.heap.get? b=some u->h'.get? b=some u)(ex:∀b,S b->∃u,h'.get? b=some u)
 (ag:∀b,¬S b->H' b=H b) (new:∀b o,S b->H' b=some o->ObjOk X.prog X.w H' h' b o):Inv X pins σ H' { s with heap:=h',toks:=t' }:=by
 have nS:∀b u,H b=some u->¬MutX (some u)->¬S b:=λb u e n z=>by
  rcases hS b z with q|q
  .rw[q.1] at e;cases e
  .rw[e] at q;exact n q
 have nF:∀b o,s.heap.get? b=some o->H b=none->¬S b:=λb o g n z=>by
  rcases hS b z with q|q
  .exact absurd (Qg g) (Z3.mpr q.2)
  .rw[n] at q;exact q
 refine I.un ⟨λb o g n _ _=>k b o (nF b o g n) g,λb o g n _ _=>⟨o.slots,k b o (nF b o g n) g⟩,λb o g n _=>by rw[ag b (nF b o g n)];exact n,λb o g _=>?_,λb xs q=>?_,λb o u q=>?_,λb ps q=>?_⟩ λb o q=>?_
 .by_cases z:S b
  .exact ex b z
  .exact⟨o,k b o z g⟩
 .rw[ag b (nS b _ q λz=>z)];exact q
 .rw[ag b (nS b _ q λz=>z)];exact q
 .exact⟨#[],by rw[ag b (nS b _ q λz=>z),JI];exact q⟩
 .by_cases z:S b
  .exact new b o z q
  .rw[ag b z] at q;refine(I.hok b o q).stay (λc u hc g=>k c u ?_ g) (λc r=>?_) λc xs r=>?_
   .rcases hc with rfl|hc
    .exact z
    .exact nS c _ hc λz=>z
   .rw[ag c (nS c _ r λz=>z)];exact r
   .rw[ag c (nS c _ r λz=>z)];exact r
theorem zw0(e:h'.get? x=some (ze1 C t dx)):ObjOk X.prog X.w H' h' x (XO x C dx) :=
 ⟨⟨t,e⟩,⟨_,e⟩,λh1 h2 ⟨u,g⟩ k=>⟨u,k _ g⟩⟩
theorem XO.at(I:Inv X pins σ H s)(e:H x=some (XO x C dx)):∃t:Addr,s.heap.get? x=some (ze1 C t dx):=(I.hok x _ e).1
def zwt(K:Qa)(f:Str)(v y:V)(H:Hp)(Q:Hp->Prop):Prop:=∃x C,v = .ref x/\XCls K C f /\
 ((H x=some (XO x C none)/\∀d,H d=none->d≠x->Q (upd (upd H d (.xd [(f,y)])) x (XO x C (some d)))) \/
  ∃d fs,H x=some (XO x C (some d))/\H d=some (.xd fs)/\fs.length<1000/\Q (upd H d (.xd (putF f y fs))))
theorem zsn(I:Inv X pins σ H s)(rv:RelV v uv)(ry:RelV y u)(h:zwt X.K f v y H Qh)
 (q:∀s' H',Inv X pins σ H' s'->Qh H'->Q () s'):wpAny (model X.prog X.w) A (Tx uv f u) Q E s:=by
 obtain⟨x,C,rfl,c,⟨hx,hq⟩|⟨d,fs,hx,hd,hl,hq⟩⟩:=h
 .obtain rfl:uv=Q9 x:=rv;obtain⟨t,g⟩:=XO.at I hx;refine z2t I.kIn c g rfl rfl rfl λh' d tk g' m ed kp=>?_;have nd:H d=none:=I.hok.fresh (Y9 ed.symm);have dx:d≠x:=λw=>by rw[w,hx] at nd;cases nd
  refine q _ _ ?_ (hq d nd dx);refine Inv.chg I (λb=>b=x\/b=d) (λb hb=>?_) (λb u nb g=>kp b u (λz=>nb (.inl z)) g) (λb hb=>?_) (λb nb=>?_) λb o hb e=>?_
  .rcases hb with rfl|rfl
   .right;rw[hx];exact trivial
   .left;exact⟨nd,Y9 ed.symm⟩
  .rcases hb with rfl|rfl
   .exact⟨_,g'⟩
   .obtain⟨o,_,_,e,_⟩:=m;exact⟨o,e⟩
  .rw[zae (λz=>nb (.inl z)),zae (λz=>nb (.inr z))]
  .rcases hb with rfl|rfl
   .rw[zaj] at e;cases e;exact zw0 g'
   .rw[zae dx,zaj] at e;cases e;refine⟨_,m,λg=>?_⟩;show RelO (Jm g [(f,y)]) (if g=f then some u else none)
    by_cases w:g=f
    .subst w;rw[Zp,T0 rfl];exact ry
    .have hb:(g == f)=false:=beq_eq_false_iff_ne.mpr w;rw[Zu,hb,TB w];exact trivial
 .obtain rfl:uv=Q9 x:=rv;obtain⟨t,g⟩:=XO.at I hx;obtain⟨mA,m,rl⟩:=I.hok d _ hd
  have wi:Within mA (fs.map (·.1)):=λg hg=>by
   have:=rl g
   cases l:fs.lookup g with
   | none=>rw[l] at this;cases w:mA g with
     | none=>exact absurd w hg
     | some _=>rw[w] at this;exact this.elim
   | some v=>exact QS.mpr ⟨(g,v),Zv l,rfl⟩
  refine z3p I.kIn c g rfl rfl rfl m wi (by rw[Qb];lia) λh' tk m' kp=>?_;have dx:d≠x:=λw=>by rw[w,hx] at hd;cases hd
  refine q _ _ ?_ hq;refine Inv.chg I (λb=>b=d) (λb hb=>?_) (λb u nb g=>kp b u nb g) (λb hb=>?_) (λb nb=>zae nb) λb o hb e=>?_
  .subst hb;right;rw[hd];exact trivial
  .subst hb;obtain⟨o,_,_,e,_⟩:=m';exact⟨o,e⟩
  .subst hb;rw[zaj] at e;cases e;refine⟨_,m',λg=>?_⟩;show RelO ((putF f y fs).lookup g) (if g=f then some u else mA g);rw[zhn]
   by_cases w:g=f
   .rw[T0 w,T0 w];exact ry
   .rw[TB w,TB w];exact rl g
def z6i(K:Qa)(ta tv:TE)(f:Str):TS:=λD σ H=>tv σ H λy H1=>ta σ H1 λv H2=>zwt K f v y H2 λH3=>D.nx σ H3
theorem zo4{value:Expr}{pos':Pos}(ha:PE X o ta)(hv:PE X value tv)(hs:UZ value (some (.Attribute o f pos')) pos.line X.env=pure false):PS X (.Assign [.Attribute o f pos'] value pos) (z6i X.K ta tv f):=by
 intro pins s σ H D I h;refine plainObj_wpAny_Assign_Attribute (thn (hv pins s σ H _ I h) λu s1 ⟨y,H1,I1,ry,q⟩=>thn (ha pins s1 σ H1 _ I1 q) λov s2 zz=>?_) hs;obtain⟨x,H2,I2,rx,q2⟩:=zz;exact zsn I2 rx ry q2 λs3 H3 I3 q3=>⟨σ,_,I3,q3⟩
end
def zdr(K:Qa)(ns:List Str):Sp:=λvs H Q _=>∃x C ys,vs = .ref x::ys/\ys.length=ns.length/\(∀n∈ns,XCls K C n)/\H x=some (XO x C none)/\∀d,H d=none->d≠x->Q .non (upd (upd H d (.xd (ns.zip ys))) x (XO x C (some d)))
theorem zi5{K:Qa}{ns ps:List Str}(h:ps.length=ns.length+1):∀vs H Q E,zdr K ns vs H Q E->vs.length=ps.length:=λvs H Q E ⟨x,C,ys,e,l,_⟩=>by rw[e,Qj,l,h]
structure XMk(K:Qa)(C f:Addr)(ns:List Str):Prop where
 cls:∃(nm q:Str) (N:Addr) (bs bm bmB:List Ut) (sn:List Str) (sub:List Ut) (ab:Bool) (col:Option Bool) (dd:Option Addr) (k0 k1 k2 k3 k5:Option Ut) (B newId initId:String),
  K.lookup C=some (Gm nm q C N bs bm true sn sub ab col dd k0 k1 k2 k3 k5 newId)/\(∀h:Heap,K.In h->OwnTail h bmB bm)/\ExcBaseFacts B newId initId bmB
 init:QY K (.ref C) "__init__" = some (some (.ref f))
 fn:ZM K (.ref f)=some (.type "function")
 kp:Zt K (.ref C)=true
 fld:∀n∈ns,XCls K C n
section
variable {X:Cx}{pins:List (Addr×Obj)}{σ:St}{H:Hp}{s:Ux}{k:Nat}{C f:Addr}{fd:UM}{ps ns:List Str}{us:List Ut}{vs:List V}{Q:Ut->Ux->Prop}
theorem zi7(M:XMk X.K C f ns)(hF:∀(s2:Ux) (H2:Hp) (us2:List Ut) (vs2:List V) (Q2:VK),X.K.In s2.heap->Env0 X.prog X.w X.K X.mg X.base (X.A.under (.builtin "type.__call__" ⟨.ref C::us,[]⟩)) X.stack s2 H2->Vals vs2 us2->zdr X.K ns vs2 H2 Q2 E0->Gi (model X.prog X.w) (X.A.under (.builtin "type.__call__" ⟨.ref C::us,[]⟩)) (.call (.ref f) ⟨us2,[]⟩) (CR CX0 X.stack X.prog X.w H2 s2 Q2 E0) s2)(I:Inv X pins σ H s)(r:Vals vs us)(hl:vs.length=ns.length)(hz:ns.length<=1000)
 (h:∀s' x d,Inv X pins σ (upd (upd H d (.xd (ns.zip vs))) x (XO x C (some d))) s'->s.heap.objs.size<=x->H x=none->H d=none->d≠x->Q (.ref x) s'):wpAny (model X.prog X.w) X.A (call (.ref C) us) Q X.xe s:=by
 obtain⟨nm,q,N,bs,bm,bmB,sn,sub,ab,col,dd,k0,k1,k2,k3,k5,B,newId,initId,hC,T,EB⟩:=M.cls;have lu:us.length<=sizeLine:=by rw[<- r.length,hl,Uz];lia
 have kp:∀b o,s.heap.get? b=some o->((s.heap.push (zdw us)).push (zc7 C s.heap.objs.size)).get? b=some o:=λb o z=>Qc _ (Qc _ z);have gx:((s.heap.push (zdw us)).push (zc7 C s.heap.objs.size)).get? (s.heap.objs.size+1)=some (zc7 C s.heap.objs.size):=by heap_get
 have nx:H (s.heap.objs.size+1)=none:=I.hok.fresh (Jn _)
 have I2:Inv X pins σ (upd H (s.heap.objs.size+1) (XO (s.heap.objs.size+1) C none)) { s with heap:=(s.heap.push (zdw us)).push (zc7 C s.heap.objs.size),toks:=s.toks } :=
  Inv.chg I (λb=>b=s.heap.objs.size+1) (λb hb=>.inl (by subst hb;exact⟨nx,Jn _⟩)) (λb u _ g=>kp b u g) (λb hb=>by subst hb;exact⟨_,gx⟩) (λb nb=>zae nb) λb o hb e=>by
   subst hb;rw[zaj] at e;cases e;exact zw0 gx
 have r2:Vals (V.ref (s.heap.objs.size+1)::vs) (Q9 (s.heap.objs.size+1)::us):=.cons rfl r
 have sp:zdr X.K ns (V.ref (s.heap.objs.size+1)::vs) (upd H (s.heap.objs.size+1) (XO (s.heap.objs.size+1) C none)) (λv H2=>v = .non/\∃d,H d=none/\d≠s.heap.objs.size+1/\H2=upd (upd H d (.xd (ns.zip vs))) (s.heap.objs.size+1) (XO (s.heap.objs.size+1) C (some d))) E0 :=
  ⟨_,C,vs,rfl,hl,M.fld,zaj,λd hd dx=>⟨rfl,d,by rw[zae dx] at hd;exact hd,dx,by
   funext b;unfold upd
   by_cases e1:b=s.heap.objs.size+1
   .rw[T0 e1,T0 e1]
   .rw[TB e1,TB e1,TB e1]⟩⟩
 refine Gs (z2f I.kIn hC (T _ I.kIn) EB M.init M.fn lu (Gq (hF _ _ (Q9 (s.heap.objs.size+1)::us) _ _ I2.kIn (I2.env0.make C us []) r2 sp) λr s' hq=>?_))
 cases r with
 | error e=>exact hq.elim
 | ok fl=>
   cases fl with
   | ret u=>
     obtain⟨v,H',I3,rv,ev,d,hd,dx,e2⟩:=I2.after hq;subst ev e2;exact⟨rv,h s' _ d I3 (Jn _) nx hd dx⟩
   | next=>exact hq.elim
   | brk=>exact hq.elim
   | cont=>exact hq.elim
theorem zr5(M:XMk X.K C f ns)(F:FnOk X.prog X.w X.K X.mg X.base CX0 k f fd ps (zdr X.K ns))(hr:Room (k+1) X.A)(hb:Binds X.K fd ps [])(I:Inv X pins σ H s)(r:Vals vs us)(hl:vs.length=ns.length)(hz:ns.length<=1000)
 (h:∀s' x d,Inv X pins σ (upd (upd H d (.xd (ns.zip vs))) x (XO x C (some d))) s'->s.heap.objs.size<=x->H x=none->H d=none->d≠x->Q (.ref x) s'):wpAny (model X.prog X.w) X.A (call (.ref C) us) Q X.xe s :=
 zi7 M (λs2 H2 us2 vs2 Q2 kin e0 r2 sp=>F.run _ X.stack s2 H2 ⟨us2,[]⟩ us2 vs2 Q2 E0 (hr.make C us []) e0 (by
  have:=hb s2 us2 kin (by rw[QF,<- r2.length];exact F.len _ _ _ _ sp)
  rwa [QF] at this) r2 sp) I r hl hz h
def zg8(H:Hp)(x:Addr):Hp:=λb=>if b=x then none else H b
theorem zck(h:b≠x):zg8 H x b=H b:=TB h
theorem ze0: zg8 H x x=none:=T0 rfl
theorem Inv.drop(I:Inv X pins σ H s)(m:MutX (H x)):Inv X pins σ (zg8 H x) s:=by
 have ne:∀b u,H b=some u->¬MutX (some u)->b≠x:=λb u e n z=>by rw[<- z,e] at m;exact n m
 have dn:∀b,H b=none->zg8 H x b=none:=λb e=>by
  by_cases z:b=x
  .rw[z];exact ze0
  .rw[zck z];exact e
 refine⟨I.ok,I.os,I.bare,⟨I.base.keep,I.base.slot,λb o g n hx=>dn b (I.base.free b o g n hx),I.base.there,λb xs q=>?_,λb o u q=>?_,λb ps q=>?_⟩,I.loc,I.cell,dn _ I.free,λy c e=>dn _ (I.freeC y c e),λp hp=>?_,λb o q=>?_,I.len⟩
 .have:=I.base.tups b xs q;rw[zck (ne b _ this λz=>z)];exact this
 .have:=I.base.frzs b o u q;rw[zck (ne b _ this λz=>z)];exact this
 .obtain⟨mo,this⟩:=I.base.tbls b ps q;exact⟨mo,by rw[zck (ne b _ this λz=>z)];exact this⟩
 .obtain⟨a1,a2,a3⟩:=I.pin p hp;exact⟨a1,dn _ a2,a3⟩
 .have nb:b≠x:=λz=>by rw[z,ze0] at q;cases q
  rw[zck nb] at q;refine(I.hok b o q).stay (λc u _ g=>g) (λc r=>?_) λc xs r=>?_
  .rw[zck (ne c _ r λz=>z)];exact r
  .rw[zck (ne c _ r λz=>z)];exact r
def zs4(C:Addr)(ns:List Str)(E:XK)(t:TA):TS:=λD σ H=>t σ H λvs H1=>vs.length=ns.length/\∀d,H1 d=none->E (.ref C) (some d) (upd H1 d (.xd (ns.zip vs)))
section
variable {A:U9}{E:Ut->Ux->Prop}{x C N:Addr}{M:Model}{env:Env}{ev:Sem Ut}
variable {nm q:Str}{bs bm:List Ut}{sn:List Str}{sub:List Ut}{ab:Bool}{col:Option Bool}{dd:Option Addr}{k0 k1 k2 k3 k5:Option Ut}{newId:String}
theorem zv3{Q:Flow->Ux->Prop}(hm:bm.contains (.type "BaseException")=true)(hh:A.handled=none)
 (h:wpAny M A ev (λv s1=>∃x t dx,v = .ref x/\s1.heap.get? C=some (Gm nm q C N bs bm true sn sub ab col dd k0 k1 k2 k3 k5 newId)/\s1.heap.get? x=some (ze1 C t dx)/\E (.ref x) s1) E s) :
 wpAny M A (To env (some ev) none) Q E s:=by
 have cB:(Q9 C::bm).contains (.type "BaseException")=true:=by rw[Yr,hm,Bool.or_true]
 unfold To;refine Us (U2 h (λv s1 h1=>?_) λ_ _ z=>z);obtain⟨x,t,dx,rfl,gC,gx,z⟩:=h1;obtain⟨h1,g1,d1,u1,o1⟩:=s1
 repeat (first|with_reducible refine UG gx ?_|with_reducible refine UG gC ?_|(with_reducible refine G0 gC ?_;rw[cB])|wp_step)
 exact wpAny_raiseNew_none hh z
end
theorem zwb{w:U0}{cpos:Pos}(B:Bdy P w X E)(hc:X.calm=true)(M:XMk X.K C f ns)(F:FnOk X.prog X.w X.K X.mg X.base CX0 k f fd ps (zdr X.K ns))(hr:Room (k+1) X.A)(hb:Binds X.K fd ps [])(hz:ns.length<=1000)
 (hg:Gl X x) (hm:X.mg x=some (.ref C)) (ha:PA X (e::es) t) (hdb:(x == ("__debug__" : Str))=false:=by decide) (he:Uw (e::es) X.env=(false,eval e X.env)::Uw es X.env:=by rfl) (hpl:(UD cpos (Uw es X.env)).any (·.1)=false:=by rfl) :
 PS X (.Raise (some (.Call (.Name x np) (e::es) [] cpos)) none pos) (zs4 C ns E t):=by
 intro pins s σ H D I h;obtain⟨nm,q,N,bs,bm,bmB,sn,sub,ab,col,dd,k0,k1,k2,k3,k5,B1,newId,initId,hC,T,EB⟩:=id M.cls;have hb2:bm.contains (.type "BaseException")=true:=(T _ I.kIn).hasType EB.hasBase;rw[arm_exec_Raise];refine Us (UQ (zv3 (C:=C) (nm:=nm) (q:=q) (N:=N) (bs:=bs) (sn:=sn) (sub:=sub) (ab:=ab) (col:=col) (dd:=dd) (k0:=k0) (k1:=k1) (k2:=k2) (k3:=k3) (k5:=k5) (newId:=newId) hb2 (I.ok.hd hc) ?_));refine Us (U4 (zcn I hg hm ?_ hdb));refine Jo (h₀:=X.base) I.ok.mod.kin M.kp (thn (ha cpos pins s σ H _ I h) λus s1 ⟨vs,H1,I1,r,hl,hq⟩=>⟨I1.kIn,?_⟩) he hpl;refine zr5 M F hr hb I1 r hl hz λs' x d I2 sx nx nd dx=>Us (UQ (Uv ?_));obtain⟨t,g⟩:=XO.at I2 zaj;refine⟨x,t,some d,rfl,I2.kIn _ _ hC,g,?_⟩
 have eH:zg8 (upd (upd H1 d (.xd (ns.zip vs))) x (XO x C (some d))) x=upd H1 d (.xd (ns.zip vs)):=by
  funext b
  by_cases z:b=x
  .rw[z,ze0,zae (QN dx),nx]
  .rw[zck z,zae z]
 have I3:=Inv.drop I2 (x:=x) (by rw[zaj];exact trivial);rw[eH] at I3;refine B.out I3 (T:=none) ⟨⟨_,_,g,rfl,rfl,rfl,Q7 (by decide:1<6) (Qm _),rfl,.inl rfl⟩,λt z=>nomatch z⟩ (by rw[zae (QN dx)];exact nx) ?_ (λt z=>nomatch z) (hq d nd);exact Q5 I1.sz sx
end
section
variable {X:Cx}{pins:List (Addr×Obj)}{σ:St}{H:Hp}{s:Ux}
theorem zee{i:Nat}(I:Inv X pins σ H s)(hN:X.N.Nodup)(hi:X.N[i]? = some n)(hk:X.env.scope.names.lookup n=some .local)
 (h:∀s',Inv X pins (σ.set i none) H s'->Q () s'):wpAny M A (do Tf X.env n .none;unbindBehindTheSuite X.env n pos) Q E s:=by
 obtain⟨m,hn,hl⟩:=id I.loc;obtain⟨oL,_,_,hoL,_⟩:=id hn;have hcls:(X.env.scope.kind == .class || (X.env.scope.kind == .module && X.env.locals != X.env.globals))=false:=by rw[I.ok.kind];rfl
 refine wpAny_nameGoes_keeps hk hn hcls λh' v hn' hs=>h _ ?_;have ne:∀b o,X.s₀.heap.get? b=some o->b≠X.env.locals:=λb o e=>QP (Q7 (Qg e) I.ok.above);have ck:∀y c,X.env.cells.lookup y=some c->∀v,s.heap.IsCell c v->h'.IsCell c v:=λy c e v ⟨o,ho,hd⟩=>⟨o,(hs.2 c (I.cne y c e)).trans ho,hd⟩;refine⟨I.ok,I.os,I.bare,⟨λb o e n hb hx=>(hs.2 b (ne b o e)).trans (I.base.keep b o e n hb hx),λb o e n hb hx=>?_,I.base.free,λb o e hx=>?_,I.base.tups,I.base.frzs,I.base.tbls⟩,⟨_,hn',λj y v' e1 e2 e3=>?_⟩,λy c e=>?_,I.free,I.freeC,λp hp=>?_,λb ob e=>?_,by rw[QC];exact I.len⟩
 .obtain⟨sl,e1⟩:=I.base.slot b o e n hb hx;exact⟨sl,(hs.2 b (ne b o e)).trans e1⟩
 .obtain⟨o',e1⟩:=I.base.there b o e hx;exact⟨o',(hs.2 b (ne b o e)).trans e1⟩
 .have hj:j≠i:=λz=>by
   subst z;rw[Vx] at e2
   split at e2
   .split at e2 <;> cases e2
   .rename_i w;exact absurd rfl w
  rw[QK (QN hj)] at e2;obtain⟨u,r,l⟩:=hl j y v' e1 e2 e3
  have yn:y≠n:=λz=>by
   subst z;obtain⟨h1,g1⟩:=Qk.mp e1;obtain⟨h2,g2⟩:=Qk.mp hi;exact hj ((V8 hN).mp (g1.trans g2.symm))
  refine⟨u,r,?_⟩;rcases l with ⟨k,l⟩|⟨k,c,e,z⟩
  .exact .inl ⟨k,(TB yn).trans l⟩
  .exact .inr ⟨k,c,e,ck y c e _ z⟩
 .obtain⟨v,z⟩:=I.cell y c e;exact⟨v,ck y c e v z⟩
 .obtain⟨e,n,nl,r⟩:=I.pin p hp;exact⟨(hs.2 p.1 nl).trans e,n,nl,r⟩
 .refine(I.hok b ob e).stay (λc w' hc q=>(hs.2 c ?_).trans q) (λ_ q=>q) λ_ _ q=>q;rintro rfl;rcases hc with rfl|hc
  .rw[I.free] at e;cases e
  .rw[I.free] at hc;cases hc
theorem zkt{M:Model}{A:U9}{E:Ut->Ux->Prop}{K:Qa}{a C CL:Addr}{o:Obj}{b:Bool}{Q:Bool->Ux->Prop}(X:K.In s.heap)(ha:s.heap.get? a=some o)(hc:o.cls = .ref C)(ht:ZM K (.ref CL)=some (.type "type")){oc:Ut}{od:Option Addr}{cd:ClassData}{sl:Array (Option Ut)}(hl:K.lookup CL=some ⟨oc,od,.cls cd,sl⟩)
 (hm:QG K C (.ref CL)=some b) (hb:QG K CL (.type "BaseException")=some true) (q:Q b s):wpAny M A (excMatches (.ref a) (.ref CL)) Q E s:=by
 have ta:ZB M s.heap (typeOf (.ref a)) (.ref C):=by
  obtain⟨oc,od,dt,sl⟩:=o;cases hc;exact(JV ha).andThen .now
 have nt:ZB M s.heap (isInstance (.ref CL) (.type "tuple")) false:=(PySem.W.looks_typeIn X ht).andThen (PySem.W.Looks.of_pure tc_notTuple);have xb:=Jh (M:=M) X hb;have sm:=Jh (M:=M) X hm;unfold excMatches;refine Us (nt.here ?_);rw[TB Qo];refine Us (Uv ?_)
 have xc:ZB M s.heap (isExcClass (.ref CL)) true:=by
  intro A1 Q1 E1 s1 k1 z1;refine Us (Us (G7 (k1 _ _ (X _ _ hl)) (Uv ?_)));exact xb A1 Q1 E1 s1 k1 z1
 refine Us ?_;rw[JG];refine Us (Us (xc.here ?_));rw[TB (by decide)];refine Uv ?_;dsimp only;rw[JO];refine Uv (Us (ta.here (Us ?_)));rw[JG];refine Us (Us (sm.here ?_))
 cases b with
 | true=>
   rw[T0 rfl];exact Uv (Uv (Uv q))
 | false=>
   rw[TB Qo];refine Uv ?_;dsimp only;rw[JO];exact Uv (Uv q)
end
def zct(X:Cx)(a:Addr):Cx:={ X with A:=X.A.mark (some (.ref a)),calm:=false,xe:=λ_ _=>False }
section
variable {X:Cx}{pins:List (Addr×Obj)}{σ:St}{H:Hp}{s:Ux}{a:Addr}
theorem zgc(I:Inv X pins σ H s)(a:Addr):Inv (zct X a) pins σ H s :=
 ⟨⟨I.ok.mod,I.ok.kind,I.ok.glob,I.ok.blt,I.ok.above,I.ok.inj,I.ok.has,I.ok.cab,(λz=>nomatch z),I.ok.frames,I.ok.stk,I.ok.exf,I.ok.bs,I.ok.bsz,I.ok.noex,I.ok.exfs,I.ok.funs,I.ok.frf⟩,I.os,I.bare,I.base,I.loc,I.cell,I.free,I.freeC,I.pin,I.hok,I.len⟩
theorem zci(ok:X.Ok)(I:Inv (zct X a) pins σ H s):Inv X pins σ H s:=⟨ok,I.os,I.bare,I.base,I.loc,I.cell,I.free,I.freeC,I.pin,I.hok,I.len⟩
theorem Inv.track(I:Inv X pins σ H s)(n:H a=none)(sz:X.s₀.heap.objs.size<=a)(nl:a≠X.env.locals)(nc:∀x c,X.env.cells.lookup x=some c->c≠a)(np:∀p∈X.pn++pins,p.1≠a)(new:ObjOk X.prog X.w (upd H a o) s.heap a o):Inv X pins σ (upd H a o) s:=by
 have ne:∀b u,H b=some u->b≠a:=λb u e z=>by rw[z,n] at e;cases e
 have n0:∀b o,X.s₀.heap.get? b=some o->b≠a:=λb o e z=>absurd (Qg e) (Z3.mpr (z ▸ sz));refine⟨I.ok,I.os,I.bare,⟨I.base.keep,I.base.slot,λb o g m hx=>by rw[zae (n0 b o g)];exact I.base.free b o g m hx,I.base.there,λb xs q=>?_,λb o u q=>?_,λb ps q=>?_⟩,I.loc,I.cell,by rw[zae (QN nl)];exact I.free,λy c e=>by rw[zae (nc y c e)];exact I.freeC y c e,λp hp=>?_,λb u q=>?_,I.len⟩
 .have:=I.base.tups b xs q;rw[zae (ne b _ this)];exact this
 .have:=I.base.frzs b o u q;rw[zae (ne b _ this)];exact this
 .obtain⟨mo,this⟩:=I.base.tbls b ps q;exact⟨mo,by rw[zae (ne b _ this)];exact this⟩
 .obtain⟨a1,a2,a3⟩:=I.pin p hp;exact⟨a1,by rw[zae (np p hp)];exact a2,a3⟩
 .by_cases z:b=a
  .subst z;rw[zaj] at q;cases q;exact new
  .rw[zae z] at q;exact(I.hok b u q).stay (λc u _ g=>g) (λc r=>by rw[zae (ne c _ r)];exact r) λc xs r=>by rw[zae (ne c _ r)];exact r
def XR(a C dx:Addr):HO:=.ext λh=>∃o vs,h.get? a=some o/\o.cls = .ref C/\o.dict=some dx/\o.data = .fields vs/\(vs[2]? = some .none\/chA (.ref C))
def zde(X:Cx)(pins:List (Addr×Obj))(σ:St)(E:XK):Prop:=∀H s e s',Inv X pins σ H s->CX1 X.prog X.w X.stack H s E e s'->X.xe e s'
def PSsf(X:Cx)(pins:List (Addr×Obj))(σ:St)(ss:List Stmt)(t:TS):Prop:=∀s H D,Inv X pins σ H s->t D σ H->wpAny (model X.prog X.w) X.A (execs ss X.env) (SP X pins D) X.xe s
def offE(i:Nat)(D:Ends):Ends:={ nx:=λσ2 H2=>D.nx (σ2.set i none) H2,rt:=D.rt,bk:=λσ2 H2=>D.bk (σ2.set i none) H2,ct:=λσ2 H2=>D.ct (σ2.set i none) H2 }
def zod(K:Qa)(CL:Addr)(i:Nat)(ts:TS)(D:Ends)(σ:St):XK:=λCv dxo H'=>∃C dx,Cv = .ref C/\dxo=some dx/\QG K C (.ref CL)=some true/\∀a,H' a=none->ts (offE i D) (σ.set i (some (.ref a))) (upd H' a (XR a C dx))
def zn8(K:Qa)(CL:Addr)(i:Nat)(tb:XK->TS)(ts:TS):TS:=λD σ H=>tb (zod K CL i ts D σ) D σ H
structure CatchC(K:Qa)(CL:Addr):Prop where
 ty:ZM K (.ref CL)=some (.type "type")
 cls:∃oc od cd sl,K.lookup CL=some ⟨oc,od,.cls cd,sl⟩
 base:QG K CL (.type "BaseException")=some true
theorem zsd{body:List Stmt}{suite:List Stmt}{hpos:Pos}{i:Nat}(hst:X.stack=X.env::X.outer)(hfr:X.env.frame=some X.env.locals)(hg:Gl X cx)(hm:X.mg cx=some (.ref CL))(cc:CatchC X.K CL)
 (hN:X.N.Nodup) (hi:X.N[i]? = some n) (hk:X.env.scope.names.lookup n=some .local)
 (hb:∀pins σ E W,zde (X.wish W) pins σ E->PSsf (X.wish W) pins σ body (tb E)) (hs:∀a,PSs (zct X a) (s0::suite) ts) (hdb:(cx == ("__debug__" : Str))=false:=by decide) :
 PS X (.Try body [.ExceptHandler (some (.Name cx np)) (some n) (s0::suite) hpos] [] [] pos) (zn8 X.K CL i tb ts):=by
 intro pins s σ H D I h;refine wpAny_Try_except ?_;refine U2 (hb pins σ (zod X.K CL i ts D σ) (λe s1=>∃H1 s0,Inv X pins σ H1 s0/\CX1 X.prog X.w X.stack H1 s0 (zod X.K CL i ts D σ) e s1) (λH1 s0 e s' I0 q=>⟨H1,s0,I0.unwish,q⟩) s H D (I.wish _) h) (λf s1 z=>?_) λe s1 z=>?_
 .have z':=SP.unwish z
  cases f with
  | next=>exact UL z'
  | brk=>exact z'
  | cont=>exact z'
  | ret u=>exact z'
 .obtain⟨H1,s0',I0,a,C,dx,T,H',rfl,os,bare,un,hok,F,na,fa,hT,C',dx',e1,e2,mr,hq⟩:=z;cases e1;cases e2;have I1:Inv X pins σ H' s1:=I0.call' os un hok bare (λb z=>absurd z (by simp));have fr0:X.A.frames=some (X.env::X.outer):=by rw[I.ok.frames,hst]
  have st0:s1.heap.FunFrames X.base (X.env::X.outer):=by have:=I1.stack;rwa [hst] at this
  have fresh:∀b,s0'.heap.objs.size<=b->(b∈X.ex\/X.s₀.heap.objs.size<=b)/\b≠X.env.locals/\(∀x c,X.env.cells.lookup x=some c->c≠b)/\∀p∈X.pn++pins,p.1≠b:=λb hb=>by
   refine⟨.inr (Q5 I0.sz hb),λz=>?_,λx c e z=>?_,λp hp z=>?_⟩
   .exact absurd I0.lt (Z3.mpr (z ▸ hb))
   .obtain⟨v,o,ho,_⟩:=I0.cell x c e;exact absurd (Qg ho) (Z3.mpr (z ▸ hb))
   .exact absurd (Qg (I0.pin p hp).1) (Z3.mpr (z ▸ hb))
  have bT:∀t,T=some t->X.base.get? t=none:=λt z=>by
   cases g:X.base.get? t with
   | none=>rfl
   | some o=>exact absurd (Qg (I0.bk t o g)) (Z3.mpr (hT t z).2)
  refine zhw fr0 st0 hfr bT F λh2 t2 F2 nt2 W2 fr2=>?_;have frn:∀b∈frs (X.env::X.outer),H' b=none:=by have:=I1.stkFree;rwa [hst] at this
  have hok2:=W2.hok I1.hok na (λt z=>(hT t z).1) frn
  have I2:Inv X pins σ H' { s1 with heap:=h2 }:=by
   refine I1.call (g':=s1.gens) (d':=s1.drawn) (t':=s1.toks) (ch:=a::T.toList) (by rw[hst];exact W2.un) hok2 I1.bare λb hb=>?_;rcases Q3.mp hb with rfl|hb
   .exact fresh b fa
   .cases T with
    | none=>cases hb
    | some t=>rw[Qn.mp hb];exact fresh t (hT t rfl).2
  obtain⟨oc,od,cd,sl,hl⟩:=cc.cls;obtain⟨oe,vs,ge,ce,xe,de,ze,_,_⟩:=F2.obj;have I2m:=zgc I2 a;refine wpAny_handleBy_cons (GP (zcn (X:=zct X a) I2m hg hm (zkt (K:=X.K) I2.kIn ge ce cc.ty hl mr cc.base ?_) hdb)) (λz=>nomatch z);show Gi _ _ _ _ _;refine GA (zmj F2 λh3 F3 k3=>?_);obtain⟨oe3,vs3,ge3,ce3,xe3,de3,ze3,_,ch3⟩:=F3.obj;have n2:H' t2=none:=I1.hok.fresh nt2
  have fresh1:∀b,s1.heap.objs.size<=b->(b∈X.ex\/X.s₀.heap.objs.size<=b)/\b≠X.env.locals/\(∀x c,X.env.cells.lookup x=some c->c≠b)/\∀p∈X.pn++pins,p.1≠b:=λb hb=>by
   refine⟨.inr (Q5 I1.sz hb),λz=>?_,λx c e z=>?_,λp hp z=>?_⟩
   .exact absurd I1.lt (Z3.mpr (z ▸ hb))
   .obtain⟨v,o,ho,_⟩:=I1.cell x c e;exact absurd (Qg ho) (Z3.mpr (z ▸ hb))
   .exact absurd (Qg (I1.pin p hp).1) (Z3.mpr (z ▸ hb))
  have I3:Inv X pins σ H' { s1 with heap:=h3 }:=by
   refine Inv.call (s:={ s1 with heap:=h2 }) (h':=h3) (H':=H') I2 (g':=s1.gens) (d':=s1.drawn) (t':=s1.toks) (ch:=[t2]) ⟨λb o g m _ hx=>k3 b o (λz=>hx (by rw[z];exact Qn.mpr rfl)) g,λb o g m _ hx=>⟨o.slots,k3 b o (λz=>hx (by rw[z];exact Qn.mpr rfl)) g⟩,λb o g m _=>m,λb o g hx=>⟨o,k3 b o (λz=>hx (by rw[z];exact Qn.mpr rfl)) g⟩,λ_ _ q=>q,λ_ _ _ q=>q,λb ps q=>⟨#[],by rw[JI];exact q⟩⟩ (λb o q=>(I2.hok b o q).stay (λc u hc g=>k3 c u (λz=>?_) g) (λ_ z=>z) λ_ _ z=>z) I2.bare λb hb=>by rw[Qn.mp hb];exact fresh1 t2 nt2
   rcases hc with rfl|hc
   .rw[z,n2] at q;cases q
   .rw[z,n2] at hc;cases hc
  obtain⟨x1,x2,x3,x4⟩:=fresh a fa;have I4:Inv X pins σ (upd H' a (XR a C dx)) { s1 with heap:=h3 }:=Inv.track I3 na (Q5 I0.sz fa) x2 x3 x4 ⟨⟨oe3,vs3,ge3,ce3,xe3,de3,ch3⟩,⟨_,ge3⟩,λg1 g2 ⟨o,vs,z1,z2⟩ k=>⟨o,vs,k _ z1,z2⟩⟩;refine zcv (X:=zct X a) (v:=.ref a) (zgc I4 a) hN hi (.inl hk) rfl (λs4 I5=>?_) (.inr hk);refine U2 (hs a pins s4 _ _ (offE i D) I5 (hq a na)) (λf s5 z=>?_) λ_ _ z=>z.elim;show wpAny _ _ _ _ _ _
  cases f with
  | next=>obtain⟨σ2,H2,J,q⟩:=z;exact zee (zci I.ok J) hN hi hk λs6 J6=>⟨_,H2,J6,q⟩
  | brk=>obtain⟨σ2,H2,J,q⟩:=z;exact zee (zci I.ok J) hN hi hk λs6 J6=>⟨_,H2,J6,q⟩
  | cont=>obtain⟨σ2,H2,J,q⟩:=z;exact zee (zci I.ok J) hN hi hk λs6 J6=>⟨_,H2,J6,q⟩
  | ret u=>obtain⟨v,σ2,H2,J,r,q⟩:=z;exact zee (zci I.ok J) hN hi hk λs6 J6=>⟨v,_,H2,J6,r,q⟩
end
mutual
inductive Is(K:Qa)(F:Addr->Prop)(H:Hp):V->Uu->Prop
 | none:Is K F H .non .none
 | bool (b):Is K F H (.bl b) (.bool b)
 | int (i):Is K F H (.int i) (.int i)
 | str (x):Is K F H (.str x) (.str x)
 | list {a xs ds}:F a->H a=some (.lst xs)->IsAll K F H xs ds->Is K F H (.ref a) (.list ds)
 | tuple {a xs ds}:SqT K H a xs->IsAll K F H xs ds->Is K F H (.ref a) (.tuple ds)
inductive IsAll(K:Qa)(F:Addr->Prop)(H:Hp):List V->List Uu->Prop
 | nil:IsAll K F H [] []
 | cons {v vs d ds}:Is K F H v d->IsAll K F H vs ds->IsAll K F H (v::vs) (d::ds)
end
section
variable {K:Qa}{F F':Addr->Prop}{H H':Hp}
mutual
theorem Is.to(hL:∀a xs,F a->H a=some (.lst xs)->F' a/\H' a=some (.lst xs))(hT:∀a xs,SqT K H a xs->SqT K H' a xs):∀{v d},Is K F H v d->Is K F' H' v d
 | _,_,.none=>.none
 | _,_,.bool b=>.bool b
 | _,_,.int i=>.int i
 | _,_,.str x=>.str x
 | _,_,.list f q r=>.list (hL _ _ f q).1 (hL _ _ f q).2 (IsAll.to hL hT r)
 | _,_,.tuple q r=>.tuple (hT _ _ q) (IsAll.to hL hT r)
theorem IsAll.to(hL:∀a xs,F a->H a=some (.lst xs)->F' a/\H' a=some (.lst xs))(hT:∀a xs,SqT K H a xs->SqT K H' a xs):∀{vs ds},IsAll K F H vs ds->IsAll K F' H' vs ds
 | _,_,.nil=>.nil
 | _,_,.cons r t=>.cons (Is.to hL hT r) (IsAll.to hL hT t)
end
theorem IsAll.length:∀{vs ds},IsAll K F H vs ds->vs.length=ds.length
 | _,_,.nil=>rfl
 | _,_,.cons _ t=>by rw[Qj,Qj,IsAll.length t]
theorem IsAll.get:∀{vs ds} {i:Nat} {d},IsAll K F H vs ds->ds[i]? = some d->∃v,vs[i]? = some v/\Is K F H v d
 | _,_,_,_,.nil,e=>by simp at e
 | _,_,0,_,.cons r _,e=>by simp at e;subst e;exact⟨_,rfl,r⟩
 | _,_,i+1,d,.cons _ t,e=>by
   obtain⟨v,h1,h2⟩:=IsAll.get (i:=i) (d:=d) t (by simpa using e);exact⟨v,by simpa using h1,h2⟩
theorem IsAll.append:∀{vs ds ws es},IsAll K F H vs ds->IsAll K F H ws es->IsAll K F H (vs++ws) (ds++es)
 | _,_,_,_,.nil,s=>s
 | _,_,_,_,.cons r t,s=>.cons r (IsAll.append t s)
theorem IsAll.snoc{vs ds v d}(h:IsAll K F H vs ds)(r:Is K F H v d):IsAll K F H (vs ++ [v]) (ds ++ [d]):=h.append (.cons r .nil)
theorem IsAll.take:∀{vs ds} (n:Nat),IsAll K F H vs ds->IsAll K F H (vs.take n) (ds.take n)
 | _,_,0,_=>.nil
 | _,_,_+1,.nil=>.nil
 | _,_,n+1,.cons r t=>.cons r (IsAll.take n t)
theorem IsAll.drop:∀{vs ds} (n:Nat),IsAll K F H vs ds->IsAll K F H (vs.drop n) (ds.drop n)
 | _,_,0,r=>r
 | _,_,_+1,.nil=>.nil
 | _,_,n+1,.cons _ t=>IsAll.drop n t
end
def SameB(M:Addr->Prop)(H H':Hp):Prop:=∀a o,H a=some o->¬M a->H' a=some o
theorem SameB.refl(M:Addr->Prop)(H:Hp):SameB M H H:=λ_ _ h _=>h
theorem SameB.trans(a:SameB M H H1)(b:SameB M H1 H2):SameB M H H2:=λc o h n=>b c o (a c o h n) n
theorem SameB.of(s:Same H H'):SameB M H H':=λa o h _=>s a o h
theorem SameB.free(e:SameB M H H')(hm:¬M l)(h:H' l=J1):H l=J1:=by
 cases q:H l with
 | none=>rfl
 | some o=>rw[e l o q hm] at h;cases h
def TupStay(H H':Hp):Prop:=∀a u,(∃xs,u=HO.tup xs\/∃o,u=HO.frz o (.tup xs))->H a=some u->H' a=some u
theorem SqT.stay{K:Qa}{H H':Hp}{a:Addr}{xs:List V}(e:TupStay H H')(h:SqT K H a xs):SqT K H' a xs:=by
 rcases h with (h|⟨o,h⟩)|h
 .exact .inl (.inl (e _ _ ⟨xs,.inl rfl⟩ h))
 .exact .inl (.inr ⟨o,e _ _ ⟨xs,.inr ⟨o,rfl⟩⟩ h⟩)
 .exact .inr h
structure Ob where
 M:Addr->Prop
 P:Hp->Prop
 v:V
structure Ob.Ok(O:Ob):Prop where
 loc:∀H H',(∀a,O.M a->H' a=H a)->O.P H->O.P H'
 mutb:∀H a o,O.P H->H a=some o->O.M a->(∀xs,o≠.tup xs)/\∀q u,o≠.frz q u
 here:∀H a,O.P H->O.M a->∃o,H a=some o
theorem Ob.Ok.grow{O:Ob}(ok:O.Ok)(H H':Hp)(s:Same H H')(p:O.P H):O.P H':=ok.loc H H' (λa m=>by
 obtain⟨o,e⟩:=ok.here H a p m
 rw[e,s a o e]) p
def Ob.plus(O:Ob)(D:Addr)(u:HO):Ob:=⟨λa=>O.M a\/a=D,λH=>O.P H/\H D=some u,O.v⟩
theorem Ob.Ok.plus{O:Ob}(ok:O.Ok)(D:Addr)(xs:List V):(O.plus D (.lst xs)).Ok :=
 ⟨λH H' e p=>⟨ok.loc H H' (λa m=>e a (.inl m)) p.1,(e D (.inr rfl)).trans p.2⟩,
  λH a o p e m=>by
   rcases m with m|rfl
   .exact ok.mutb H a o p.1 e m
   .rw[p.2] at e;cases e;exact⟨λ_ h=>(by cases h),λ_ _ h=>(by cases h)⟩,
  λH a p m=>by
   rcases m with m|rfl
   .exact ok.here H a p.1 m
   .exact⟨_,p.2⟩⟩
structure Stp(O:Ob)(H H':Hp):Prop where
 s:SameB O.M H H'
 p:O.P H->O.P H'
 t:TupStay H H'
theorem Stp.refl(O:Ob)(H:Hp):Stp O H H:=⟨.refl _ _,λh=>h,λ_ _ _ h=>h⟩
theorem Stp.trans(a:Stp O H H1)(b:Stp O H1 H2):Stp O H H2:=⟨a.s.trans b.s,λh=>b.p (a.p h),λc u hu h=>b.t c u hu (a.t c u hu h)⟩
theorem Stp.same(ok:O.Ok)(s:Same H H'):Stp O H H':=⟨.of s,ok.grow H H' s,λa u _ h=>s a u h⟩
theorem same_new(h:H p=none)(o:HO):Same H (upd H p o):=λb u q=>by rw[zae (zcg q h)];exact q
theorem Stp.new{O:Ob}(ok:O.Ok){H:Hp}{p:Addr}(h:H p=none)(o:HO):Stp O H (upd H p o):=.same ok (same_new h o)
section
variable {K:Qa}{O:Ob}{F F':Addr->Prop}{H H':Hp}{v:V}{d:Uu}
theorem Is.stp(s:Stp O H H')(hF:∀a,F a->F' a)(hM:∀a,F a->¬O.M a)(h:Is K F H v d):Is K F' H' v d :=
 h.to (λa xs f q=>⟨hF a f,s.s a _ q (hM a f)⟩) λa xs q=>SqT.stay (h:=q) s.t
theorem IsAll.stp(s:Stp O H H')(hF:∀a,F a->F' a)(hM:∀a,F a->¬O.M a)(h:IsAll K F H vs ds):IsAll K F' H' vs ds :=
 h.to (λa xs f q=>⟨hF a f,s.s a _ q (hM a f)⟩) λa xs q=>SqT.stay (h:=q) s.t
theorem Is.weak(h:Is K F H v d)(hF:∀a,F a->F' a):Is K F' H v d:=h.to (λa xs f q=>⟨hF a f,q⟩) λa xs q=>q
theorem IsAll.weak(h:IsAll K F H vs ds)(hF:∀a,F a->F' a):IsAll K F' H vs ds:=h.to (λa xs f q=>⟨hF a f,q⟩) λa xs q=>q
end
mutual
def flat:Uu->Bool
 | .none=>true
 | .bool _=>true
 | .int _=>true
 | .str _=>true
 | .tuple ds=>flats ds
 | _=>false
def flats:List Uu->Bool
 | []=>true
 | d::ds=>flat d && flats ds
end
mutual
theorem Is.flat{K:Qa}{F F':Addr->Prop}{H H':Hp}(t:TupStay H H'):∀{v d},Is K F H v d->L3.flat d=true->Is K F' H' v d
 | _,_,.none,_=>.none
 | _,_,.bool b,_=>.bool b
 | _,_,.int i,_=>.int i
 | _,_,.str x,_=>.str x
 | _,_,.list _ _ _,h=>by simp[L3.flat] at h
 | _,_,.tuple q r,h=>.tuple (SqT.stay t q) (IsAll.flats t r (by simpa[L3.flat] using h))
theorem IsAll.flats{K:Qa}{F F':Addr->Prop}{H H':Hp}(t:TupStay H H'):∀{vs ds},IsAll K F H vs ds->L3.flats ds=true->IsAll K F' H' vs ds
 | _,_,.nil,_=>.nil
 | _,_,.cons r s,h=>by
   rw[L3.flats,Qu] at h;exact .cons (Is.flat t r h.1) (IsAll.flats t s h.2)
end
theorem TupStay.refl(H:Hp):TupStay H H:=λ_ _ _ h=>h
section
variable {X:Cx}{pins:List (Addr×Obj)}{σ:St}{H:Hp}{s:Ux}{F:Addr->Prop}
mutual
theorem Is.reads(I:Inv X pins σ H s):∀{v d} {u:Ut},Is X.K F H v d->RelV v u->∃as,Reads s.heap u d as
 | _,_,_,.none,r=>by cases r;exact⟨_,.none⟩
 | _,_,_,.bool b,r=>by cases r;exact⟨_,.bool b⟩
 | _,_,_,.int i,r=>by obtain⟨t,rfl⟩:=r;exact⟨_,.int i t⟩
 | _,_,_,.str x,r=>by obtain⟨t,rfl⟩:=r;exact⟨_,.str x t⟩
 | _,_,_,.list f q rs,r=>by
   cases r;obtain⟨its,rv,⟨o,n,e,c,_,dt⟩,_⟩:=I.list (.of q);obtain⟨as,ra⟩:=IsAll.reads I rs rv;exact⟨_,.list e c dt (by simpa using ra)⟩
 | _,_,_,.tuple q rs,r=>by
   cases r;obtain⟨its,rv,⟨o,e,c,n,dt⟩,_⟩:=I.tuple q;obtain⟨as,ra⟩:=IsAll.reads I rs rv;exact⟨_,.tuple e c dt (by simpa using ra)⟩
theorem IsAll.reads(I:Inv X pins σ H s):∀{vs ds} {us:List Ut},IsAll X.K F H vs ds->Vals vs us->∃as,ReadsAll s.heap us ds as
 | _,_,_,.nil,r=>by cases r;exact⟨_,.nil⟩
 | _,_,_,.cons h t,r=>by
   cases r with
   | cons r1 r2=>
     obtain⟨as,ra⟩:=Is.reads I h r1;obtain⟨bs,rb⟩:=IsAll.reads I t r2;exact⟨_,.cons ra rb⟩
end
end
def IsS(K:Qa)(F:Addr->Prop)(H:Hp)(v:V)(n:Nat):Prop:=∃a xs,v = .ref a/\xs.length=n/\((F a/\Rd H a (.lst xs))\/∀H',SqL K H' a xs)
theorem IsS.to{K:Qa}{F F':Addr->Prop}{H H':Hp}{v:V}{n:Nat}(hL:∀a u,F a->H a=some u->F' a/\H' a=some u)(h:IsS K F H v n):IsS K F' H' v n:=by
 obtain⟨a,xs,e,l,⟨f,q|⟨o,q⟩⟩|q⟩:=h
 .exact⟨a,xs,e,l,.inl ⟨(hL a _ f q).1,.inl (hL a _ f q).2⟩⟩
 .exact⟨a,xs,e,l,.inl ⟨(hL a _ f q).1,.inr ⟨o,(hL a _ f q).2⟩⟩⟩
 .exact⟨a,xs,e,l,.inr q⟩
def DkAt(H:Hp)(v:V)(a:Addr)(ks:List Str):Prop:=v = .ref a/\∃kvs,H a=some (.dK kvs)/\kvs.map (·.1)=ks.map Y7
theorem DkAt.to(h:DkAt H v a ks)(e:∀u,H a=some u->H' a=some u):DkAt H' v a ks:=let ⟨h1,kvs,h2,h3⟩:=h;⟨h1,kvs,e _ h2,h3⟩
inductive R where
 | o (d:Uu)
 | n (ds:List Uu)
def R.d:R->Uu
 | .o d=>d
 | .n ds=>.list ds
structure Thg where
 R:Qa->(Addr->Prop)->(Addr->Prop)->Hp->V->Prop
 to:∀{K:Qa} {F F' W W':Addr->Prop} {H H':Hp} {v:V},(∀a u,F a->H a=some u->F' a/\H' a=some u)->(∀a u,W a->H a=some u->W' a/\H' a=some u)->TupStay H H'->R K F W H v->R K F' W' H' v
inductive DV where
 | im (d:Uu)
 | own (ds:List Uu)
 | ob
 | scr (n:Nat)
 | dct (ks:List Str)
   | gen (f:Addr->List V->HO) (ds:List Uu)
   | rd (f:Addr->List V->HO) (ds:List Uu)
   | exc (C:Addr) (ns:List Str) (ds:List Uu)
   | thg (T:Thg)
   | thr (T:Thg)
abbrev DSt:=List (Option DV)
abbrev DE:=DSt->(R->Prop)->Prop
abbrev DT:=DSt->(Bool->Prop)->Prop
abbrev DA:=DSt->(List Uu->Prop)->Prop
def unM(O:Ob):Addr->Prop:=λa=>¬O.M a
def ExAt(F:Addr->Prop)(H:Hp)(v:V)(C:Addr)(ns:List Str)(xs:List V):Prop:=∃a dx,v = .ref a/\F a/\F dx/\H a=some (XR a C dx)/\H dx=some (.xd (ns.zip xs))/\xs.length=ns.length
theorem ExAt.to(hL:∀a u,F a->H a=some u->F' a/\H' a=some u)(h:ExAt F H v C ns xs):ExAt F' H' v C ns xs:=by
 obtain⟨a,dx,e,f1,f2,q1,q2,l⟩:=h;exact⟨a,dx,e,(hL a _ f1 q1).1,(hL dx _ f2 q2).1,(hL a _ f1 q1).2,(hL dx _ f2 q2).2,l⟩
def SeenV(K:Qa)(O:Ob)(H:Hp)(v:V):DV->Prop
 | .im d=>Is K (unM O) H v d
 | .own ds=>Is K (unM O) H v (.list ds)
 | .ob=>v=O.v
 | .scr n=>IsS K (unM O) H v n
 | .dct ks=>∃a,¬O.M a/\DkAt H v a ks
 | .gen f ds=>∃a xs,v = .ref a/\¬O.M a/\H a=some (f a xs)/\IsAll K (unM O) H xs ds
 | .rd f ds=>∃a xs,v = .ref a/\¬O.M a/\H a=some (f a xs)/\IsAll K (unM O) H xs ds
 | .exc C ns ds=>∃xs,ExAt (unM O) H v C ns xs/\IsAll K (unM O) H xs ds
 | .thg T=>∃W:Addr->Prop,(∀a,W a->¬O.M a/\∃o,H a=some o)/\T.R K (unM O) W H v
 | .thr T=>∃W:Addr->Prop,(∀a,W a->¬O.M a/\∃o,H a=some o)/\T.R K (unM O) W H v
structure Seen(K:Qa)(O:Ob)(H:Hp)(σ:St)(ρ:DSt):Prop where
 ok:O.Ok
 p:O.P H
 at_:∀(i:Nat) r,ρ[i]? = some (some r)->∃v,σ[i]? = some (some v)/\SeenV K O H v r
 len:ρ.length=σ.length
theorem SeenV.stp{K:Qa}{O:Ob}{H H':Hp}{v:V}{r:DV}(s:Stp O H H')(h:SeenV K O H v r):SeenV K O H' v r:=by
 cases r with
 | im d=>exact Is.stp s (λ_ f=>f) (λ_ f=>f) h
 | own ds=>exact Is.stp s (λ_ f=>f) (λ_ f=>f) h
 | ob=>exact h
 | scr n=>exact IsS.to (λa u f q=>⟨f,s.s a u q f⟩) h
 | dct ks=>obtain⟨a,n,h⟩:=h;exact⟨a,n,h.to λu q=>s.s a u q n⟩
 | gen f ds=>obtain⟨a,xs,e,n,q,z⟩:=h;exact⟨a,xs,e,n,s.s a _ q n,IsAll.stp s (λ_ f=>f) (λ_ f=>f) z⟩
 | rd f ds=>obtain⟨a,xs,e,n,q,z⟩:=h;exact⟨a,xs,e,n,s.s a _ q n,IsAll.stp s (λ_ f=>f) (λ_ f=>f) z⟩
 | exc C ns ds=>obtain⟨xs,e,z⟩:=h;exact⟨xs,e.to λa u f q=>⟨f,s.s a u q f⟩,IsAll.stp s (λ_ f=>f) (λ_ f=>f) z⟩
 | thg T=>obtain⟨W,hw,z⟩:=h;exact⟨W,λa w=>⟨(hw a w).1,let ⟨o,e⟩:=(hw a w).2;⟨o,s.s a o e (hw a w).1⟩⟩,T.to (λa u f q=>⟨f,s.s a u q f⟩) (λa u w q=>⟨w,s.s a u q (hw a w).1⟩) s.t z⟩
 | thr T=>obtain⟨W,hw,z⟩:=h;exact⟨W,λa w=>⟨(hw a w).1,let ⟨o,e⟩:=(hw a w).2;⟨o,s.s a o e (hw a w).1⟩⟩,T.to (λa u f q=>⟨f,s.s a u q f⟩) (λa u w q=>⟨w,s.s a u q (hw a w).1⟩) s.t z⟩
theorem Seen.stp{K:Qa}{O:Ob}{H H':Hp}{σ:St}{ρ:DSt}(S:Seen K O H σ ρ)(s:Stp O H H'):Seen K O H' σ ρ :=
 ⟨S.ok,s.p S.p,λi r e=>let ⟨v,h1,h2⟩:=S.at_ i r e;⟨v,h1,h2.stp s⟩,S.len⟩
def Out(K:Qa)(O:Ob)(H H':Hp)(v:V):R->Prop
 | .o d=>Is K (unM O) H' v d
 | .n ds=>∃a xs,v = .ref a/\H a=none/\H' a=some (.lst xs)/\IsAll K (unM O) H' xs ds
theorem Out.is{K:Qa}{O:Ob}{H H':Hp}{v:V}{r:R}(ok:O.Ok)(p:O.P H)(h:Out K O H H' v r):Is K (unM O) H' v r.d:=by
 cases r with
 | o d=>exact h
 | n ds=>
   obtain⟨a,xs,rfl,hn,e,q⟩:=h;exact .list (λm=>by obtain⟨o,z⟩:=ok.here H a p m;rw[hn] at z;cases z) e q
def ED(K:Qa)(O:Ob)(t:TE)(f:DE):Prop :=
 ∀(σ:St) (H:Hp) (ρ:DSt) (Q:VK) (Qd:R->Prop),Seen K O H σ ρ->f ρ Qd->(∀v H' r,Stp O H H'->Out K O H H' v r->Qd r->Q v H')->t σ H Q
def TD(K:Qa)(O:Ob)(t:TT)(f:DT):Prop :=
 ∀(σ:St) (H:Hp) (ρ:DSt) (Q:Bool->Hp->Prop) (Qd:Bool->Prop),Seen K O H σ ρ->f ρ Qd->(∀b H',Stp O H H'->Qd b->Q b H')->t σ H Q
def AD(K:Qa)(O:Ob)(t:TA)(f:DA):Prop :=
 ∀(σ:St) (H:Hp) (ρ:DSt) (Q:List V->Hp->Prop) (Qd:List Uu->Prop),Seen K O H σ ρ->f ρ Qd->(∀vs H' ds,Stp O H H'->IsAll K (unM O) H' vs ds->Qd ds->Q vs H')->t σ H Q
section
variable {K:Qa}{O:Ob}
def cD(d:Uu):DE:=λ_ Q=>Q (.o d)
theorem z1i{i:Int}:ED K O (tC (.int i)) (cD (.int i)):=λσ H ρ Q Qd S h k=>k _ H (.o (.int i)) (.refl _ _) (Is.int i) h
theorem z3k: ED K O (tC (.str x)) (cD (.str x)):=λσ H ρ Q Qd S h k=>k _ H (.o (.str x)) (.refl _ _) (Is.str x) h
theorem z5z{b:Bool}:ED K O (tC (.bl b)) (cD (.bool b)):=λσ H ρ Q Qd S h k=>k _ H (.o (.bool b)) (.refl _ _) (Is.bool b) h
theorem z2p:ED K O (tC .non) (cD .none):=λσ H ρ Q Qd S h k=>k _ H (.o .none) (.refl _ _) Is.none h
def seeR:DV->Option Uu
 | .im d=>some d
 | .own ds=>some (.list ds)
 | .ob=>none
 | .scr _=>none
 | .dct _=>none
 | .gen _ _=>none
 | .rd _ _=>none
 | .exc _ _ _=>none
 | .thg _=>none
 | .thr _=>none
def vD(i:Nat):DE:=λρ Q=>∃r d,ρ[i]? = some (some r)/\seeR r=some d/\Q (.o d)
theorem z2c{i:Nat}:ED K O (tVar i) (vD i):=λσ H ρ Q Qd S h k=>by
 obtain⟨r,d,e,e2,h⟩:=h;obtain⟨v,hv,sv⟩:=S.at_ i r e;refine⟨v,hv,k _ H _ (.refl _ _) ?_ h⟩
 cases r with
 | im d'=>cases e2;exact sv
 | own ds=>cases e2;exact sv
 | ob=>cases e2
 | scr n=>cases e2
 | dct ks=>cases e2
 | gen f ds=>cases e2
 | rd f ds=>cases e2
 | exc C ns ds=>cases e2
 | thg T=>cases e2
 | thr T=>cases e2
def OpD(K:Qa)(O:Ob)(r:R2)(f:Uu->Uu->(R->Prop)->Prop):Prop :=
 ∀(H:Hp) (x y:V) (d e:Uu) (Q:VK) (Qd:R->Prop),O.Ok->O.P H->Is K (unM O) H x d->Is K (unM O) H y e->f d e Qd->(∀v H' r,Stp O H H'->Out K O H H' v r->Qd r->Q v H')->r x y H Q
theorem Out.stp(ok:O.Ok)(p:O.P H)(s1:Stp O H H1)(s2:Stp O H1 H2)(h:Out K O H H1 v r):Out K O H H2 v r:=by
 cases r with
 | o d=>exact Is.stp s2 (λ_ f=>f) (λ_ f=>f) h
 | n ds=>
   obtain⟨a,xs,rfl,hn,e,q⟩:=h;have m:¬O.M a:=λm=>by obtain⟨o,z⟩:=ok.here H a p m;rw[hn] at z;cases z
   exact⟨a,xs,rfl,hn,s2.s a _ e m,q.stp s2 (λ_ f=>f) (λ_ f=>f)⟩
theorem Out.ahead(ok:O.Ok)(p:O.P H)(s1:Stp O H H1)(h:Out K O H1 H2 v r):Out K O H H2 v r:=by
 cases r with
 | o d=>exact h
 | n ds=>
   obtain⟨a,xs,rfl,hn,e,q⟩:=h;have m:¬O.M a:=λm=>by obtain⟨o,z⟩:=ok.here H1 a (s1.p p) m;rw[hn] at z;cases z
   exact⟨a,xs,rfl,s1.s.free m hn,e,q⟩
def opDE(f:Uu->Uu->(R->Prop)->Prop)(fa fb:DE):DE:=λρ Q=>fa ρ λa=>fb ρ λb=>f a.d b.d Q
theorem zlt(hr:OpD K O r f)(ha:ED K O ta fa)(hb:ED K O tb fb):ED K O (tOp r ta tb) (opDE f fa fb):=λσ H ρ Q Qd S h k=>by
 refine ha σ H ρ _ _ S h λv H1 a s1 o1 h1=>?_;refine hb σ H1 ρ _ _ (S.stp s1) h1 λw H2 b s2 o2 h2=>?_;have p1:=s1.p S.p;refine hr H2 v w a.d b.d _ _ S.ok (s2.p p1) (Is.stp s2 (λ_ f=>f) (λ_ f=>f) (o1.is S.ok S.p)) (o2.is S.ok p1) h2 λz H3 c s3 o3 h3=>?_;exact k z H3 c ((s1.trans s2).trans s3) (Out.ahead S.ok S.p (s1.trans s2) o3) h3
def fn2(F:Uu->Uu->Option R):Uu->Uu->(R->Prop)->Prop:=λa b Q=>∃r,F a b=some r/\Q r
def bD(f:DE):DT:=λρ Q=>f ρ λr=>∃b,r.d = .bool b/\Q b
theorem zuj(h:ED K O t f):TD K O (zdm t) (bD f):=λσ H ρ Q Qd S hf k=>by
 refine h σ H ρ _ _ S hf λv H1 r s1 o1 zz=>?_;obtain⟨b,e,q⟩:=zz;have i:=o1.is S.ok S.p;rw[e] at i;cases i;exact⟨b,rfl,k b H1 s1 q⟩
theorem z0x(h:ED K O t f):TD K O (tB t) (bD f):=λσ H ρ Q Qd S hf k=>by
 refine h σ H ρ _ _ S hf λv H1 r s1 o1 zz=>?_;obtain⟨b,e,q⟩:=zz;have i:=o1.is S.ok S.p;rw[e] at i;cases i;exact⟨b,rfl,k b H1 s1 q⟩
def andT(f g:DT):DT:=λρ Q=>f ρ λb=>if b=true then g ρ Q else Q false
def orT(f g:DT):DT:=λρ Q=>f ρ λb=>if b=true then Q true else g ρ Q
def notT(f:DT):DT:=λρ Q=>f ρ λb=>Q (!b)
theorem z2b(h:TD K O t f)(h':TD K O u g):TD K O (tAnd t u) (andT f g):=λσ H ρ Q Qd S hf k=>by
 refine h σ H ρ _ _ S hf λb H1 s1 q=>?_
 cases b with
 | true=>exact h' σ H1 ρ _ _ (S.stp s1) q λc H2 s2 q2=>k c H2 (s1.trans s2) q2
 | false=>exact k false H1 s1 q
theorem z5p(h:TD K O t f)(h':TD K O u g):TD K O (tOr t u) (orT f g):=λσ H ρ Q Qd S hf k=>by
 refine h σ H ρ _ _ S hf λb H1 s1 q=>?_
 cases b with
 | false=>exact h' σ H1 ρ _ _ (S.stp s1) q λc H2 s2 q2=>k c H2 (s1.trans s2) q2
 | true=>exact k true H1 s1 q
theorem z2m(h:TD K O t f):TD K O (tNot t) (notT f):=λσ H ρ Q Qd S hf k=>h σ H ρ _ _ S hf λb H1 s1 q=>k (!b) H1 s1 q
def andV(f g:DE):DE:=λρ Q=>f ρ λr=>∃b,r.d = .bool b/\if b=true then g ρ Q else Q (.o (.bool false))
theorem zy5(h:ED K O t f)(h':ED K O u g):ED K O (zwy t u) (andV f g):=λσ H ρ Q Qd S hf k=>by
 refine h σ H ρ _ _ S hf λv H1 r s1 o1 zz=>?_;obtain⟨b,e,q⟩:=zz;have i:=o1.is S.ok S.p;rw[e] at i;cases i;refine⟨b,rfl,?_⟩
 cases b with
 | true=>exact h' σ H1 ρ _ _ (S.stp s1) q λc H2 r s2 o2 q2=>k c H2 r (s1.trans s2) (o2.ahead S.ok S.p s1) q2
 | false=>exact k (.bl false) H1 (.o (.bool false)) s1 (.bool false) q
def ifD(c:DT)(f g:DE):DE:=λρ Q=>c ρ λb=>if b=true then f ρ Q else g ρ Q
theorem z6g(hc:TD K O c fc)(h:ED K O t f)(h':ED K O u g):ED K O (tIf c t u) (ifD fc f g):=λσ H ρ Q Qd S hf k=>by
 refine hc σ H ρ _ _ S hf λb H1 s1 q=>?_
 cases b with
 | true=>exact h σ H1 ρ _ _ (S.stp s1) q λv H2 r s2 o2 q2=>k v H2 r (s1.trans s2) (o2.ahead S.ok S.p s1) q2
 | false=>exact h' σ H1 ρ _ _ (S.stp s1) q λv H2 r s2 o2 q2=>k v H2 r (s1.trans s2) (o2.ahead S.ok S.p s1) q2
def aNil:DA:=λ_ Q=>Q []
def zby(f:DE)(g:DA):DA:=λρ Q=>f ρ λr=>g ρ λds=>Q (r.d::ds)
theorem z1a:AD K O tNil aNil:=λσ H ρ Q Qd S h k=>k [] H [] (.refl _ _) .nil h
theorem zyp(h:ED K O t f)(h':AD K O u g):AD K O (za1 t u) (zby f g):=λσ H ρ Q Qd S hf k=>by
 refine h σ H ρ _ _ S hf λv H1 r s1 o1 q=>?_;refine h' σ H1 ρ _ _ (S.stp s1) q λvs H2 ds s2 o2 q2=>?_;exact k (v::vs) H2 (r.d::ds) (s1.trans s2) (.cons (Is.stp s2 (λ_ f=>f) (λ_ f=>f) (o1.is S.ok S.p)) o2) q2
def tupD(g:DA):DE:=λρ Q=>g ρ λds=>ds.length<=sizeLine/\Q (.o (.tuple ds))
def lstD(g:DA):DE:=λρ Q=>g ρ λds=>ds.length<=sizeLine/\Q (.n ds)
theorem z4r(h:AD K O u g):ED K O (tTup u) (tupD g):=λσ H ρ Q Qd S hf k=>by
 refine h σ H ρ _ _ S hf λvs H1 ds s1 o1 ⟨z,q⟩=>⟨by rw[o1.length];exact z,λp hp=>?_⟩;have s2:Stp O H1 (upd H1 p (.tup vs)):=.new S.ok hp _;exact k _ _ (.o (.tuple ds)) (s1.trans s2) (.tuple (.of zaj) (o1.stp s2 (λ_ f=>f) (λ_ f=>f))) q
theorem z3n(h:AD K O u g):ED K O (tLst u) (lstD g):=λσ H ρ Q Qd S hf k=>by
 refine h σ H ρ _ _ S hf λvs H1 ds s1 o1 ⟨z,q⟩=>⟨by rw[o1.length];exact z,λp hp=>?_⟩;have s2:Stp O H1 (upd H1 p (.lst vs)):=.new S.ok hp _;have m:¬O.M p:=λm=>by obtain⟨o,z⟩:=S.ok.here H1 p (s1.p S.p) m;rw[hp] at z;cases z
 exact k _ _ (.n ds) (s1.trans s2) ⟨p,vs,rfl,s1.s.free m hp,zaj,o1.stp s2 (λ_ f=>f) (λ_ f=>f)⟩ q
def zd3(K:Qa)(O:Ob)(r:List V->Hp->VK->Prop)(f:List Uu->(R->Prop)->Prop):Prop :=
 ∀(H:Hp) (vs:List V) (ds:List Uu) (Q:VK) (Qd:R->Prop),O.Ok->O.P H->IsAll K (unM O) H vs ds->f ds Qd->(∀v H' r,Stp O H H'->Out K O H H' v r->Qd r->Q v H')->r vs H Q
def zb6(f:List Uu->(R->Prop)->Prop)(g:DA):DE:=λρ Q=>g ρ λds=>f ds Q
theorem znm(hr:zd3 K O r f)(h:AD K O u g):ED K O (tCB r u) (zb6 f g):=λσ H ρ Q Qd S hf k=>by
 refine h σ H ρ _ _ S hf λvs H1 ds s1 o1 q=>?_;exact hr H1 vs ds _ _ S.ok (s1.p S.p) o1 q λv H2 r s2 o2 q2=>k v H2 r (s1.trans s2) (o2.ahead S.ok S.p s1) q2
def fn1(F:List Uu->Option R):List Uu->(R->Prop)->Prop:=λds Q=>∃r,F ds=some r/\Q r
end
abbrev DG:=Uu->DSt->(DSt->Prop)->Prop
def gN(i:Nat):DG:=λd ρ Q=>Q (ρ.set i (some (.im d)))
def gTD:List Nat->List Uu->DSt->(DSt->Prop)->Prop
 | [],[],ρ,Q=>Q ρ
 | i::is,d::ds,ρ,Q=>gTD is ds (ρ.set i (some (.im d))) Q
 | _,_,_,_=>False
def gT(is:List Nat):DG:=λd ρ Q=>∃ds,d = .tuple ds/\gTD is ds ρ Q
def GS(K:Qa)(O:Ob)(t:TG)(g:DG):Prop :=
 ∀(σ:St) (H:Hp) (ρ:DSt) (v:V) (d:Uu) (Q:St->Hp->Prop) (Qd:DSt->Prop),Seen K O H σ ρ->Is K (unM O) H v d->g d ρ Qd->(∀σ' ρ',Seen K O H σ' ρ'->Qd ρ'->Q σ' H)->t v σ H Q
section
variable {K:Qa}{O:Ob}
theorem Seen.set{i:Nat}(S:Seen K O H σ ρ)(h:SeenV K O H v r):Seen K O H (σ.set i (some v)) (ρ.set i (some r)):=by
 have hl:=S.len;refine⟨S.ok,S.p,λj r' e=>?_,by rw[QC,QC];exact S.len⟩
 by_cases hj:i=j
 .subst hj
  have hi:i<ρ.length:=by
   rcases J5 i ρ.length with z|z
   .exact z
   .rw[QV (by simpa using z)] at e;cases e
  rw[QE hi] at e;cases e;exact⟨v,QE (by lia),h⟩
 .rw[QK hj] at e;obtain⟨w,h1,h2⟩:=S.at_ j r' e;exact⟨w,by rw[QK hj];exact h1,h2⟩
theorem zyz{i:Nat}:GS K O (za9 i) (gN i):=λσ H ρ v d Q Qd S i h k=>k _ _ (S.set (r:=.im d) i) h
def GSs(K:Qa)(O:Ob)(t:TGs)(is:List Nat):Prop :=
 ∀(σ:St) (H:Hp) (ρ:DSt) (vs:List V) (ds:List Uu) (Q:St->Hp->Prop) (Qd:DSt->Prop),Seen K O H σ ρ->IsAll K (unM O) H vs ds->gTD is ds ρ Qd->(∀σ' ρ',Seen K O H σ' ρ'->Qd ρ'->Q σ' H)->t vs σ H Q
theorem z0i:GSs K O gNil []:=λσ H ρ vs ds Q Qd S i h k=>by
 cases i with
 | nil=>exact⟨rfl,k σ ρ S h⟩
 | cons _ _=>exact h.elim
theorem zv2{i:Nat}{is:List Nat}(ht:GSs K O t is):GSs K O (zey (za9 i) t) (i::is):=λσ H ρ vs ds Q Qd S h q k=>by
 cases h with
 | nil=>exact q.elim
 | cons h1 h2=>exact⟨_,_,rfl,ht _ H _ _ _ _ _ (S.set (r:=.im _) h1) h2 q k⟩
theorem zff:∀{is:List Nat} {ds:List Uu} {ρ:DSt} {Q:DSt->Prop},gTD is ds ρ Q->ds.length=is.length
 | [],[],_,_,_=>rfl
 | [],_::_,_,_,h=>h.elim
 | _::_,[],_,_,h=>h.elim
 | _::is,_::ds,ρ,Q,h=>by
   have e:=zff (is:=is) (ds:=ds) (Q:=Q) h;rw[Qj,Qj,e]
theorem z2g{is:List Nat}{n:Nat}(hn:is.length=n)(ht:GSs K O t is):GS K O (gTup K n t) (gT is):=λσ H ρ v d Q Qd S i h k=>by
 obtain⟨ds,rfl,h⟩:=h
 cases i with
 | tuple q r=>exact⟨_,_,rfl,q,by rw[r.length,zff h];exact hn,ht σ H ρ _ ds Q Qd S r h k⟩
structure Walk(K:Qa)(O:Ob)(H H1:Hp)(J:It)(ds:List Uu)(B:Addr->Prop):Prop where
 st:Stp O H H1
 hb:∀a,B a->¬O.M a/\∃o,H1 a=some o
 stop:∀H2 i,(∀a o,B a->H1 a=some o->H2 a=some o)->TupStay H1 H2->ds.length<=i->J.stop i H2
 item:∀H2 i d,(∀a o,B a->H1 a=some o->H2 a=some o)->TupStay H1 H2->ds[i]? = some d->(flat d=true\/∀a o,H1 a=some o->¬O.M a->H2 a=some o) ->
  J.go i H2/\∀x H3,J.yld i H2 x H3->Same H2 H3/\Is K (λa=>¬O.M a/\(flat d=true\/∃o,H1 a=some o)) H3 x d
abbrev DI:=DSt->(Bool->List Uu->Prop)->Prop
def SrcS(K:Qa)(O:Ob)(wi:TI)(f:DI):Prop :=
 ∀(σ:St) (H:Hp) (ρ:DSt) (R:It->Hp->Prop) (Qd:Bool->List Uu->Prop),Seen K O H σ ρ->f ρ Qd ->
   (∀(J:It) (H1:Hp) (ds:List Uu) (B:Addr->Prop) (fr:Bool),Walk K O H H1 J ds B->(fr=true->∀a,B a->H a=none)->Qd fr ds->R J H1)->wi σ H R
end
def zbg(h:Nat)(g:DG)(ft:DT)(fe:DE)(ρ:DSt)(Q:List Uu->Prop):List Uu->List Uu->Prop
 | [],acc=>Q acc
 | d::ds,acc=>g d (Qv h none++ρ) λρ2=>ft ρ2 λb=>if b=true then fe ρ2 λr=>acc.length<sizeLine/\zbg h g ft fe ρ Q ds (acc ++ [r.d]) else zbg h g ft fe ρ Q ds acc
def zq6(h:Nat)(f:DI)(g:DG)(ft:DT)(fe:DE):DE:=λρ Q=>f ρ λ_ ds=>zbg h g ft fe ρ (λes=>Q (.n es)) ds []
section
variable {K:Qa}{O:Ob}
theorem zvz(S:Seen K O H σ ρ)(h:Nat):Seen K O H (Qv h none++σ) (Qv h none++ρ):=by
 refine⟨S.ok,S.p,λi r e=>?_,by rw[Qf,Qf,QU,QU,S.len]⟩
 by_cases hi:i<h
 .rw[QW (by simpa using hi),Zz,T0 hi] at e;cases e
 .rw[Z1 (by simpa using JU hi),QU] at e;obtain⟨v,h1,h2⟩:=S.at_ _ r e;exact⟨v,by rw[Z1 (by simpa using JU hi),QU];exact h1,h2⟩
theorem ztz(S:Seen K O H σ ρ)(hD:H D=none):Seen K (O.plus D (.lst xs)) (upd H D (.lst xs)) σ ρ:=by
 have gr:Same H (upd H D (.lst xs)):=same_new hD _;refine⟨S.ok.plus D xs,⟨S.ok.grow _ _ gr S.p,zaj⟩,λi r e=>?_,S.len⟩;obtain⟨v,h1,h2⟩:=S.at_ i r e
 have go:∀d,Is K (unM O) H v d->Is K (unM (O.plus D (.lst xs))) (upd H D (.lst xs)) v d:=λd z=>
  z.to (λa ys f q=>⟨λm=>(by
   rcases m with m|rfl
   .exact f m
   .rw[hD] at q;cases q),gr _ _ q⟩) λa ys q=>SqT.stay (h:=q) λb u _ hb=>gr b u hb
 refine⟨v,h1,?_⟩
 cases r with
 | im d=>exact go d h2
 | own ds=>exact go _ h2
 | ob=>exact h2
 | scr n=>exact IsS.to (λa u f q=>⟨λm=>(by
  rcases m with m|rfl
  .exact f m
  .rw[hD] at q;cases q),gr _ _ q⟩) h2
 | dct ks=>
   obtain⟨a,n,h2⟩:=h2;refine⟨a,λm=>?_,h2.to λu q=>gr _ _ q⟩;rcases m with m|rfl
   .exact n m
   .obtain⟨_,kvs,q,_⟩:=h2;rw[hD] at q;cases q
 | gen f ds=>
   obtain⟨a,ys,e,n,q,z⟩:=h2
   refine⟨a,ys,e,λm=>?_,gr _ _ q,z.to (λa ys f q=>⟨λm=>(by
    rcases m with m|rfl
    .exact f m
    .rw[hD] at q;cases q),gr _ _ q⟩) λa ys q=>SqT.stay (h:=q) λb u _ hb=>gr b u hb⟩
   rcases m with m|rfl
   .exact n m
   .rw[hD] at q;cases q
 | rd f ds=>
   obtain⟨a,ys,e,n,q,z⟩:=h2
   refine⟨a,ys,e,λm=>?_,gr _ _ q,z.to (λa ys f q=>⟨λm=>(by
    rcases m with m|rfl
    .exact f m
    .rw[hD] at q;cases q),gr _ _ q⟩) λa ys q=>SqT.stay (h:=q) λb u _ hb=>gr b u hb⟩
   rcases m with m|rfl
   .exact n m
   .rw[hD] at q;cases q
 | exc C ns ds=>
   obtain⟨ys,e,z⟩:=h2
   have mv:∀a u,unM O a->H a=some u->unM (O.plus D (.lst xs)) a/\upd H D (.lst xs) a=some u:=λa u f q=>⟨λm=>(by
    rcases m with m|rfl
    .exact f m
    .rw[hD] at q;cases q),gr _ _ q⟩
   exact⟨ys,e.to mv,z.to (λa ys f q=>mv a _ f q) λa ys q=>SqT.stay (h:=q) λb u _ hb=>gr b u hb⟩
 | thg T=>
   obtain⟨W,hw,z⟩:=h2
   exact⟨W,λa w=>⟨λm=>(by
    obtain⟨n,o,q⟩:=hw a w;rcases m with m|rfl
    .exact n m
    .rw[hD] at q;cases q),let ⟨o,q⟩:=(hw a w).2;⟨o,gr _ _ q⟩⟩,T.to (λa u f q=>⟨λm=>(by
    rcases m with m|rfl
    .exact f m
    .rw[hD] at q;cases q),gr _ _ q⟩) (λa u w q=>⟨w,gr _ _ q⟩) (λb u _ hb=>gr b u hb) z⟩
 | thr T=>
   obtain⟨W,hw,z⟩:=h2
   exact⟨W,λa w=>⟨λm=>(by
    obtain⟨n,o,q⟩:=hw a w;rcases m with m|rfl
    .exact n m
    .rw[hD] at q;cases q),let ⟨o,q⟩:=(hw a w).2;⟨o,gr _ _ q⟩⟩,T.to (λa u f q=>⟨λm=>(by
    rcases m with m|rfl
    .exact f m
    .rw[hD] at q;cases q),gr _ _ q⟩) (λa u w q=>⟨w,gr _ _ q⟩) (λb u _ hb=>gr b u hb) z⟩
theorem zpx{h:Nat}(hs:SrcS K O wi f)(hg:∀O':Ob,GS K O' tg g)
 (hf:∀(D:Addr) (xs:List V),¬O.M D->TD K (O.plus D (.lst xs)) tf ft) (he:∀(D:Addr) (xs:List V),¬O.M D->ED K (O.plus D (.lst xs)) te fe):ED K O (zf1 h wi tg tf te) (zq6 h f g ft fe):=by
 intro σ H ρ Q Qd S hq k;refine hs σ H ρ _ _ S hq λJ H1 ds B fr W _ hgo D hD=>?_;have S1:=S.stp W.st;have nM:¬O.M D:=λm=>by obtain⟨o,z⟩:=S.ok.here H1 D S1.p m;rw[hD] at z;cases z
 have aD:∀a o,H1 a=some o->a≠D:=λa o e z=>by rw[z,hD] at e;cases e
 refine⟨λi m ys H2=>m=ds.length-i/\i<=ds.length/\H2 D=some (.lst ys)/\(∀a o,H1 a=some o->¬O.M a->H2 a=some o)/\TupStay H1 H2/\Seen K (O.plus D (.lst ys)) H2 σ ρ /\
  ∃acc,IsAll K (λa=>¬(O.M a\/a=D)) H2 ys acc/\zbg h g ft fe ρ (λes=>Qd (.n es)) (ds.drop i) acc,⟨ds.length,rfl,QL _,zaj,λa o e _=>by rw[zae (aD a o e)];exact e,λa u _ e=>by rw[zae (aD a u e)];exact e,ztz S1 hD,[],.nil,by simpa using hgo⟩,?_⟩
 rintro i m ys H2 ⟨rfl,hi,hDy,kp,tst,S2,acc,hacc,go⟩;refine⟨hDy,?_⟩;have kB:∀a o,B a->H1 a=some o->H2 a=some o:=λa o b e=>kp a o e (W.hb a b).1
 by_cases hlt:i<ds.length
 .right;have hd:ds[i]? = some ds[i]:=Qi hlt;rw[QX hlt] at go;obtain⟨hgo1,hy⟩:=W.item H2 i ds[i] kB tst hd (.inr kp);refine⟨hgo1,λx H3 y=>?_⟩;obtain⟨sm,ix⟩:=hy x H3 y;have st3:Stp (O.plus D (.lst ys)) H2 H3:=.same S2.ok sm;have S3:=S2.stp st3
  have ix':Is K (unM (O.plus D (.lst ys))) H3 x ds[i]:=by
   by_cases hfl:flat ds[i]=true
   .exact Is.flat (TupStay.refl H3) ix hfl
   .exact ix.weak λa ha mm=>by
     rcases mm with mm|mm
     .exact ha.1 mm
     .rcases ha.2 with z|⟨o,z⟩
      .exact hfl z
      .exact aD a o z mm
  refine hg _ _ H3 _ x ds[i] _ _ (zvz S3 h) ix' go λσ2 ρ2 Sg q=>?_;refine hf D ys nM σ2 H3 ρ2 _ _ Sg q λb H4 st4 q4=>?_;have st34:=st3.trans st4;have acc4:∀{H':Hp},Stp (O.plus D (.lst ys)) H2 H'->IsAll K (λa=>¬(O.M a\/a=D)) H' ys acc:=λst=>hacc.stp st (λ_ z=>z) (λ_ z=>z)
  cases b with
  | false=>
    refine⟨ds.length-(i+1),by lia,rfl,hlt,st34.s D _ hDy |> λz=>(st34.p S2.p).2,λa o e n=>?_,λa u hu e=>st34.t a u hu (tst a u hu e),S2.stp st34,acc,acc4 st34,q4⟩
    exact st34.s a o (kp a o e n) λmm=>by
     rcases mm with mm|mm
     .exact n mm
     .exact aD a o e mm
  | true=>
    refine he D ys nM σ2 H4 ρ2 _ _ (Sg.stp st4) q4 λyv H5 r st5 o5 zz=>?_;obtain⟨hz,q5⟩:=zz;have st25:=st34.trans st5;have S5:=S2.stp st25;have hD5:H5 D=some (.lst ys):=(st25.p S2.p).2;have iy:=o5.is (Sg.stp st4).ok (Sg.stp st4).p;have a5:=acc4 st25;refine⟨hD5,by rw[hacc.length];exact hz,ds.length-(i+1),by lia,rfl,hlt,zaj,λa o e n=>?_,λa u hu e=>?_,?_,acc ++ [r.d],?_,q5⟩
    .rw[zae (aD a o e)]
     exact st25.s a o (kp a o e n) λmm=>by
      rcases mm with mm|mm
      .exact n mm
      .exact aD a o e mm
    .rw[zae (aD a u e)];exact st25.t a u hu (tst a u hu e)
    .have p5:O.P (upd H5 D (.lst (ys ++ [yv]))):=S.ok.loc H5 _ (λa m=>zae λz=>nM (z ▸ m)) S5.p.1;refine⟨S.ok.plus D _,⟨p5,zaj⟩,λj r' e=>?_,S5.len⟩;obtain⟨v',h1,h2⟩:=S5.at_ j r' e
     have go:∀d,Is K (unM (O.plus D (.lst ys))) H5 v' d->Is K (unM (O.plus D (.lst (ys ++ [yv])))) (upd H5 D (.lst (ys ++ [yv]))) v' d:=λd z=>
      z.to (λa xs fa qa=>⟨fa,by rw[zae λz=>fa (.inr z)];exact qa⟩) λa xs qa=>SqT.stay (h:=qa) λb u hu hb=>by
       rw[zae λz=>?_]
       .exact hb
       .obtain⟨us,e1|⟨o',e1⟩⟩:=hu <;> (rw[z,hD5] at hb;cases hb;cases e1)
     refine⟨v',h1,?_⟩
     cases r' with
     | im d=>exact go d h2
     | own es=>exact go _ h2
     | ob=>exact h2
     | scr n=>exact IsS.to (λa u fa qa=>⟨fa,by rw[zae λz=>fa (.inr z)];exact qa⟩) h2
     | dct ks=>obtain⟨a,fa,h2⟩:=h2;exact⟨a,fa,h2.to λu qa=>by rw[zae λz=>fa (.inr z)];exact qa⟩
     | gen f ds=>
       obtain⟨a,xs,e,fa,q,z⟩:=h2;refine⟨a,xs,e,fa,by rw[zae λz=>fa (.inr z)];exact q,z.to (λa xs fa qa=>⟨fa,by rw[zae λz=>fa (.inr z)];exact qa⟩) λa xs qa=>SqT.stay (h:=qa) λb u hu hb=>?_⟩;rw[zae λz=>?_]
       .exact hb
       .obtain⟨us,e1|⟨o',e1⟩⟩:=hu <;> (rw[z,hD5] at hb;cases hb;cases e1)
     | rd f ds=>
       obtain⟨a,xs,e,fa,q,z⟩:=h2;refine⟨a,xs,e,fa,by rw[zae λz=>fa (.inr z)];exact q,z.to (λa xs fa qa=>⟨fa,by rw[zae λz=>fa (.inr z)];exact qa⟩) λa xs qa=>SqT.stay (h:=qa) λb u hu hb=>?_⟩;rw[zae λz=>?_]
       .exact hb
       .obtain⟨us,e1|⟨o',e1⟩⟩:=hu <;> (rw[z,hD5] at hb;cases hb;cases e1)
     | exc C ns ds=>
       obtain⟨xs,e,z⟩:=h2;have mv:∀a u,unM (O.plus D (.lst ys)) a->H5 a=some u->unM (O.plus D (.lst (ys ++ [yv]))) a/\upd H5 D (.lst (ys ++ [yv])) a=some u:=λa u fa qa=>⟨fa,by rw[zae λz=>fa (.inr z)];exact qa⟩;refine⟨xs,e.to mv,z.to (λa xs fa qa=>mv a _ fa qa) λa xs qa=>SqT.stay (h:=qa) λb u hu hb=>?_⟩;rw[zae λz=>?_]
       .exact hb
       .obtain⟨us,e1|⟨o',e1⟩⟩:=hu <;> (rw[z,hD5] at hb;cases hb;cases e1)
     | thg T=>
       obtain⟨W,hw,z⟩:=h2;refine⟨W,λa w=>⟨(hw a w).1,let ⟨o,q⟩:=(hw a w).2;⟨o,by rw[zae λz=>(hw a w).1 (.inr z)];exact q⟩⟩,T.to (λa u fa qa=>⟨fa,by rw[zae λz=>fa (.inr z)];exact qa⟩) (λa u w q=>⟨w,by rw[zae λz=>(hw a w).1 (.inr z)];exact q⟩) (λb u hu hb=>?_) z⟩;rw[zae λz=>?_]
       .exact hb
       .obtain⟨us,e1|⟨o',e1⟩⟩:=hu <;> (rw[z,hD5] at hb;cases hb;cases e1)
     | thr T=>
       obtain⟨W,hw,z⟩:=h2;refine⟨W,λa w=>⟨(hw a w).1,let ⟨o,q⟩:=(hw a w).2;⟨o,by rw[zae λz=>(hw a w).1 (.inr z)];exact q⟩⟩,T.to (λa u fa qa=>⟨fa,by rw[zae λz=>fa (.inr z)];exact qa⟩) (λa u w q=>⟨w,by rw[zae λz=>(hw a w).1 (.inr z)];exact q⟩) (λb u hu hb=>?_) z⟩;rw[zae λz=>?_]
       .exact hb
       .obtain⟨us,e1|⟨o',e1⟩⟩:=hu <;> (rw[z,hD5] at hb;cases hb;cases e1)
    .have mv:∀{vs es},IsAll K (λa=>¬(O.M a\/a=D)) H5 vs es->IsAll K (λa=>¬(O.M a\/a=D)) (upd H5 D (.lst (ys ++ [yv]))) vs es:=λz=>
      z.to (λa xs fa qa=>⟨fa,by rw[zae λz=>fa (.inr z)];exact qa⟩) λa xs qa=>SqT.stay (h:=qa) λb u hu hb=>by
       rw[zae λz=>?_]
       .exact hb
       .obtain⟨us,e1|⟨o',e1⟩⟩:=hu <;> (rw[z,hD5] at hb;cases hb;cases e1)
     exact mv (a5.snoc iy)
 .left;have e:i=ds.length:=by lia
  subst e;rw[ZR] at go;refine⟨W.stop H2 _ kB tst (Qm _),k _ H2 (.n acc) ?_ ⟨D,ys,rfl,W.st.s.free nM hD,hDy,hacc.weak λa z m=>z (.inl m)⟩ go⟩;refine W.st.trans ⟨λa o e n=>kp a o e n,λ_=>S2.p.1,tst⟩
end
section
variable {K:Qa}{O:Ob}
theorem zfl{i:Nat}{d:Uu}(h:IsAll K (unM O) H1 xs ds)(hd:ds[i]? = some d)(t:TupStay H1 H2)(c:flat d=true\/∀a o,H1 a=some o->¬O.M a->H2 a=some o):
 ∃v,xs[i]? = some v/\Is K (λa=>¬O.M a/\(flat d=true\/∃o,H1 a=some o)) H2 v d:=by
 obtain⟨v,hv,iv⟩:=h.get hd;refine⟨v,hv,?_⟩;rcases c with c|c
 .exact Is.flat t iv c
 .exact iv.to (λa ys f q=>⟨⟨f,.inr ⟨_,q⟩⟩,c a _ q f⟩) λa ys q=>SqT.stay (h:=q) t
def R.isN:R->Bool
 | .n _=>true
 | .o _=>false
def srcL(f:DE):DI:=λρ Q=>f ρ λr=>∃ds,r.d = .list ds/\Q r.isN ds
theorem zvg(h:ED K O t f):SrcS K O (zg5 K t) (srcL f):=λσ H ρ R Qd S hf k=>by
 refine h σ H ρ _ _ S hf λv H1 r st o1 zz=>?_;obtain⟨ds,e,q⟩:=zz;have i1:=o1.is S.ok S.p;rw[e] at i1
 cases i1 with
 | list f0 ha hs=>
   rename_i a xs
   refine⟨a,rfl,⟨xs,.of ha⟩,k (Itl K a) H1 ds (λb=>b=a) r.isN ⟨st,λb hb=>by subst hb;exact⟨f0,_,ha⟩,λH2 i kb _ hi=>?_,λH2 i d kb t2 hd c=>?_⟩ (λz b hb=>?_) q⟩
   .exact⟨xs,.of (kb a _ rfl ha),by rw[hs.length];exact hi⟩
   .obtain⟨w,hw,iw⟩:=zfl (O:=O) hs hd t2 c;have q2:SqL K H2 a xs:=.of (kb a _ rfl ha);refine⟨⟨xs,w,q2,hw⟩,λx H3 zz=>?_⟩;obtain⟨e3,y⟩:=zz;subst e3;have:=y xs q2;rw[hw] at this;cases this;exact⟨Same.refl _,iw⟩
   .subst hb
    cases r with
    | o d=>cases z
    | n es=>
      obtain⟨a',xs',e',hn,_⟩:=o1;cases e';exact hn
def srcT(f:DE):DI:=λρ Q=>f ρ λr=>∃ds,r.d = .tuple ds/\Q true ds
theorem z0h(h:ED K O t f):SrcS K O (iTup K t) (srcT f):=λσ H ρ R Qd S hf k=>by
 refine h σ H ρ _ _ S hf λv H1 r st o1 zz=>?_;obtain⟨ds,e,q⟩:=zz;have i1:=o1.is S.ok S.p;rw[e] at i1
 cases i1 with
 | tuple ha hs=>
   rename_i a xs
   refine⟨a,rfl,⟨xs,ha⟩,k (Itt K a) H1 ds (λ_=>False) true ⟨st,λb hb=>hb.elim,λH2 i kb t2 hi=>?_,λH2 i d kb t2 hd c=>?_⟩ (λz b hb=>hb.elim) q⟩
   .exact⟨xs,SqT.stay t2 ha,by rw[hs.length];exact hi⟩
   .obtain⟨w,hw,iw⟩:=zfl (O:=O) hs hd t2 c;have q2:SqT K H2 a xs:=SqT.stay t2 ha;refine⟨⟨xs,w,q2,hw⟩,λx H3 zz=>?_⟩;obtain⟨e3,y⟩:=zz;subst e3;have:=y xs q2;rw[hw] at this;cases this;exact⟨Same.refl _,iw⟩
def zer(lo:Int)(n:Nat):List Uu:=(ZN n).map λk=>.int (lo+(k:Nat))
theorem zb9{lo:Int}{n i:Nat}{d:Uu}(h:(zer lo n)[i]? = some d):i<n/\d = .int (lo+(i:Nat)):=by
 unfold zer at h;rw[Qs] at h
 by_cases hi:i<n
 .rw[Ye hi] at h;cases h;exact⟨hi,rfl⟩
 .rw[QV (by simpa using hi)] at h;cases h
theorem zua(st:Stp O H H1)(lo:Int)(n:Nat):Walk K O H H1 (Itr lo n) (zer lo n) (λ_=>False) :=
 ⟨st,λb hb=>hb.elim,λH2 i _ _ hi=>(show n<=i by simpa[zer] using hi),λH2 i d _ t2 hd c=>by
  obtain⟨hi,rfl⟩:=zb9 hd;refine⟨hi,λx H3 zz=>?_⟩;obtain⟨e3,y⟩:=zz;subst e3 y
  exact⟨Same.refl _,.int _⟩⟩
def zw1(g:DA):DI:=λρ Q=>g ρ λds=>∃j:Int,ds = [.int j]/\-(2 ^ 62)<=j/\j<2 ^ 62/\Q true (zer 0 j.toNat)
theorem zvf(h:AD K O t g):SrcS K O (zrl t) (zw1 g):=λσ H ρ R Qd S hf k=>by
 refine h σ H ρ _ _ S hf λvs H1 ds st is zz=>?_;obtain⟨j,e,b1,b2,q⟩:=zz;subst e
 cases is with
 | cons i0 is=>
   cases is;cases i0;exact⟨j,rfl,b1,b2,k _ H1 _ _ true (zua st 0 j.toNat) (λ_ _ hb=>hb.elim) q⟩
end
def sg(c:Nat):Str:=⟨#[c]⟩
def Its(x:Str):It:=⟨λi _=>i<x.cps.size,λi H v H'=>H'=H/\∃c,x.cps[i]? = some c/\v = .str (sg c),λi _=>x.cps.size<=i⟩
theorem zoa{P:Uy}{w:U0}{K:Qa}{tg:Expr}{it:Addr}{x:Str}{t:Tok}{ty:String}(hty:["enumerate", "zip", "dict_itemiterator", "dict_reverseitemiterator", "odict_iterator", "itertools.zip_longest", "itertools.pairwise"].contains ty=false)
 (W:∀A':U9,A'.handled=none->Walks P w A' it [it] [it] x.cps.size (SignAt x) (λi h=>h.IsStrIter it ty x t i))
 (hself:∀(A:U9) (i:Nat) (s:Ux) (Q:Ut->Ux->Prop) (E:Ut->Ux->Prop),s.heap.IsStrIter it ty x t i->Q (.ref it) s->wpAny (model P w) A (pyIter (.ref it)) Q E s) :
 Turn P w K tg (Its x) [it] it (λi h=>i<=x.cps.size/\h.IsStrIter it ty x t i) where
 mem:=by simp
 obj:=λi h st b hb=>by
  have e:b=it:=by simpa using hb
  subst e;obtain⟨_,o,e,c,d⟩:=st;exact⟨o,e,λv z=>by rw[d] at z;cases z⟩
 keep:=λi h h' st k=>⟨st.1,by
  obtain⟨_,o,e,c⟩:=st
  exact⟨o,k it (by simp) o e,c⟩⟩
 item:=by
  intro X hP hw hK hc i pins s σ H E I hf st hg;subst hP hw hK;obtain⟨f0,f1,f2,f3,f4,f5⟩:=hf it (by simp);refine(W X.A (I.ok.hd hc)).item i s _ _ hg st.2 λv h' tk hv st' kk=>?_;obtain⟨c,u,hcx,rfl⟩:=hv;have I1:Inv X pins σ H { s with heap:=h',toks:=tk }:=I.turned (λb o hb e=>kk b o (by simpa using hb) e) f0 f1 f3 f4 f5;obtain⟨o,e,hcl,hdt⟩:=id st';exact⟨_,rfl,zlw (s:={ s with heap:=h',toks:=tk }) e hcl hdt hty ⟨.str (sg c),H,I1,⟨u,rfl⟩,⟨rfl,c,hcx,rfl⟩,⟨hg,st'⟩,λb hb=>(hf b hb).1⟩⟩
 done:=by
  intro X hP hw hK hc i pins s σ H E I hf st hg;subst hP hw hK;obtain⟨f0,f1,f2,f3,f4,f5⟩:=hf it (by simp);have hi:i=x.cps.size:=Nat.le_antisymm st.1 hg;subst hi;exact(W X.A (I.ok.hd hc)).done s _ _ st.2 λh' tk kk=>⟨rfl,I.turned (λb o hb e=>kk b o (by simpa using hb) e) f0 f1 f3 f4 f5⟩
 self:=λA i s Q E st h=>hself A i s Q E st.2 h
def iStr(t:TE):TI:=λσ H R=>t σ H λv H1=>∃x,v = .str x/\R (Its x) H1
theorem z2x(hl:PE X l tl):PI X tg l (iStr tl):=by
 intro pins s σ H R I h;refine thn (hl pins s σ H _ I h) λv s1 zz=>?_;obtain⟨y,H1,I1,r1,q1⟩:=zz;obtain⟨x,e,q⟩:=q1;subst e;obtain⟨t,rfl⟩:=r1
 have fin:∀(o:Obj) (T:Nat->Heap->Prop),Turn X.prog X.w X.K tg (Its x) [s1.heap.objs.size] s1.heap.objs.size T->T 0 (s1.heap.push o)->PIE X pins σ tg R (.ref s1.heap.objs.size) { s1 with heap:=s1.heap.push o }:=λo T hT h0=>by
  refine⟨s1.heap.objs.size,[s1.heap.objs.size],T,Its x,H1,rfl,I1.kept (t':=s1.toks) λb o e=>Qc _ e,hT,h0,λb hb=>?_,q⟩;have e:b=s1.heap.objs.size:=by simpa using hb
  subst e;exact I1.fpOk (Qm _) (I1.hok.fresh (Qm _))
 cases ha:x.cps.all (· < 128)
 .exact wpAny_pyIter_wide ha (fin _ _ (zoa (by decide) (λA' hA=>Walks.strWide hA _ x t) λ_ _ _ _ _ st h=>wpAny_pyIter_striter_wide st h) ⟨QL _,_,Qt _ rfl,rfl,rfl⟩)
 .exact wpAny_pyIter_ascii ha (fin _ _ (zoa (by decide) (λA' hA=>Walks.strAscii hA _ x t) λ_ _ _ _ _ st h=>wpAny_pyIter_striter_ascii st h) ⟨QL _,_,Qt _ rfl,rfl,rfl⟩)
def sgs(x:Str):List Uu:=x.cps.toList.map λc=>.str (sg c)
def srcS(f:DE):DI:=λρ Q=>f ρ λr=>∃x,r.d = .str x/\Q true (sgs x)
theorem zx1{K:Qa}{O:Ob}{t:TE}{f:DE}(h:ED K O t f):SrcS K O (iStr t) (srcS f):=λσ H ρ R Qd S hf k=>by
 refine h σ H ρ _ _ S hf λv H1 r st o1 zz=>?_;obtain⟨x,e,q⟩:=zz;have i1:=o1.is S.ok S.p;rw[e] at i1;cases i1;refine⟨x,rfl,k (Its x) H1 (sgs x) (λ_=>False) true ⟨st,λb hb=>hb.elim,λH2 i _ _ hi=>(show x.cps.size<=i by simpa[sgs] using hi),λH2 i d _ t2 hd c=>?_⟩ (λ_ _ hb=>hb.elim) q⟩;unfold sgs at hd;rw[Qs] at hd;obtain⟨n,hn,rfl⟩:=Q4.mp hd;have hn':x.cps[i]? = some n:=by simpa using hn
 have hi:i<x.cps.size:=by
  obtain⟨z,_⟩:=ZW.mp hn';exact z
 refine⟨hi,λy H3 zz=>?_⟩;obtain⟨e3,n',h1,h2⟩:=zz;subst e3 h2;rw[hn'] at h1;cases h1;exact⟨Same.refl _,.str _⟩
structure DEnds where
 nx:DSt->Prop
 rt:R->Prop
 bk:DSt->Prop:=λ_=>False
 ct:DSt->Prop:=λ_=>False
abbrev DS:=DEnds->DSt->Prop
def unO(O:Ob)(A:Nat->Addr->Prop):Addr->Prop:=λa=>¬O.M a/\∀j,¬A j a
def OwnO(o:HO):Prop:=∀us,o≠.tup us/\∀o',o≠.frz o' (.tup us)
theorem OwnO.lst: OwnO (.lst xs):=λ_=>⟨λz=>(nomatch z),λ_ z=>(nomatch z)⟩
def RepV(K:Qa)(O:Ob)(A:Nat->Addr->Prop)(H:Hp)(i:Nat)(v:V):DV->Prop
 | .im d=>Is K (unO O A) H v d
 | .own ds=>∃a xs,v = .ref a/\A i a/\H a=some (.lst xs)/\IsAll K (unO O A) H xs ds
 | .ob=>v=O.v
 | .scr n=>IsS K (unO O A) H v n
 | .dct ks=>∃a,A i a/\DkAt H v a ks
 | .gen f ds=>∃a xs,v = .ref a/\A i a/\H a=some (f a xs)/\IsAll K (unO O A) H xs ds
 | .rd f ds=>∃a xs,v = .ref a/\unO O A a/\H a=some (f a xs)/\IsAll K (unO O A) H xs ds
 | .exc C ns ds=>∃xs,ExAt (unO O A) H v C ns xs/\IsAll K (unO O A) H xs ds
 | .thg T=>T.R K (unO O A) (A i) H v
 | .thr T=>∃W:Addr->Prop,(∀a,W a->unO O A a/\∃o,H a=some o)/\T.R K (unO O A) W H v
structure Rep(K:Qa)(O:Ob)(H₀:Hp)(A:Nat->Addr->Prop)(H:Hp)(σ:St)(ρ:DSt):Prop where
 ok:O.Ok
 p:O.P H
 p0:O.P H₀
 st:Stp O H₀ H
 dis:∀i j a,A i a->A j a->i=j
 own:∀i a,A i a->H₀ a=none/\(∃o,H a=some o/\OwnO o)/\¬O.M a
 at_:∀(i:Nat) r,ρ[i]? = some (some r)->∃v,σ[i]? = some (some v)/\RepV K O A H i v r
 len:ρ.length=σ.length
def Frm(O:Ob)(A:Nat->Addr->Prop)(H:Hp)(A':Nat->Addr->Prop)(H':Hp):Prop:=∀a o,H a=some o->unO O A a->H' a=some o/\unO O A' a
theorem Frm.refl: Frm O A H A H:=λ_ _ h u=>⟨h,u⟩
theorem Frm.trans(a:Frm O A H A1 H1)(b:Frm O A1 H1 A2 H2):Frm O A H A2 H2:=λc o h u=>let ⟨h1,u1⟩:=a c o h u;b c o h1 u1
structure Post(K:Qa)(O:Ob)(H₀:Hp)(A:Nat->Addr->Prop)(H:Hp)(D:Ends)(Dd:DEnds):Prop where
 nx:∀A' σ' H' ρ',Rep K O H₀ A' H' σ' ρ'->Frm O A H A' H'->Dd.nx ρ'->D.nx σ' H'
 bk:∀A' σ' H' ρ',Rep K O H₀ A' H' σ' ρ'->Frm O A H A' H'->Dd.bk ρ'->D.bk σ' H'
 ct:∀A' σ' H' ρ',Rep K O H₀ A' H' σ' ρ'->Frm O A H A' H'->Dd.ct ρ'->D.ct σ' H'
 rt:∀H' v r,Stp O H₀ H'->Out K O H₀ H' v r->Dd.rt r->D.rt v H'
def SD(K:Qa)(O:Ob)(t:TS)(g:DS):Prop :=
 ∀(H₀:Hp) (A:Nat->Addr->Prop) (σ:St) (H:Hp) (ρ:DSt) (D:Ends) (Dd:DEnds),Rep K O H₀ A H σ ρ->g Dd ρ->Post K O H₀ A H D Dd->t D σ H
section
variable {K:Qa}{O:Ob}{H₀ H H':Hp}{A:Nat->Addr->Prop}{σ:St}{ρ:DSt}
theorem Rep.seen(r:Rep K O H₀ A H σ ρ):Seen K O H σ ρ:=by
 refine⟨r.ok,r.p,λi x e=>?_,r.len⟩;obtain⟨v,hv,h⟩:=r.at_ i x e;refine⟨v,hv,?_⟩
 cases x with
 | im d=>exact h.weak λa u=>u.1
 | own ds=>
   obtain⟨a,xs,rfl,ha,hl,hs⟩:=h;exact .list (r.own i a ha).2.2 hl (hs.weak λa u=>u.1)
 | ob=>exact h
 | scr n=>exact IsS.to (λa u f q=>⟨f.1,q⟩) h
 | dct ks=>obtain⟨a,ha,h⟩:=h;exact⟨a,(r.own i a ha).2.2,h⟩
 | gen f ds=>obtain⟨a,xs,e,ha,q,z⟩:=h;exact⟨a,xs,e,(r.own i a ha).2.2,q,z.weak λa u=>u.1⟩
 | rd f ds=>obtain⟨a,xs,e,ha,q,z⟩:=h;exact⟨a,xs,e,ha.1,q,z.weak λa u=>u.1⟩
 | exc C ns ds=>obtain⟨xs,e,z⟩:=h;exact⟨xs,e.to λa u f q=>⟨f.1,q⟩,z.weak λa u=>u.1⟩
 | thg T=>exact⟨A i,λa w=>⟨(r.own i a w).2.2,let ⟨o,q,_⟩:=(r.own i a w).2.1;⟨o,q⟩⟩,T.to (λa u f q=>⟨f.1,q⟩) (λa u w q=>⟨w,q⟩) (TupStay.refl _) h⟩
 | thr T=>obtain⟨W,hw,z⟩:=h;exact⟨W,λa w=>⟨(hw a w).1.1,(hw a w).2⟩,T.to (λa u f q=>⟨f.1,q⟩) (λa u w q=>⟨w,q⟩) (TupStay.refl _) z⟩
theorem Rep.stp(r:Rep K O H₀ A H σ ρ)(s:Stp O H H'):Rep K O H₀ A H' σ ρ:=by
 refine⟨r.ok,s.p r.p,r.p0,r.st.trans s,r.dis,λi a ha=>?_,λi x e=>?_,r.len⟩
 .obtain⟨h0,⟨xs,hx,ho⟩,hm⟩:=r.own i a ha;exact⟨h0,⟨xs,s.s a _ hx hm,ho⟩,hm⟩
 .obtain⟨v,hv,h⟩:=r.at_ i x e;refine⟨v,hv,?_⟩
  cases x with
  | im d=>exact Is.stp s (λ_ z=>z) (λ_ z=>z.1) h
  | own ds=>
    obtain⟨a,xs,rfl,ha,hl,hs⟩:=h;exact⟨a,xs,rfl,ha,s.s a _ hl (r.own i a ha).2.2,hs.stp s (λ_ z=>z) (λ_ z=>z.1)⟩
  | ob=>exact h
  | scr n=>exact IsS.to (λa u f q=>⟨f,s.s a u q f.1⟩) h
  | dct ks=>obtain⟨a,ha,h⟩:=h;exact⟨a,ha,h.to λu q=>s.s a u q (r.own i a ha).2.2⟩
  | gen f ds=>obtain⟨a,xs,e,ha,q,z⟩:=h;exact⟨a,xs,e,ha,s.s a _ q (r.own i a ha).2.2,z.stp s (λ_ z=>z) (λ_ z=>z.1)⟩
  | rd f ds=>obtain⟨a,xs,e,ha,q,z⟩:=h;exact⟨a,xs,e,ha,s.s a _ q ha.1,z.stp s (λ_ z=>z) (λ_ z=>z.1)⟩
  | exc C ns ds=>obtain⟨xs,e,z⟩:=h;exact⟨xs,e.to λa u f q=>⟨f,s.s a u q f.1⟩,z.stp s (λ_ z=>z) (λ_ z=>z.1)⟩
  | thg T=>exact T.to (λa u f q=>⟨f,s.s a u q f.1⟩) (λa u w q=>⟨w,s.s a u q (r.own i a w).2.2⟩) s.t h
  | thr T=>obtain⟨W,hw,z⟩:=h;exact⟨W,λa w=>let ⟨f,o,q⟩:=hw a w;⟨f,o,s.s a o q f.1⟩,T.to (λa u f q=>⟨f,s.s a u q f.1⟩) (λa u w q=>⟨w,s.s a u q (hw a w).1.1⟩) s.t z⟩
theorem Frm.stp(s:Stp O H H'):Frm O A H A H':=λa o e u=>⟨s.s a o e u.1,u⟩
theorem Rep.setIm{i:Nat}{d:Uu}(r:Rep K O H₀ A H σ ρ)(h:Is K (unO O A) H v d):Rep K O H₀ (λj a=>j≠i/\A j a) H (σ.set i (some v)) (ρ.set i (some (.im d))):=by
 have un:∀a,unO O A a->unO O (λj a=>j≠i/\A j a) a:=λa u=>⟨u.1,λj z=>u.2 j z.2⟩;refine⟨r.ok,r.p,r.p0,r.st,λj k a x y=>r.dis j k a x.2 y.2,λj a x=>r.own j a x.2,λj x e=>?_,by rw[QC,QC];exact r.len⟩
 by_cases hj:i=j
 .subst hj
  have hi:i<ρ.length:=by
   rcases J5 i ρ.length with z|z
   .exact z
   .rw[QV (by simpa using z)] at e;cases e
  rw[QE hi] at e;cases e;exact⟨v,QE (by have:=r.len;lia),h.weak un⟩
 .rw[QK hj] at e;obtain⟨w,h1,h2⟩:=r.at_ j x e;refine⟨w,by rw[QK hj];exact h1,?_⟩
  cases x with
  | im d=>exact h2.weak un
  | own ds=>
    obtain⟨a,xs,rfl,ha,hl,hs⟩:=h2;exact⟨a,xs,rfl,⟨λz=>hj z.symm,ha⟩,hl,hs.weak un⟩
  | ob=>exact h2
  | scr n=>exact IsS.to (λa u f q=>⟨un a f,q⟩) h2
  | dct ks=>obtain⟨a,ha,h2⟩:=h2;exact⟨a,⟨λz=>hj z.symm,ha⟩,h2⟩
  | gen f ds=>obtain⟨a,xs,e,ha,q,z⟩:=h2;exact⟨a,xs,e,⟨λz=>hj z.symm,ha⟩,q,z.weak un⟩
  | rd f ds=>obtain⟨a,xs,e,ha,q,z⟩:=h2;exact⟨a,xs,e,un a ha,q,z.weak un⟩
  | exc C ns ds=>obtain⟨xs,e,z⟩:=h2;exact⟨xs,e.to λa u f q=>⟨un a f,q⟩,z.weak un⟩
  | thg T=>exact T.to (λa u f q=>⟨un a f,q⟩) (λa u w q=>⟨⟨λz=>hj z.symm,w⟩,q⟩) (TupStay.refl _) h2
  | thr T=>obtain⟨W,hw,z⟩:=h2;exact⟨W,λa w=>⟨un a (hw a w).1,(hw a w).2⟩,T.to (λa u f q=>⟨un a f,q⟩) (λa u w q=>⟨w,q⟩) (TupStay.refl _) z⟩
def reg(A:Nat->Addr->Prop)(i:Nat)(W:Addr->Prop):Nat->Addr->Prop:=λj b=>(j≠i/\A j b)\/(j=i/\W b)
theorem Rep.tstay{i:Nat}(r:Rep K O H₀ A H σ ρ)(stay:∀b u,H b=some u->¬A i b->H' b=some u):TupStay H H':=λb u hu hb=>stay b u hb λz=>by
 obtain⟨_,⟨o,q,ho⟩,_⟩:=r.own i b z;rw[hb] at q;cases q;obtain⟨us,e1|⟨o',e1⟩⟩:=hu
 .exact(ho us).1 e1
 .exact(ho us).2 o' e1
theorem Rep.setX{i:Nat}(r:Rep K O H₀ A H σ ρ)(s:Stp O H H1)(stay1:∀b u,H1 b=some u->¬A i b->H' b=some u)(hW:∀b,W b->(A i b\/H b=J1)/\∃o,H' b=some o/\OwnO o)
 (hR:RepV K O (reg A i W) H' i v y):Rep K O H₀ (reg A i W) H' (σ.set i (some v)) (ρ.set i (some y)):=by
 have ts1:=(r.stp s).tstay stay1;have ts:TupStay H H':=λb u hu hb=>ts1 b u hu (s.t b u hu hb);have nA:∀b,O.M b->¬A i b:=λb m z=>(r.own i b z).2.2 m;have stay:∀b u,H b=some u->¬A i b->¬O.M b->H' b=some u:=λb u e z m=>stay1 b u (s.s b u e m) z
 have sM:∀b,O.M b->H' b=H1 b:=λb m=>by
  obtain⟨o,e⟩:=r.ok.here H1 b (s.p r.p) m;rw[e,stay1 b o e (nA b m)]
 have pp:O.P H':=r.ok.loc H1 _ sM (s.p r.p);have oth:∀{j b},j≠i->A j b->¬A i b:=λhj a z=>hj (r.dis _ _ _ a z)
 have un:∀b u,H b=some u->unO O A b->unO O (reg A i W) b:=λb u e f=>⟨f.1,λj z=>by
  rcases z with z|z
  .exact f.2 j z.2
  .rcases(hW b z.2).1 with y|y
   .exact f.2 i y
   .rw[e] at y;cases y⟩
 have tF:∀b u,unO O A b->H b=some u->unO O (reg A i W) b/\H' b=some u:=λb u f q=>⟨un b u q f,stay b u q (f.2 i) f.1⟩;have mv:∀{v d},Is K (unO O A) H v d->Is K (unO O (reg A i W)) H' v d:=λz=>z.to (λb ys f q=>tF b _ f q) λb ys q=>SqT.stay (h:=q) ts;have mvs:∀{v d},IsAll K (unO O A) H v d->IsAll K (unO O (reg A i W)) H' v d:=λz=>z.to (λb ys f q=>tF b _ f q) λb ys q=>SqT.stay (h:=q) ts
 have wm:∀b,W b->H₀ b=J1/\¬O.M b:=λb w=>by
  rcases(hW b w).1 with z|z
  .exact⟨(r.own i b z).1,(r.own i b z).2.2⟩
  .have m:¬O.M b:=λm=>by obtain⟨o,e⟩:=r.ok.here H b r.p m;rw[z] at e;cases e
   exact⟨r.st.s.free m z,m⟩
 refine⟨r.ok,pp,r.p0,⟨λb o hb n=>?_,λ_=>pp,λb u hu hb=>ts b u hu (r.st.t b u hu hb)⟩,λj k b x y=>?_,λj b x=>?_,λj x e=>?_,by rw[QC,QC];exact r.len⟩
 .exact stay b o (r.st.s b o hb n) (λz=>by rw[(r.own i b z).1] at hb;cases hb) n
 .rcases x with x|x <;> rcases y with y|y
  .exact r.dis j k b x.2 y.2
  .rcases(hW b y.2).1 with z|z
   .exact absurd (r.dis j i b x.2 z) x.1
   .obtain⟨_,⟨o,q,_⟩,_⟩:=r.own j b x.2;rw[z] at q;cases q
  .rcases(hW b x.2).1 with z|z
   .exact absurd (r.dis k i b y.2 z) y.1
   .obtain⟨_,⟨o,q,_⟩,_⟩:=r.own k b y.2;rw[z] at q;cases q
  .exact x.1.trans y.1.symm
 .rcases x with x|x
  .obtain⟨h0,⟨o,q,ho⟩,m⟩:=r.own j b x.2;exact⟨h0,⟨o,stay b o q (oth x.1 x.2) m,ho⟩,m⟩
  .exact⟨(wm b x.2).1,(hW b x.2).2,(wm b x.2).2⟩
 .by_cases hj:i=j
  .subst hj
   have hi:i<ρ.length:=by
    rcases J5 i ρ.length with z|z
    .exact z
    .rw[QV (by simpa using z)] at e;cases e
   rw[QE hi] at e;cases e;exact⟨v,QE (by have:=r.len;lia),hR⟩
  .rw[QK hj] at e;obtain⟨w,h1,h2⟩:=r.at_ j x e;have hj':j≠i:=λz=>hj z.symm;refine⟨w,by rw[QK hj];exact h1,?_⟩
   cases x with
   | im d=>exact mv h2
   | own es=>
     obtain⟨b,ys,rfl,hb,hlb,hs⟩:=h2;exact⟨b,ys,rfl,.inl ⟨hj',hb⟩,stay b _ hlb (oth hj' hb) (r.own j b hb).2.2,mvs hs⟩
   | ob=>exact h2
   | scr n=>exact IsS.to (λb u f q=>tF b u f q) h2
   | dct ks=>obtain⟨b,hb,h2⟩:=h2;exact⟨b,.inl ⟨hj',hb⟩,h2.to λu q=>stay b u q (oth hj' hb) (r.own j b hb).2.2⟩
   | gen f ds=>obtain⟨b,xs,e,hb,q,z⟩:=h2;exact⟨b,xs,e,.inl ⟨hj',hb⟩,stay b _ q (oth hj' hb) (r.own j b hb).2.2,mvs z⟩
   | rd f ds=>obtain⟨b,xs,e,hb,q,z⟩:=h2;exact⟨b,xs,e,un b _ q hb,stay b _ q (hb.2 i) hb.1,mvs z⟩
   | exc C ns ds=>obtain⟨xs,e,z⟩:=h2;exact⟨xs,e.to λb u f q=>tF b u f q,mvs z⟩
   | thg T=>exact T.to (λb u f q=>tF b u f q) (λb u w q=>⟨.inl ⟨hj',w⟩,stay b u q (oth hj' w) (r.own j b w).2.2⟩) ts h2
   | thr T=>obtain⟨W',hw,z⟩:=h2;exact⟨W',λb w=>let ⟨f,o,q⟩:=hw b w;⟨un b o q f,o,stay b o q (f.2 i) f.1⟩,T.to (λb u f q=>tF b u f q) (λb u w q=>⟨w,stay b u q ((hw b w).1.2 i) (hw b w).1.1⟩) ts z⟩
theorem Rep.setOwn{i:Nat}(r:Rep K O H₀ A H σ ρ)(s:Stp O H H')(hn:H a=none)(hl:H' a=some (.lst xs))(hf:IsAll K (unM O) H' xs ds)(fl:flats ds=true):
 Rep K O H₀ (λj b=>(j≠i/\A j b)\/(j=i/\b=a)) H' (σ.set i (some (.ref a))) (ρ.set i (some (.own ds))) :=
 r.setX (W:=λb=>b=a) s (λ_ _ e _=>e) (λb e=>by subst e;exact⟨.inr hn,_,hl,.lst⟩) ⟨a,xs,rfl,.inr ⟨rfl,rfl⟩,hl,IsAll.flats (TupStay.refl H') hf fl⟩
theorem Frm.setIm{i:Nat}(s:Stp O H H'):Frm O A H (λj a=>j≠i/\A j a) H':=λa o e u=>⟨s.s a o e u.1,u.1,λj z=>u.2 j z.2⟩
theorem Frm.setOwn{i:Nat}(s:Stp O H H')(hn:H a=none):Frm O A H (λj b=>(j≠i/\A j b)\/(j=i/\b=a)) H':=λb o e u=>⟨s.s b o e u.1,u.1,λj z=>by
 rcases z with z|z
 .exact u.2 j z.2
 .rw[z.2,hn] at e;cases e⟩
theorem zmm{i:Nat}:reg A i (A i)=A:=by
 funext j b;refine propext ⟨λz=>?_,λz=>?_⟩
 .rcases z with z|z
  .exact z.2
  .rw[z.1];exact z.2
 .by_cases e:j=i
  .exact .inr ⟨e,e ▸ z⟩
  .exact .inl ⟨e,z⟩
theorem Rep.changeX{i:Nat}(r:Rep K O H₀ A H σ ρ)(hv:σ[i]? = some (some (.ref a)))(ha:A i a)(ho:OwnO o)(hR:RepV K O A (upd H a o) i (.ref a) y):Rep K O H₀ A (upd H a o) σ (ρ.set i (some y)):=by
 have hs:σ.set i (some (.ref a))=σ:=by
  refine Yz λj=>?_;rw[Vx]
  split
  .rename_i e
   subst e;rw[T0 (Qk.mp hv).1,hv]
  .rfl
 have:=r.setX (i:=i) (v:=.ref a) (W:=A i) (y:=y) (H':=upd H a o) (.refl O H) (λb u e n=>by rw[zae λz=>n (by rw[z];exact ha)];exact e) (λb z=>⟨.inl z,by
  by_cases e:b=a
  .subst e;exact⟨_,zaj,ho⟩
  .obtain⟨_,⟨u,q,ou⟩,_⟩:=r.own i b z
   exact⟨u,by rw[zae e];exact q,ou⟩⟩) (by rw[zmm];exact hR)
 rw[zmm,hs] at this;exact this
theorem Rep.up{i:Nat}(r:Rep K O H₀ A H σ ρ)(ha:A i a)(h:IsAll K (unO O A) H xs ds):IsAll K (unO O A) (upd H a o) xs ds :=
 have st:∀b u,H b=some u->¬A i b->upd H a o b=some u:=λb u e n=>by rw[zae λz=>n (by rw[z];exact ha)];exact e
 h.to (λb ys f q=>⟨f,st b _ q (f.2 i)⟩) λb ys q=>SqT.stay (h:=q) (r.tstay st)
theorem Rep.change{i:Nat}(r:Rep K O H₀ A H σ ρ)(e:ρ[i]? = some (some (.own ds)))(hv:σ[i]? = some (some (.ref a)))(ha:A i a)(hs:IsAll K (unO O A) H ys es):
 Rep K O H₀ A (upd H a (.lst ys)) σ (ρ.set i (some (.own es))) :=
 r.changeX hv ha .lst ⟨a,ys,rfl,ha,zaj,r.up ha hs⟩
theorem Frm.change{i:Nat}(ha:A i a):Frm O A H A (upd H a o):=λb u e n=>⟨by rw[zae (show b≠a from λz=>n.2 i (by rw[z];exact ha))];exact e,n⟩
theorem Rep.disown{i:Nat}(r:Rep K O H₀ A H σ ρ)(e:ρ[i]? = some (some (.own ds))):Rep K O H₀ (λj a=>j≠i/\A j a) H σ (ρ.set i (some (.im (.list ds)))):=by
 have un:∀a,unO O A a->unO O (λj a=>j≠i/\A j a) a:=λa u=>⟨u.1,λj z=>u.2 j z.2⟩;refine⟨r.ok,r.p,r.p0,r.st,λj k a x y=>r.dis j k a x.2 y.2,λj a x=>r.own j a x.2,λj x ej=>?_,by rw[QC];exact r.len⟩
 by_cases hj:i=j
 .subst hj;have hi:i<ρ.length:=(Qk.mp e).1;rw[QE hi] at ej;cases ej;obtain⟨w,h1,h2⟩:=r.at_ i _ e;obtain⟨a,xs,rfl,ha,hl,hs⟩:=h2;exact⟨.ref a,h1,.list ⟨(r.own i a ha).2.2,λj z=>z.1 (r.dis j i a z.2 ha)⟩ hl (hs.weak un)⟩
 .rw[QK hj] at ej;obtain⟨w,h1,h2⟩:=r.at_ j x ej;refine⟨w,h1,?_⟩
  cases x with
  | im d=>exact h2.weak un
  | own fs=>
    obtain⟨b,us,rfl,hb,hlb,hs2⟩:=h2;exact⟨b,us,rfl,⟨λz=>hj z.symm,hb⟩,hlb,hs2.weak un⟩
  | ob=>exact h2
  | scr n=>exact IsS.to (λa u f q=>⟨un a f,q⟩) h2
  | dct ks=>obtain⟨b,hb,h2⟩:=h2;exact⟨b,⟨λz=>hj z.symm,hb⟩,h2⟩
  | gen f ds=>obtain⟨b,xs,e,hb,q,z⟩:=h2;exact⟨b,xs,e,⟨λz=>hj z.symm,hb⟩,q,z.weak un⟩
  | rd f ds=>obtain⟨b,xs,e,hb,q,z⟩:=h2;exact⟨b,xs,e,un b hb,q,z.weak un⟩
  | exc C ns ds=>obtain⟨xs,e,z⟩:=h2;exact⟨xs,e.to λb u f q=>⟨un b f,q⟩,z.weak un⟩
  | thg T=>exact T.to (λa u f q=>⟨un a f,q⟩) (λa u w q=>⟨⟨λz=>hj z.symm,w⟩,q⟩) (TupStay.refl _) h2
  | thr T=>obtain⟨W,hw,z⟩:=h2;exact⟨W,λa w=>⟨un a (hw a w).1,(hw a w).2⟩,T.to (λa u f q=>⟨un a f,q⟩) (λa u w q=>⟨w,q⟩) (TupStay.refl _) z⟩
end
section
variable {K:Qa}{O:Ob}
theorem Post.frm(P:Post K O H₀ A H D Dd)(f:Frm O A H A1 H1):Post K O H₀ A1 H1 D Dd :=
 ⟨λA' σ' H' ρ' r g=>P.nx A' σ' H' ρ' r (f.trans g),λA' σ' H' ρ' r g=>P.bk A' σ' H' ρ' r (f.trans g),λA' σ' H' ρ' r g=>P.ct A' σ' H' ρ' r (f.trans g),P.rt⟩
def seqD(g k:DS):DS:=λDd ρ=>g { Dd with nx:=k Dd } ρ
theorem z1s(h:SD K O t g)(h':SD K O u k):SD K O (tSeq t u) (seqD g k):=λH₀ A σ H ρ D Dd r q P=>
 h H₀ A σ H ρ _ _ r q ⟨λA' σ' H' ρ' r' f q'=>h' H₀ A' σ' H' ρ' D Dd r' q' (P.frm f),P.bk,P.ct,P.rt⟩
theorem zyy:SD K O zql (λDd ρ=>Dd.nx ρ):=λH₀ A σ H ρ D Dd r q P=>P.nx A σ H ρ r .refl q
def ifS(c:DT)(g k:DS):DS:=λDd ρ=>c ρ λb=>if b=true then g Dd ρ else k Dd ρ
theorem z6b(hc:TD K O c fc)(h:SD K O t g)(h':SD K O u k):SD K O (tIfS c t u) (ifS fc g k):=λH₀ A σ H ρ D Dd r q P=>by
 refine hc σ H ρ _ _ r.seen q λb H1 s1 q1=>?_
 cases b with
 | true=>exact h H₀ A σ H1 ρ D Dd (r.stp s1) q1 (P.frm (.stp s1))
 | false=>exact h' H₀ A σ H1 ρ D Dd (r.stp s1) q1 (P.frm (.stp s1))
def retS(f:DE):DS:=λDd ρ=>f ρ Dd.rt
theorem z3e(h:ED K O t f):SD K O (tRet t) (retS f):=λH₀ A σ H ρ D Dd r q P=>by
 refine h σ H ρ _ _ r.seen q λv H1 x s1 o1 q1=>P.rt H1 v x (r.st.trans s1) (o1.ahead r.ok r.p0 r.st) q1
def retO(i:Nat):DS:=λDd ρ=>∃ds,ρ[i]? = some (some (.own ds))/\Dd.rt (.n ds)
theorem zub{i:Nat}:SD K O (tRet (tVar i)) (retO i):=λH₀ A σ H ρ D Dd r q P=>by
 obtain⟨ds,e,q⟩:=q;obtain⟨v,hv,a,xs,rfl,ha,hl,hs⟩:=r.at_ i _ e;exact⟨_,hv,P.rt H _ (.n ds) r.st ⟨a,xs,rfl,(r.own i a ha).1,hl,hs.weak λb u=>u.1⟩ q⟩
def asgS(i:Nat)(f:DE):DS:=λDd ρ=>f ρ λr=>match r with
 | .o d=>flat d=true/\Dd.nx (ρ.set i (some (.im d)))
 | .n ds=>flats ds=true/\Dd.nx (ρ.set i (some (.own ds)))
theorem ztd{i:Nat}(h:ED K O t f):SD K O (tAsg t (za9 i)) (asgS i f):=λH₀ A σ H ρ D Dd r q P=>by
 refine h σ H ρ _ _ r.seen q λv H1 x s1 o1 q1=>?_
 cases x with
 | o d=>
   obtain⟨fl,q1⟩:=q1;exact P.nx _ _ H1 _ ((r.stp s1).setIm (Is.flat (TupStay.refl H1) o1 fl)) (.setIm s1) q1
 | n ds=>
   obtain⟨fl,q1⟩:=q1;obtain⟨a,xs,rfl,hn,hl,hs⟩:=o1;exact P.nx _ _ H1 _ (r.setOwn s1 hn hl hs fl) (.setOwn s1 hn) q1
def appS(i:Nat)(f:DE):DS:=λDd ρ=>∃ds,ρ[i]? = some (some (.own ds))/\f ρ λr=>flat r.d=true/\ds.length<sizeLine/\Dd.nx (ρ.set i (some (.own (ds ++ [r.d]))))
theorem zrt{i:Nat}(h:ED K O t f):SD K O (zjc (tBM K "list" zhe (tVar i) (za1 t tNil))) (appS i f):=λH₀ A σ H ρ D Dd r q P=>by
 obtain⟨ds,e,q⟩:=q;obtain⟨v,hv,a,xs,rfl,ha,hl,hs⟩:=r.at_ i _ e;refine⟨_,hv,?_⟩;refine⟨.inl ⟨rfl,xs,.of hl⟩,?_⟩;refine h σ H ρ _ _ r.seen q λw H1 x s1 o1 zz=>?_;obtain⟨fl,hz,q1⟩:=zz;have r1:=r.stp s1;obtain⟨v1,hv1,a1,xs1,e1,ha1,hl1,hs1⟩:=r1.at_ i _ e;rw[hv] at hv1;cases hv1;cases e1;refine⟨a,xs1,w,rfl,rfl,hl1,by rw[hs1.length];exact hz,?_⟩;have iw:Is K (unO O A) H1 w x.d:=Is.flat (TupStay.refl H1) (o1.is r.ok r.p) fl;exact P.nx A σ _ _ (r1.change e hv ha (hs1.snoc iw)) ((Frm.stp s1).trans (.change ha)) q1
end
def GR(K:Qa)(O:Ob)(t:TG)(g:DG):Prop :=
 ∀(H₀:Hp) (A:Nat->Addr->Prop) (σ:St) (H:Hp) (ρ:DSt) (v:V) (d:Uu) (Q:St->Hp->Prop) (Qd:DSt->Prop),Rep K O H₀ A H σ ρ->flat d=true->Is K (unO O A) H v d->g d ρ Qd ->
   (∀A' σ' ρ',Rep K O H₀ A' H σ' ρ'->Frm O A H A' H->Qd ρ'->Q σ' H)->t v σ H Q
section
variable {K:Qa}{O:Ob}
theorem zya{i:Nat}:GR K O (za9 i) (gN i):=λH₀ A σ H ρ v d Q Qd r _ h q k=>k _ _ _ (r.setIm h) (.setIm (.refl _ _)) q
def GRs(K:Qa)(O:Ob)(t:TGs)(is:List Nat):Prop :=
 ∀(H₀:Hp) (A:Nat->Addr->Prop) (σ:St) (H:Hp) (ρ:DSt) (vs:List V) (ds:List Uu) (Q:St->Hp->Prop) (Qd:DSt->Prop),Rep K O H₀ A H σ ρ->flats ds=true->IsAll K (unO O A) H vs ds->gTD is ds ρ Qd ->
   (∀A' σ' ρ',Rep K O H₀ A' H σ' ρ'->Frm O A H A' H->Qd ρ'->Q σ' H)->t vs σ H Q
theorem zzx:GRs K O gNil []:=λH₀ A σ H ρ vs ds Q Qd r _ i h k=>by
 cases i with
 | nil=>exact⟨rfl,k A σ ρ r .refl h⟩
 | cons _ _=>exact h.elim
theorem zwn{i:Nat}{is:List Nat}(ht:GRs K O t is):GRs K O (zey (za9 i) t) (i::is):=λH₀ A σ H ρ vs ds Q Qd r fl h q k=>by
 cases h with
 | nil=>exact q.elim
 | cons h1 h2=>
   rw[flats,Qu] at fl;have f1:Frm O A H (λj a=>j≠i/\A j a) H:=.setIm (.refl _ _);refine⟨_,_,rfl,ht _ _ _ H _ _ _ _ _ (r.setIm h1) fl.2 (IsAll.flats (TupStay.refl H) h2 fl.2) q λA' σ' ρ' r' f q'=>k A' σ' ρ' r' (f1.trans f) q'⟩
theorem z2l{is:List Nat}{n:Nat}(hn:is.length=n)(ht:GRs K O t is):GR K O (gTup K n t) (gT is):=λH₀ A σ H ρ v d Q Qd r fl i h k=>by
 obtain⟨ds,rfl,h⟩:=h
 cases i with
 | tuple q is'=>exact⟨_,_,rfl,q,by rw[is'.length,zff h];exact hn,ht H₀ A σ H ρ _ ds Q Qd r (by simpa[flat] using fl) is' h k⟩
def zd4(g:DG)(gb:DS)(Dd:DEnds):List Uu->DSt->Prop
 | [],ρ=>Dd.nx ρ
 | d::ds,ρ=>flat d=true/\g d ρ λρ2=>gb { Dd with nx:=zd4 g gb Dd ds,ct:=zd4 g gb Dd ds,bk:=Dd.nx } ρ2
abbrev DJ:=DSt->(List Uu->Prop)->Prop
def SrcR(K:Qa)(O:Ob)(wi:TI)(f:DJ):Prop :=
 ∀(H₀:Hp) (A:Nat->Addr->Prop) (σ:St) (H:Hp) (ρ:DSt) (R:It->Hp->Prop) (Qd:List Uu->Prop),Rep K O H₀ A H σ ρ->f ρ Qd ->
   (∀(J:It) (H1:Hp) (ds:List Uu) (B:Addr->Prop),Walk K O H H1 J ds B->(∀a,B a->unO O A a)->Qd ds->R J H1)->wi σ H R
def newJ(f:DI):DJ:=λρ Q=>f ρ λfr ds=>fr=true/\Q ds
theorem zza(h:SrcS K O wi f):SrcR K O wi (newJ f):=λH₀ A σ H ρ R Qd r q k=>by
 refine h σ H ρ _ _ r.seen q λJ H1 ds B fr W hfr ⟨e,q1⟩=>k J H1 ds B W (λa b=>⟨(W.hb a b).1,λj z=>?_⟩) q1;obtain⟨_,⟨xs,q,_⟩,_⟩:=r.own j a z;rw[hfr e a b] at q;cases q
def forS(f:DJ)(g:DG)(gb:DS):DS:=λDd ρ=>f ρ λds=>zd4 g gb Dd ds ρ
theorem Rep.tupStay(r:Rep K O H₀ A H1 σ ρ)(f:Frm O A H1 A2 H2):TupStay H1 H2:=λa u hu e=>by
 refine(f a u e ⟨λm=>?_,λj z=>?_⟩).1
 .have mm:=r.ok.mutb H1 a u r.p e m;obtain⟨xs,e1|⟨o,e1⟩⟩:=hu
  .exact mm.1 xs e1
  .exact mm.2 o _ e1
 .obtain⟨_,⟨xs,q,ho⟩,_⟩:=r.own j a z;rw[e] at q;cases q;obtain⟨ys,e1|⟨o,e1⟩⟩:=hu
  .exact(ho ys).1 e1
  .exact(ho ys).2 o e1
theorem z4s(hs:SrcR K O wi f)(hg:GR K O tg g)(hb:SD K O tb gb):SD K O (tFor wi tg tb) (forS f g gb):=λH₀ A σ H ρ D Dd r q P=>by
 refine hs H₀ A σ H ρ _ _ r q λJ H1 ds B W uB go=>?_;have r1:=r.stp W.st;have f1:Frm O A H A H1:=.stp W.st;refine⟨λi m σ2 H2=>m=ds.length-i/\i<=ds.length/\∃A2 ρ2,Rep K O H₀ A2 H2 σ2 ρ2/\Frm O A H1 A2 H2/\zd4 g gb Dd (ds.drop i) ρ2,⟨ds.length,rfl,QL _,A,ρ,r1,.refl,by simpa using go⟩,?_⟩;rintro i m σ2 H2 ⟨rfl,hi,A2,ρ2,r2,f2,go2⟩;have kB:∀a o,B a->H1 a=some o->H2 a=some o:=λa o b e=>(f2 a o e (uB a b)).1;have ts:TupStay H1 H2:=r1.tupStay f2
 by_cases hlt:i<ds.length
 .right;have hd:ds[i]? = some ds[i]:=Qi hlt;rw[QX hlt] at go2;obtain⟨fl,go2⟩:=go2;obtain⟨hgo,hy⟩:=W.item H2 i ds[i] kB ts hd (.inl fl);refine⟨hgo,λσ' H'=>∃A' ρ',Rep K O H₀ A' H' σ' ρ'/\Frm O A H1 A' H'/\zd4 g gb Dd (ds.drop (i+1)) ρ',λσ' H' ⟨A',ρ',x1,x2,x3⟩=>⟨ds.length-(i+1),by lia,rfl,hlt,A',ρ',x1,x2,x3⟩,λx H3 y=>?_⟩;obtain⟨sm,ix⟩:=hy x H3 y;have st3:Stp O H2 H3:=.same r2.ok sm;have r3:=r2.stp st3;refine hg H₀ A2 σ2 H3 ρ2 x ds[i] _ _ r3 fl (Is.flat (TupStay.refl H3) ix fl) go2 λA3 σ3 ρ3 r3' f3 q3=>?_;have f13:Frm O A H1 A3 H3:=(f2.trans (.stp st3)).trans f3;refine hb H₀ A3 σ3 H3 ρ3 _ _ r3' q3 ⟨λA' σ' H' ρ' r' f' q'=>⟨A',ρ',r',f13.trans f',q'⟩,λA' σ' H' ρ' r' f' q'=>P.nx A' σ' H' ρ' r' (f1.trans (f13.trans f')) q',λA' σ' H' ρ' r' f' q'=>⟨A',ρ',r',f13.trans f',q'⟩,P.rt⟩
 .left;have e:i=ds.length:=by lia
  subst e;rw[ZR] at go2;exact⟨W.stop H2 _ kB ts (Qm _),P.nx A2 σ2 H2 ρ2 r2 (f1.trans f2) go2⟩
end
def spO(K:Qa)(φ:Ob->Prop)(n:Nat)(f:List Uu->(R->Prop)->Prop):Sp:=λvs H Q _=>
 ∃(O:Ob) (ds:List Uu) (Qr:R->Prop),O.Ok/\φ O/\O.P H/\ds.length=n/\IsAll K (unM O) H vs ds/\f ds Qr/\∀r,Qr r->∀v H',Stp O H H'->Out K O H H' v r->Q v H'
def spD(K:Qa)(φ:Ob->Prop)(n:Nat)(f:List Uu->(R->Prop)->Prop):Sp:=λvs H Q _=>
 ∃(O:Ob) (ds:List Uu) (ws:List V) (Qr:R->Prop),O.Ok/\φ O/\O.P H/\ds.length=n/\vs=O.v::ws/\IsAll K (unM O) H ws ds/\f ds Qr/\∀r,Qr r->∀v H',Stp O H H'->Out K O H H' v r->Q v H'
def zb0(N:List Str)(rs:List DV):DSt:=rs.map some++Qv (N.length-rs.length) none
section
variable {K:Qa}{O:Ob}
theorem zgu(ok:O.Ok)(p:O.P H)(hl:vs.length=rs.length)(h:∀(i:Nat) r,rs[i]? = some r->∃v,vs[i]? = some v/\((∃d,r = .im d/\Is K (unM O) H v d)\/(r = .ob/\v=O.v))):
 Rep K O H (λ_ _=>False) H (L2.start N vs) (zb0 N rs):=by
 refine⟨ok,p,p,.refl _ _,λ_ _ _ z=>z.elim,λ_ _ z=>z.elim,λi r e=>?_,?_⟩
 .unfold zb0 at e
  by_cases hi:i<rs.length
  .rw[QW (by simpa using hi),Qs] at e
   cases q:rs[i]? with
   | none=>rw[q] at e;cases e
   | some r'=>
     rw[q] at e;have e':r'=r:=Zl (Zl e);subst e';obtain⟨v,hv,hh⟩:=h i r' q;refine⟨v,?_,?_⟩
     .unfold L2.start;rw[QW (by rw[Qb,hl];exact hi),Qs,hv];rfl
     .rcases hh with ⟨d,rfl,hd⟩|⟨rfl,hd⟩
      .exact hd.weak λa u=>⟨u,λj z=>z⟩
      .exact hd
  .rw[Z1 (by simpa using hi),Zz] at e
   split at e <;> cases e
 .unfold zb0 L2.start;rw[Qf,Qf,Qb,Qb,QU,QU,hl]
theorem z5x(h:SD K O t g)(ok:O.Ok)(p:O.P H)(ia:IsAll K (unM O) H vs ds)
 (hg:g { nx:=λ_=>Qr (.o .none),rt:=Qr } (zb0 N (ds.map .im))) (hQ:∀r,Qr r->∀v H',Stp O H H'->Out K O H H' v r->Q v H'):t { nx:=λ_ H'=>Q .non H',rt:=Q } (L2.start N vs) H:=by
 refine h H _ _ H _ _ _ (zgu ok p (by rw[Qb];exact ia.length) λi r e=>?_) hg ⟨λA' σ' H' ρ' r' _ q=>hQ _ q .non H' r'.st Is.none,λA' σ' H' ρ' r' _ q=>q.elim,λA' σ' H' ρ' r' _ q=>q.elim,λH' v r s o q=>hQ r q v H' s o⟩;rw[Qs] at e;obtain⟨d,hd,rfl⟩:=Q4.mp e;obtain⟨v,hv,iv⟩:=ia.get hd;exact⟨v,hv,.inl ⟨d,rfl,iv⟩⟩
theorem z5o(h:SD K O t g)(ok:O.Ok)(p:O.P H)(ia:IsAll K (unM O) H ws ds)
 (hg:g { nx:=λ_=>Qr (.o .none),rt:=Qr } (zb0 N (.ob::ds.map .im))) (hQ:∀r,Qr r->∀v H',Stp O H H'->Out K O H H' v r->Q v H'):t { nx:=λ_ H'=>Q .non H',rt:=Q } (L2.start N (O.v::ws)) H:=by
 refine h H _ _ H _ _ _ (zgu ok p (by rw[Qj,Qj,Qb,ia.length]) λi r e=>?_) hg ⟨λA' σ' H' ρ' r' _ q=>hQ _ q .non H' r'.st Is.none,λA' σ' H' ρ' r' _ q=>q.elim,λA' σ' H' ρ' r' _ q=>q.elim,λH' v r s o q=>hQ r q v H' s o⟩
 cases i with
 | zero=>cases e;exact⟨O.v,rfl,.inr ⟨rfl,rfl⟩⟩
 | succ i=>
   rw[Z0,Qs] at e;obtain⟨d,hd,rfl⟩:=Q4.mp e;obtain⟨v,hv,iv⟩:=ia.get hd;exact⟨v,by rw[Z0];exact hv,.inl ⟨d,rfl,iv⟩⟩
def calD(n:Nat)(f:List Uu->(R->Prop)->Prop)(g:DA):DE:=λρ Q=>g ρ λds=>ds.length=n/\f ds Q
theorem zyb{n:Nat}(hφ:φ O)(h:AD K O t g):ED K O (zcf (spO K φ n f) [] E t) (calD n f g):=λσ H ρ Q Qd S q k=>by
 refine h σ H ρ _ _ S q λvs H1 ds s1 is zz=>?_;obtain⟨hn,q1⟩:=zz;rw[QF];exact⟨O,ds,Qd,S.ok,hφ,s1.p S.p,hn,is,q1,λr qr v H' s2 o2=>k v H' r (s1.trans s2) (o2.ahead S.ok S.p s1) qr⟩
def calO(i:Nat)(n:Nat)(f:List Uu->(R->Prop)->Prop)(g:DA):DE:=λρ Q=>ρ[i]? = some (some .ob)/\g ρ λds=>ds.length=n/\f ds Q
theorem zwd{i n:Nat}(hφ:φ O)(h:AD K O t g):ED K O (zcf (spD K φ n f) [] E (za1 (tVar i) t)) (calO i n f g):=λσ H ρ Q Qd S q k=>by
 obtain⟨e,q⟩:=q;obtain⟨v,hv,hh⟩:=S.at_ i _ e;refine⟨v,hv,?_⟩;refine h σ H ρ _ _ S q λvs H1 ds s1 is zz=>?_;obtain⟨hn,q1⟩:=zz;show spD K φ n f ((v::vs) ++ []) H1 Q E;rw[QF];exact⟨O,ds,vs,Qd,S.ok,hφ,s1.p S.p,hn,by rw[show v=O.v from hh],is,q1,λr qr v H' s2 o2=>k v H' r (s1.trans s2) (o2.ahead S.ok S.p s1) qr⟩
theorem zys{φ:Ob->Prop}{n:Nat}{f:List Uu->(R->Prop)->Prop}{ps:List Str}(hn:ps.length=n):∀vs H Q E,spO K φ n f vs H Q E->vs.length=ps.length:=λvs H Q E zz=>by obtain⟨O,ds,_,_,_,_,h,is,_⟩:=zz;rw[is.length,h,hn]
theorem zpb{φ:Ob->Prop}{n:Nat}{f:List Uu->(R->Prop)->Prop}{ps:List Str}(hn:ps.length=n+1):∀vs H Q E,spD K φ n f vs H Q E->vs.length=ps.length:=λvs H Q E zz=>by obtain⟨O,ds,ws,_,_,_,_,h,e,is,_⟩:=zz;rw[e,Qj,is.length,h,hn]
end
section
variable {X:Cx}
def rEqD(K:Qa)(neg:Bool):R2:=λx y H Q=>∃F G d e,Is K F H x d/\Is K G H y e/\d.canLay0=true/\e.canLay0=true/\d.depth<=60/\Q (.bl (if neg then !PyData.eqv d e else QA d e)) H
theorem z2e(hu:X.A.units+64<GJ):OpR X (U6 .Eq) (rEqD X.K false):=by
 intro pins s σ H x y v u Q I rx ry h;obtain⟨F,G,d,e,i1,i2,h1,h2,h3,q⟩:=h;obtain⟨as,ra⟩:=i1.reads I rx;obtain⟨bs,rb⟩:=i2.reads I ry;exact SeqAt.compareEq_reads ra rb h1 h2 (by lia) ⟨.bl _,H,I,rfl,q⟩
theorem z2h(hu:X.A.units+64<GJ):OpR X (U6 .NotEq) (rEqD X.K true):=by
 intro pins s σ H x y v u Q I rx ry h;obtain⟨F,G,d,e,i1,i2,h1,h2,h3,q⟩:=h;obtain⟨as,ra⟩:=i1.reads I rx;obtain⟨bs,rb⟩:=i2.reads I ry;exact SeqAt.compareNe_reads ra rb h1 h2 (by lia) ⟨.bl _,H,I,rfl,q⟩
def rInD(K:Qa)(neg:Bool):R2:=λx y H Q=>∃F G d es,Is K F H x d/\(Is K G H y (.list es)\/Is K G H y (.tuple es))/\d.canLay0=true/\Zx es=true/\d.depth<=60 /\
 Q (.bl (if neg then !es.any (λy=>QA y d) else es.any λy=>QA y d)) H
theorem z4l(hu:X.A.units+64<GJ):OpR X (U6 .In) (rInD X.K false):=by
 intro pins s σ H x y v u Q I rx ry h;obtain⟨F,G,d,es,i1,i2,h1,h2,h3,q⟩:=h;obtain⟨as,ra⟩:=i1.reads I rx;rcases i2 with i2|i2
 .obtain⟨bs,rb⟩:=i2.reads I ry;exact SeqAt.in_list_reads rb ra h2 h1 (by lia) ⟨.bl _,H,I,rfl,q⟩
 .obtain⟨bs,rb⟩:=i2.reads I ry;exact SeqAt.in_tuple_reads rb ra h2 h1 (by lia) ⟨.bl _,H,I,rfl,q⟩
theorem zpz:∀{bs:List Bool} {us:List Ut},Vals (bs.map V.bl) us->us=bs.map ZC
 | [],_,r=>by cases r;rfl
 | b::bs,_,r=>by
   rw[QD] at r
   cases r with
   | cons h t=>rw[zpz t,show _=ZC b from h];rfl
theorem zsy{bs:List Bool}:(ZN bs.length).all (λi=>bs[i]?.getD false)=bs.all id:=by
 apply ZP.mpr;rw[J4,J4];constructor
 .intro h x hx;obtain⟨i,hi,e⟩:=List.mem_iff_getElem.mp hx;have:=h i (by simpa using hi);rw[Qi hi] at this;rw[<- e];simpa using this
 .intro h i hi;have hi':i<bs.length:=by simpa using hi
  rw[Qi hi'];simpa using h _ (ZA hi')
def rAll(any:Bool):List V->Hp->VK->Prop:=λxs H Q=>∃(p:Addr) (bs:List Bool),xs = [.ref p]/\H p=some (.lst (bs.map V.bl))/\Q (.bl (if any then bs.any id else bs.all id)) H
theorem zts(hc:X.calm=true):CallR X (.builtin "all") (rAll false):=by
 intro pins s σ H xs us Q I r h;obtain⟨p,bs,rfl,hH,q⟩:=h;obtain⟨u,rfl,ru⟩:=Vals.one r;cases ru;obtain⟨z,its,n,rv,hl,e⟩:=I.lstM hH;have ei:=zpz rv;subst ei;have pl:s.heap.IsList p (bs.map ZC).toArray:=⟨_,e,rfl,_,rfl⟩;have hne:p≠s.heap.objs.size:=QP (Qg e);refine call_all_walk (UT pl ?_);refine⟨s.heap.objs.size,_,_,_,_,_,λi=>bs[i]?.getD false,rfl,Walks.list (A:=X.A.in1) (I.ok.hd hc) _ p hne (bs.map ZC).toArray,⟨⟨_,Qt _ rfl,rfl,rfl⟩,_,Qc _ e,rfl,_,rfl⟩,?_,λh' tk kk=>?_⟩
 .intro i v s' Q' E' hv hq;have hv:(bs.map ZC).toArray[i]? = some v:=hv;rw[List.getElem?_toArray,Qs] at hv;obtain⟨b,hb,rfl⟩:=Q4.mp hv;have hq:Q' (bs[i]?.getD false) s':=hq;rw[hb] at hq;exact UC hq
 .have I1:Inv X pins σ H { s with heap:=h',toks:=tk }:=I.kept λb o eb=>kk b o (by simp;exact QP (Qg eb)) (Qc _ eb);refine⟨.bl _,H,I1,?_,q⟩;show ZC _=ZC _;rw[Qp,Qb,zsy];rfl
theorem zh9:∀{ys:List Str} {us:List Ut},Vals (ys.map V.str) us->StrsAre us ys
 | [],_,r=>by cases r;exact .nil
 | y::ys,_,r=>by
   rw[QD] at r
   cases r with
   | cons h t=>obtain⟨tk,rfl⟩:=h;exact .cons y tk (zh9 t)
theorem zgt:∀{ys:List Str} {us:List Ut},StrsAre us ys->Vals (ys.map V.str) us
 | _,_,.nil=>.nil
 | _,_,.cons y t r=>.cons ⟨t,rfl⟩ (zgt r)
def zju:V->List V->Hp->VK->Prop:=λx vs H Q=>∃sep p ys,x = .str sep/\vs = [.ref p]/\H p=some (.lst (ys.map V.str))/\(ys.map (·.length)).sum+ys.length * sep.length<=16777216/\Q (.str (Ub sep ys)) H
theorem zy6:MtM X "str.join" zju:=by
 intro pins s σ H x vs v us Q I rx rv h;obtain⟨sep,p,ys,rfl,rfl,hH,hz,q⟩:=h;obtain⟨t,rfl⟩:=rx;obtain⟨u,rfl,ru⟩:=rv.one;cases ru;obtain⟨z,its,n,r,hl,e⟩:=I.lstM hH;exact join_list ⟨_,e,rfl,_,rfl⟩ (by simpa using zh9 r) hz λt' k=>⟨.str _,H,I.tok _,⟨_,rfl⟩,q⟩
def zs3:List V->Hp->VK->Prop:=λxs H Q=>∃p ys,xs = [.ref p]/\H p=some (.lst (ys.map V.str))/\ys.length<64/\∀zs l,zs.Perm ys->sortedS zs=true->H l=none->Q (.ref l) (upd H l (.lst (zs.map V.str)))
theorem zp6:CallR X (.builtin "sorted") zs3:=by
 intro pins s σ H xs us Q I r h;obtain⟨p,ys,rfl,hH,hz,q⟩:=h;obtain⟨u,rfl,ru⟩:=Vals.one r;cases ru;obtain⟨z,its,n,rv,hl,e⟩:=I.lstM hH;refine sorted_strs (ss:=ys) ⟨_,e,rfl,_,rfl⟩ (zh9 rv) (by rw[<- hl,Qb];exact hz) λout zs h1 h2 h3=>?_;obtain⟨c,he⟩:=sortedAll_at s.heap its out;have hn:H (s.heap.objs.size+1)=none:=I.hok.fresh (Jn _);refine⟨.ref _,_,I.laid (a:=s.heap.objs.size+1) (o:=.lst (zs.map V.str)) (t':=s.toks) (λb o eb=>sortedAll_old eb) (Jn _) ?_,rfl,q zs _ h2 h3 hn⟩;refine⟨?_,out.toList,c,zgt h1,by simpa using he⟩;rw[Qb,h2.length_eq];have:sizeLine=16777216:=Uz;lia
theorem zra(h:ItemsOf P acc ys.length)(hv:∀i v,P i v->∃y,ys[i]? = some y/\RelV y v):Vals ys acc.toList:=by
 have go:∀(k:Nat) (zs:List V) (l:List Ut),zs.length=l.length->(∀(i:Nat) v,l[i]? = some v->∃y,zs[i]? = some y/\RelV y v)->Vals zs l:=by
  intro k zs l
  induction l generalizing zs with
  | nil=>intro e _;cases zs with
    | nil=>exact .nil
    | cons _ _=>simp at e
  | cons a l ih=>intro e hh;cases zs with
    | nil=>simp at e
    | cons z zs=>
      obtain⟨y,h1,h2⟩:=hh 0 a rfl;simp at h1;subst h1;exact .cons h2 (ih zs (by simpa using e) λi v ev=>by simpa using hh (i+1) v (by simpa using ev))
 refine go 0 ys acc.toList (by have e:=h.1;simp[e]) λi v e=>hv i v (h.2 i v (by simpa using e))
def ztv:List V->Hp->VK->Prop:=λxs H Q=>∃x:Str,xs = [.str x]/\x.cps.size<=sizeLine/\∀l,H l=none->Q (.ref l) (upd H l (.lst (x.cps.toList.map λc=>V.str (sg c))))
theorem zrg(hc:X.calm=true):CallR X (.type "list") ztv:=by
 intro pins s σ H xs us Q I r h;obtain⟨x,rfl,hz,q⟩:=h;obtain⟨u,rfl,ru⟩:=Vals.one r;obtain⟨t,rfl⟩:=ru;refine call_list_str (I.ok.hd hc) x t (λh' tk acc c kk e it=>?_) hz;refine⟨.ref _,_,I.laid (a:=s.heap.objs.size) (o:=.lst (x.cps.toList.map λc=>V.str (sg c))) kk (Qm _) ?_,rfl,q _ I.fresh⟩;refine⟨by simpa using hz,acc.toList,c,zra (P:=SignAt x) (by simpa using it) λi v hv=>?_,by simpa using e⟩;obtain⟨cc,uu,h1,rfl⟩:=hv;exact⟨.str (sg cc),by rw[Qs];simp[h1],⟨uu,rfl⟩⟩
def zw9(K:Qa):List V->Hp->VK->Prop:=λxs H Q=>∃v F d,xs = [v]/\Is K F H v d/\d.showable=true/\d.hasDict=false/\d.depth<=60/\d.shown.length<=sizeLine/\Q (.str d.shown) H
theorem zri(hg:X.A.guards=some [])(hu:X.A.units+64<GJ):CallR X (.builtin "repr") (zw9 X.K):=by
 intro pins s σ H xs us Q I r h;obtain⟨v,F,d,rfl,i,h1,h2,h3,h4,q⟩:=h;obtain⟨u,rfl,ru⟩:=Vals.one r;have fin:∀h' u tk,(∀b o,s.heap.get? b=some o->h'.get? b=some o)->EP X pins σ Q (.str d.shown u) { s with heap:=h',toks:=tk }:=λh' u tk kk=>⟨.str _,H,I.kept kk,⟨_,rfl⟩,q⟩;have fin':∀u tk,EP X pins σ Q (.str d.shown u) { s with toks:=tk }:=λu tk=>⟨.str _,H,I.tok _,⟨_,rfl⟩,q⟩;obtain⟨as,ra⟩:=i.reads I ru
 cases i with
 | none=>cases ru;exact PySem.P.repr_of_none (fin' _ _)
 | bool b=>cases ru;exact PySem.P.repr_of_bool (fin' _ _)
 | int n=>obtain⟨t,rfl⟩:=ru;exact PySem.P.repr_of_int (by simpa[YH] using h1) (fin' _ _)
 | str x=>obtain⟨t,rfl⟩:=ru;exact PySem.P.repr_of_str (fin' _ _) h4
 | list _ _ _=>cases ru;exact repr_of_reads' ra h1 (λz=>by rw[h2] at z;cases z) hg (by lia) (λ_ _ e=>e) fin h4
 | tuple _ _=>cases ru;exact repr_of_reads' ra h1 (λz=>by rw[h2] at z;cases z) hg (by lia) (λ_ _ e=>e) fin h4
end
def tx(l:List Nat):Str:=⟨l.toArray⟩
theorem ztt(x:Str):tx x.cps.toList=x:=by cases x;simp[tx]
theorem zdp(l:List Nat):(tx l).cps.toList=l:=by simp[tx]
theorem zt8(l:List Nat):(tx l).length=l.length:=by simp[tx,Vj]
def cutL{α:Type}(xs:List α)(lo hi:Option Int):List α:=(xs.drop (HT.sIx xs.length 0 lo)).take (HT.sIx xs.length xs.length hi-HT.sIx xs.length 0 lo)
theorem zh7(n d:Nat)(v:Int):max (0:Int) (min (if v<0 then v+n else v) n)=((HT.sIx n d (some v):Nat):Int):=by
 rw[<- HT.clip_eq v n d]
 by_cases h:v<0
 .rw[T0 h,T0 h];lia
 .rw[TB h,TB h];lia
theorem zor(lo hi:Option Int)(n:Nat):Yg lo hi 1 n=(ZN (HT.sIx n n hi-HT.sIx n 0 lo)).map λk=>HT.sIx n 0 lo+k:=by
 have e1:(match lo with|none=>(0:Int)|some i=>max 0 (min (if i<0 then i+(n:Int) else i) n))=((HT.sIx n 0 lo:Nat):Int):=by
  cases lo with
  | none=>rfl
  | some v=>exact zh7 n 0 v
 have e2:(match hi with|none=>(n:Int)|some i=>max 0 (min (if i<0 then i+(n:Int) else i) n))=((HT.sIx n n hi:Nat):Int):=by
  cases hi with
  | none=>rfl
  | some v=>exact zh7 n n v
 have e0:Yg lo hi 1 n=sliceRange ((HT.sIx n 0 lo:Nat):Int) ((HT.sIx n n hi:Nat):Int) 1:=by
  rw[<- e1,<- e2];cases lo <;> cases hi <;> rfl
 rw[e0];generalize HT.sIx n 0 lo=a;generalize HT.sIx n n hi=b;simp only[sliceRange,show((1:Int) > 0)=True from by simp,TL]
 by_cases hlt:(a:Int)<b
 .have e3:(((b:Int)-a+1-1) / 1).toNat=b-a:=by first|lia|(simp;done)|(simp;lia)
  simp only[hlt,TL,e3];refine YY λk _=>?_;lia
 .have:b-a=0:=by lia
  simp[hlt,this]
theorem zt6{α:Type}(l:List α):∀(n a:Nat),a+n<=l.length->((ZN n).map λk=>a+k).filterMap (λi=>l[i]?)=(l.drop a).take n
 | 0,_,_=>by simp
 | n+1,a,h=>by
   have hlt:a+n<l.length:=by lia
   rw[List.range_succ,QI,List.filterMap_append,zt6 l n a (by lia),Vy,ZV];simp[Qi hlt]
section
variable {X:Cx}
def rSlS:V->Option Int->Option Int->Hp->VK->Prop:=λx lo hi H Q=>∃z:Str,x = .str z/\z.length<=sizeLine/\Q (.str (tx (cutL z.cps.toList lo hi))) H
theorem z2n:SlR X rSlS:=by
 intro pins s σ H x v vl vu lo hi sl Q I rx hs pl pu h;obtain⟨z,rfl,hz,q⟩:=h;obtain⟨t,rfl⟩:=rx;refine⟨"str",_,PySem.F.slot_str_getitem.lookup,typeIs_str s z t,?_⟩;have hl:z.cps.toList.length=z.length:=by simp[Vj]
 have hi':HT.sIx z.length z.length hi<=z.length:=HT.sIx_le _ _ (Qm _) hi
 have key:∀l u:Option (Int×Tok),l.map (·.1)=lo->u.map (·.1)=hi->s.heap.IsSlice sl l u none->wpAny (model X.prog X.w) X.A (Gu (.str z t) (.ref sl)) (EP X pins σ Q) X.xe s:=by
  intro l u el eu hsl
  have e:GW z l u none=(ZN (HT.sIx z.length z.length hi-HT.sIx z.length 0 lo)).map λk=>HT.sIx z.length 0 lo+k:=by
   unfold GW;rw[el,eu];exact zor lo hi z.length
  have ec:tx (cutL z.cps.toList lo hi)=⟨((GW z l u none).filterMap (z.cps[·]?)).toArray⟩:=by
   rw[e];unfold cutL tx;rw[hl]
   by_cases hij:HT.sIx z.length 0 lo<=HT.sIx z.length z.length hi
   .have p:=zt6 z.cps.toList (HT.sIx z.length z.length hi-HT.sIx z.length 0 lo) (HT.sIx z.length 0 lo) (by rw[hl];lia);rw[<- p];simp
   .have:HT.sIx z.length z.length hi-HT.sIx z.length 0 lo=0:=by lia
    rw[this];simp
  refine wpAny_getItem_str_slice hsl rfl ?_;unfold sliceMade
  split
  .rename_i hc
   have hw:(GW z l u none).length=z.length:=by simpa using hc
   have ex:tx (cutL z.cps.toList lo hi)=z:=by
    rw[e,Qb,ZD] at hw;unfold cutL;rw[hl];have h0:HT.sIx z.length 0 lo=0\/z.length=0:=by lia
    rcases h0 with h0|h0
    .rw[h0] at hw ⊢;rw[Ys,Js (by rw[hl];lia)];exact ztt z
    .have hn:z.cps.toList = []:=List.eq_nil_of_length_eq_zero (by rw[hl];exact h0);rw[hn];simp only[List.drop_nil,Uj];rw[<- hn];exact ztt z
   exact⟨.str _,H,I,⟨t,by rw[ex]⟩,q⟩
  .rw[<- ec]
   have hlen:(tx (cutL z.cps.toList lo hi)).length<=sizeLine:=by
    rw[zt8];unfold cutL;rw[QB,QO,hl];lia
   first
    | exact⟨.str _,H,I.tok _,⟨_,rfl⟩,q⟩
    | exact⟨hlen,.str _,H,I.tok _,⟨_,rfl⟩,q⟩
    | exact λ_=>⟨.str _,H,I.tok _,⟨_,rfl⟩,q⟩
 obtain⟨o,ho,hc,hd⟩:=hs
 cases pl with
 | none=>cases pu with
   | none=>exact key none none rfl rfl ⟨o,ho,hc,hd⟩
   | int j t'=>exact key none (some (j,t')) rfl rfl ⟨o,ho,hc,hd⟩
 | int i ti=>cases pu with
   | none=>exact key (some (i,ti)) none rfl rfl ⟨o,ho,hc,hd⟩
   | int j t'=>exact key (some (i,ti)) (some (j,t')) rfl rfl ⟨o,ho,hc,hd⟩
def zwz(K:Qa):V->Option Int->Option Int->Hp->VK->Prop:=λx lo hi H Q=>∃a xs,x = .ref a/\SqT K H a xs/\(HT.sIx xs.length 0 lo=0/\HT.sIx xs.length xs.length hi=xs.length)/\Q (.ref a) H
theorem zgk{prog:Uy}{w:U0}{A:U9}{E:Ut->Ux->Prop}{s:Ux}{t sl:Addr}{items:Array Ut}{vl vu:Ut}{lo hi:Option Int}{Q:Ut->Ux->Prop}(ht:IsTup s.heap t items)(hs:s.heap.IsSliceOf sl vl vu .none)(pl:GF vl lo)(pu:GF vu hi)
 (hw:HT.sIx items.size 0 lo=0/\HT.sIx items.size items.size hi=items.size) (h:Q (.ref t) s):wpAny (model prog w) A (Gu (.ref t) (.ref sl)) Q E s:=by
 obtain⟨os,hos,hcs,hds⟩:=id hs;have hTs:s.TypeIs (.ref sl) "slice" := ⟨os,hos,hcs⟩;unfold Gu
 try with_reducible refine UA ?_
 first|refine Us (Uv ?_)|skip
 refine Us (wpAny_sequenceKey ht.typeIs (by decide) ?_)
 refine Us (U8 (name:=QH "__getitem__") ht.typeIs Zo
  (UH Zo ht.typeIs entry_tuple_getitem ?_ (args_tuple_getitem _ _)))
 show wpAny _ _ (Yo (.ref t) >>= _) _ _ s;refine Us (tupleItemsOf_ ht ?_);refine Us (GI hTs ?_);rw[T0 (by decide)];refine Us (HT.sliceApplied_gen hs pl pu ?_)
 have hno:(((HT.sIx items.size 0 lo:Nat):Int) == 0 && (1:Int) == 1 && (HT.sIx items.size items.size hi-HT.sIx items.size 0 lo) == items.size)=true:=by
  rw[hw.1,hw.2];simp
 show wpAny _ _ (if(((HT.sIx items.size 0 lo:Nat):Int) == 0 && (1:Int) == 1 && (HT.sIx items.size items.size hi-HT.sIx items.size 0 lo) == items.size)=true then _ else _) _ _ s;rw[T0 hno];obtain⟨o,ho,hc,n,hd⟩:=id ht;refine Us ?_;unfold Builtin.Tuple.tupleIsExact;refine Us (GI ht.typeIs (Uv ?_));show wpAny _ _ (if((J0 "tuple") == (J0 "tuple"))=true then _ else _) _ _ s;rw[T0 (by decide)];exact Us (G9 (Uv ⟨_,rfl,Uv h⟩))
theorem sl_tupW:SlR X (zwz X.K):=by
 intro pins s σ H x v vl vu lo hi sl Q I rx hs pl pu h;obtain⟨a,xs,rfl,hx,hw,q⟩:=h;cases rx;obtain⟨its,r,ht,hz⟩:=I.tuple hx;have hlen:its.toArray.size=xs.length:=by rw[Qp];exact r.length.symm
 exact⟨"tuple",_,Zo.lookup,ht.typeIs,zgk ht hs pl pu (by rw[hlen];exact hw) ⟨.ref a,H,I,rfl,q⟩⟩
def rSl(K:Qa):V->Option Int->Option Int->Hp->VK->Prop:=λx lo hi H Q=>rSlL K x lo hi H Q\/rSlT K x lo hi H Q\/zwz K x lo hi H Q\/rSlS x lo hi H Q
theorem z3v:SlR X (rSl X.K):=sl_list.or (sl_tup.or (sl_tupW.or z2n))
def ztj(K:Qa):R2:=λx y H Q=>∃a b ys,x = .ref a/\y = .ref b/\SqT K H a []/\SqT K H b ys/\Q (.ref b) H
theorem zvx:OpR X (UW .Add) (ztj X.K):=by
 intro pins s σ H x y v u Q I rx ry h;obtain⟨a,b,ys,rfl,rfl,ha,hb,q⟩:=h;cases rx;cases ry;obtain⟨its,r1,p1,_⟩:=I.tuple ha;obtain⟨its2,r2,p2,_⟩:=I.tuple hb;cases r1;obtain⟨⟨cls,dd,data,sl⟩,ho,hc,n,hd⟩:=id p1;obtain⟨⟨cls2,dd2,data2,sl2⟩,ho2,hc2,n2,hd2⟩:=id p2;simp only at hc hd hc2 hd2;subst hc hd hc2 hd2
 exact Tg ⟨_,ho,rfl⟩ ⟨_,ho2,rfl⟩ GC Ta JN JJ (JB _ _)
  (tuple_addW0 a b _ its2.toArray n n2 dd dd2 sl sl2 (by simp)) ⟨ho,ho2,⟨.ref b,H,I,rfl,q⟩⟩
end
section
variable {K:Qa}{O:Ob}{F:Addr->Prop}{H:Hp}
theorem zjo:∀{vs:List V} {ys:List Str},IsAll K F H vs (ys.map .str)->vs=ys.map V.str
 | _,[],h=>by cases h;rfl
 | _,y::ys,h=>by
   rw[QD] at h
   cases h with
   | cons h1 h2=>cases h1;rw[zjo h2];rfl
theorem zhr:∀{vs:List V} {bs:List Bool},IsAll K F H vs (bs.map .bool)->vs=bs.map V.bl
 | _,[],h=>by cases h;rfl
 | _,y::ys,h=>by
   rw[QD] at h
   cases h with
   | cons h1 h2=>cases h1;rw[zhr h2];rfl
theorem zif:∀(ys:List Str),IsAll K F H (ys.map V.str) (ys.map .str)
 | []=>.nil
 | y::ys=>.cons (.str y) (zif ys)
theorem zll{i:Int}{d:Uu}(h:IsAll K F H vs ds)(e:atI ds i=some d):∃v,atI vs i=some v/\Is K F H v d:=by
 unfold atI at e ⊢;rw[h.length]
 cases q:ixN ds.length i with
 | none=>rw[q] at e;cases e
 | some j=>
   rw[q] at e;obtain⟨v,hv,iv⟩:=h.get (i:=j) e;exact⟨v,hv,iv⟩
theorem zgr(h:IsAll K F H vs ds)(lo hi:Option Int):IsAll K F H (cutV vs lo hi) (cutL ds lo hi):=by
 unfold cutV cutL;rw[h.length];exact(h.drop _).take _
theorem zeo(ok:O.Ok)(hp:H p=none)(h:IsAll K (unM O) H vs ds):Stp O H (upd H p (.lst vs))/\Out K O H (upd H p (.lst vs)) (.ref p) (.n ds):=by
 have s:Stp O H (upd H p (.lst vs)):=.new ok hp _;exact⟨s,p,vs,rfl,hp,zaj,h.stp s (λ_ z=>z) (λ_ z=>z)⟩
theorem zjw(ok:O.Ok)(hp:H p=none)(h:IsAll K (unM O) H vs ds):Stp O H (upd H p (.tup vs))/\Out K O H (upd H p (.tup vs)) (.ref p) (.o (.tuple ds)):=by
 have s:Stp O H (upd H p (.tup vs)):=.new ok hp _;exact⟨s,Is.tuple (.of zaj) (h.stp s (λ_ z=>z) (λ_ z=>z))⟩
def okD(d:Uu):Bool:=d.canLay0 && decide (d.depth<=60)
def eqF(neg:Bool):Uu->Uu->Option R:=λd e=>if(okD d && e.canLay0)=true then some (.o (.bool (if neg then !PyData.eqv d e else QA d e))) else none
theorem znc(neg:Bool):OpD K O (rEqD K neg) (fn2 (eqF neg)):=λH x y d e Q Qd ok p ix iy ⟨r,hr,q⟩ k=>by
 unfold eqF at hr
 split at hr
 .rename_i hc
  cases hr;simp only[Qu,okD,TC] at hc;exact⟨_,_,d,e,ix,iy,hc.1.1,hc.2,hc.1.2,k _ H (.o _) (.refl _ _) (Is.bool _) q⟩
 .cases hr
def inF(neg:Bool):Uu->Uu->Option R:=λd e=>match d,e with
 | .str x,.str y=>some (.o (.bool (if neg then !(!(Z9 y x 0 y.length 1).isEmpty) else !(Z9 y x 0 y.length 1).isEmpty)))
 | d,.list es=>if(okD d && Zx es)=true then some (.o (.bool (if neg then !es.any (λy=>QA y d) else es.any λy=>QA y d))) else none
 | d,.tuple es=>if(okD d && Zx es)=true then some (.o (.bool (if neg then !es.any (λy=>QA y d) else es.any λy=>QA y d))) else none
 | _,_=>none
def rInU(K:Qa):R2:=λx y H Q=>(∃i j,x = .str i/\y = .str j/\Q (.bl (!(Z9 j i 0 j.length 1).isEmpty)) H)\/rInD K false x y H Q
theorem z3t(hu:X.A.units+64<GJ):OpR X (U6 .In) (rInU X.K):=op_in_str.or (z4l hu)
theorem zy2{neg:Bool}{d:Uu}(ix:Is K (unM O) H x d)(iy:Is K (unM O) H y e)(q:fn2 (inF neg) d e Qd)(k:∀v H' r,Stp O H H'->Out K O H H' v r->Qd r->Q v H'):
 (∃i j,x = .str i/\y = .str j/\Q (.bl (if neg then !(!(Z9 j i 0 j.length 1).isEmpty) else !(Z9 j i 0 j.length 1).isEmpty)) H)\/rInD K neg x y H Q:=by
 obtain⟨r,hr,q⟩:=q;unfold inF at hr
 split at hr
 .rename_i a b
  cases ix;cases iy;cases hr;exact .inl ⟨a,b,rfl,rfl,k _ H (.o _) (.refl _ _) (Is.bool _) q⟩
 .split at hr
  .rename_i hc
   cases hr;simp only[Qu,okD,TC] at hc;exact .inr ⟨_,_,_,_,ix,.inl iy,hc.1.1,hc.2,hc.1.2,k _ H (.o _) (.refl _ _) (Is.bool _) q⟩
  .cases hr
 .split at hr
  .rename_i hc
   cases hr;simp only[Qu,okD,TC] at hc;exact .inr ⟨_,_,_,_,ix,.inr iy,hc.1.1,hc.2,hc.1.2,k _ H (.o _) (.refl _ _) (Is.bool _) q⟩
  .cases hr
 .cases hr
theorem z4k:OpD K O (rInU K) (fn2 (inF false)):=λH x y d e Q Qd ok p ix iy q k=>zy2 ix iy q k
def intF(g:Int->Int->Uu):Uu->Uu->Option R
 | .int i,.int j=>some (.o (g i j))
 | _,_=>none
theorem zf2(h:∀i j H,Is K (unM O) H (g i j) (G i j)):OpD K O (rI0 g) (fn2 (intF G)):=λH x y d e Q Qd ok p ix iy ⟨r,hr,q⟩ k=>by
 unfold intF at hr
 split at hr
 .cases ix;cases iy;cases hr;exact⟨_,_,rfl,rfl,k _ H (.o _) (.refl _ _) (h _ _ H) q⟩
 .cases hr
def intC(C:Int->Int->Prop)(g:Int->Int->Uu):Uu->Uu->(R->Prop)->Prop:=λd e Q=>∃i j,d = .int i/\e = .int j/\C i j/\Q (.o (g i j))
theorem zwe(h:∀i j H,Is K (unM O) H (g i j) (G i j)):OpD K O (rI C g) (intC C G):=λH x y d e Q Qd ok p ix iy ⟨i,j,e1,e2,c,q⟩ k=>by
 subst e1 e2;cases ix;cases iy;exact⟨i,j,rfl,rfl,c,k _ H (.o _) (.refl _ _) (h i j H) q⟩
theorem zyl:OpD K O (rI0 λi j=>.int (i-j)) (fn2 (intF λi j=>.int (i-j))):=zf2 λ_ _ _=>.int _
theorem zmy:OpD K O (rI0 λi j=>.bl (decide (i<j))) (fn2 (intF λi j=>.bool (decide (i<j)))):=zf2 λ_ _ _=>.bool _
theorem zud:OpD K O (rI0 λi j=>.bl (decide (i<=j))) (fn2 (intF λi j=>.bool (decide (i<=j)))):=zf2 λ_ _ _=>.bool _
theorem z2q:OpD K O (rI0 λi j=>.bl (decide (j<i))) (fn2 (intF λi j=>.bool (decide (j<i)))):=zf2 λ_ _ _=>.bool _
theorem zyr:OpD K O (rI CPow λi j=>.int (i ^ j.toNat)) (intC CPow λi j=>.int (i ^ j.toNat)):=zwe λ_ _ _=>.int _
def isNF(neg:Bool):Uu->Uu->(R->Prop)->Prop:=λd e Q=>e = .none/\Q (.o (.bool (match d with | .none=>!neg|_=>neg)))
theorem Is.non{d:Uu}(h:Is K F H v d):decide (v = .non)=(match d with | .none=>true|_=>false):=by cases h <;> rfl
theorem zzs:OpD K O (λx y H Q=>y = .non/\Q (.bl (decide (x = .non))) H) (isNF false):=λH x y d e Q Qd ok p ix iy ⟨e1,q⟩ k=>by
 subst e1;cases iy;refine⟨rfl,k _ H (.o _) (.refl _ _) ?_ q⟩;rw[ix.non];cases d <;> exact Is.bool _
theorem zmv:OpD K O (λx y H Q=>y = .non/\Q (.bl (!decide (x = .non))) H) (isNF true):=λH x y d e Q Qd ok p ix iy ⟨e1,q⟩ k=>by
 subst e1;cases iy;refine⟨rfl,k _ H (.o _) (.refl _ _) ?_ q⟩;rw[ix.non];cases d <;> exact Is.bool _
def zwr(K:Qa):R2:=λx y H Q=>rI0 (λi j=>.int (i+j)) x y H Q\/(∃i j,x = .str i/\y = .str j/\i.length+j.length<=sizeLine/\Q (.str (i++j)) H)\/rCat x y H Q\/zxd K x y H Q\/ztj K x y H Q
theorem z0l: OpR X (UW .Add) (zwr X.K):=op_add.or (op_add_str.or (op_cat.or (op_catT.or zvx)))
def addF:Uu->Uu->Option R:=λd e=>match d,e with
 | .int i,.int j=>some (.o (.int (i+j)))
 | .str x,.str y=>if x.length+y.length<=sizeLine then some (.o (.str (x++y))) else none
 | .list a,.list b=>if a.length+b.length<=sizeLine then some (.n (a++b)) else none
 | .tuple a,.tuple b=>if a.length+b.length<=sizeLine then some (.o (.tuple (a++b))) else none
 | _,_=>none
theorem zx2:OpD K O (zwr K) (fn2 addF):=λH x y d e Q Qd ok p ix iy ⟨r,hr,q⟩ k=>by
 unfold addF at hr
 split at hr
 .cases ix;cases iy;cases hr;exact .inl ⟨_,_,rfl,rfl,k _ H (.o _) (.refl _ _) (Is.int _) q⟩
 .split at hr
  .rename_i hz
   cases ix;cases iy;cases hr;exact .inr (.inl ⟨_,_,rfl,rfl,hz,k _ H (.o _) (.refl _ _) (Is.str _) q⟩)
  .cases hr
 .split at hr
  .rename_i hz
   cases hr
   cases ix with
   | list f1 h1 s1=>
     cases iy with
     | list f2 h2 s2=>
       refine .inr (.inr (.inl ⟨_,_,_,_,rfl,rfl,h1,h2,by rw[s1.length,s2.length];exact hz,λp' hp=>?_⟩));obtain⟨a1,a2⟩:=zeo ok hp (s1.append s2);exact k _ _ _ a1 a2 q
  .cases hr
 .split at hr
  .rename_i hz
   cases hr
   cases ix with
   | tuple h1 s1=>
     cases iy with
     | tuple h2 s2=>
       rename_i a xs b ys
       cases xs with
       | nil=>
         cases s1;exact .inr (.inr (.inr (.inr ⟨a,b,ys,rfl,rfl,h1,h2,k _ H (.o _) (.refl _ _) (Is.tuple h2 s2) q⟩)))
       | cons z zs=>
         refine .inr (.inr (.inr (.inl ⟨a,b,_,ys,rfl,rfl,h1,h2,by simp,by rw[s1.length,s2.length];exact hz,λe=>?_,λ_ p' hp=>?_⟩)))
         .subst e;cases s2;rw[QF] at q;exact k _ H (.o _) (.refl _ _) (Is.tuple h1 s1) q
         .obtain⟨a1,a2⟩:=zjw ok hp (s1.append s2);exact k _ _ _ a1 a2 q
  .cases hr
 .cases hr
def idxF:Uu->Uu->Option R:=λd e=>match d,e with
 | .list ds,.int i=>(atI ds i).map .o
 | .tuple ds,.int i=>(atI ds i).map .o
 | .str x,.int i=>if x.length<=sizeLine then(atI x.cps.toList i).map λc=>.o (.str (sg c)) else none
 | _,_=>none
theorem zx0:OpD K O (rIx K) (fn2 idxF):=λH x y d e Q Qd ok p ix iy ⟨r,hr,q⟩ k=>by
 unfold idxF at hr
 split at hr
 .obtain⟨z,hz,rfl⟩:=Q4.mp hr;cases iy
  cases ix with
  | list f1 h1 s1=>
    obtain⟨v,hv,iv⟩:=zll s1 hz;exact .inl ⟨_,_,_,v,rfl,rfl,.of h1,hv,k v H (.o z) (.refl _ _) iv q⟩
 .obtain⟨z,hz,rfl⟩:=Q4.mp hr;cases iy
  cases ix with
  | tuple h1 s1=>
    obtain⟨v,hv,iv⟩:=zll s1 hz;exact .inr (.inl ⟨_,_,_,v,rfl,rfl,h1,hv,k v H (.o z) (.refl _ _) iv q⟩)
 .split at hr
  .rename_i hl
   obtain⟨c,hc,rfl⟩:=Q4.mp hr;cases iy;cases ix;exact .inr (.inr ⟨_,_,c,rfl,rfl,hl,hc,k _ H (.o _) (.refl _ _) (Is.str _) q⟩)
  .cases hr
 .cases hr
abbrev DO:=DSt->(Option Int->Prop)->Prop
def OD(K:Qa)(O:Ob)(t:TO)(f:DO):Prop :=
 ∀(σ:St) (H:Hp) (ρ:DSt) (Q:Option Int->Hp->Prop) (Qd:Option Int->Prop),Seen K O H σ ρ->f ρ Qd->(∀o H',Stp O H H'->Qd o->Q o H')->t σ H Q
def noO:DO:=λ_ Q=>Q none
def zxj(f:DE):DO:=λρ Q=>f ρ λr=>∃i,r.d = .int i/\Q (some i)
theorem zzl:OD K O zpn noO:=λσ H ρ Q Qd S h k=>k none H (.refl _ _) h
theorem zx7(h:ED K O t f):OD K O (zl6 t) (zxj f):=λσ H ρ Q Qd S hf k=>by
 refine h σ H ρ _ _ S hf λv H1 r s1 o1 zz=>?_;obtain⟨i,e,q⟩:=zz;have iv:=o1.is S.ok S.p;rw[e] at iv;cases iv;exact⟨i,rfl,k (some i) H1 s1 q⟩
def slcF(lo hi:Option Int):Uu->Option R
 | .list ds=>some (.n (cutL ds lo hi))
 | .tuple ds=>some (.o (.tuple (cutL ds lo hi)))
 | .str x=>if x.length<=sizeLine then some (.o (.str (tx (cutL x.cps.toList lo hi)))) else none
 | _=>none
def slD(f:DE)(a b:DO):DE:=λρ Q=>f ρ λr=>a ρ λlo=>b ρ λhi=>∃s,slcF lo hi r.d=some s/\Q s
theorem zve(h:ED K O t f)(ha:OD K O tl a)(hb:OD K O th b):ED K O (tSl (rSl K) t tl th) (slD f a b):=λσ H ρ Q Qd S hf k=>by
 refine h σ H ρ _ _ S hf λv H1 r s1 o1 q1=>?_;refine ha σ H1 ρ _ _ (S.stp s1) q1 λlo H2 s2 q2=>?_;refine hb σ H2 ρ _ _ ((S.stp s1).stp s2) q2 λhi H3 s3 zz=>?_;obtain⟨s,hr,q⟩:=zz;have st:=(s1.trans s2).trans s3;have iv:Is K (unM O) H3 v r.d:=Is.stp (s2.trans s3) (λ_ z=>z) (λ_ z=>z) (o1.is S.ok S.p);revert hr;generalize r.d=d at iv;intro hr;unfold slcF at hr
 split at hr
 .cases hr
  cases iv with
  | list f1 h1 z1=>
    refine .inl ⟨_,_,rfl,.of h1,λp hp=>?_⟩;obtain⟨a1,a2⟩:=zeo S.ok hp (zgr z1 lo hi);exact k _ _ _ (st.trans a1) (Out.ahead S.ok S.p st a2) q
 .cases hr
  cases iv with
  | tuple h1 z1=>
    rename_i a' xs
    by_cases hw:HT.sIx xs.length 0 lo=0/\HT.sIx xs.length xs.length hi=xs.length
    .refine .inr (.inr (.inl ⟨a',xs,rfl,h1,hw,k _ H3 (.o _) st ?_ q⟩))
     have e:cutV xs lo hi=xs:=by
      unfold cutV;rw[hw.1,hw.2,Ys,Nat.sub_zero,Jk]
     have z2:=zgr z1 lo hi;rw[e] at z2;exact Is.tuple h1 z2
    .refine .inr (.inl ⟨a',xs,rfl,h1,hw,λp hp=>?_⟩);obtain⟨a1,a2⟩:=zjw S.ok hp (zgr z1 lo hi);exact k _ _ _ (st.trans a1) (Out.ahead S.ok S.p st a2) q
 .split at hr
  .rename_i hl
   cases hr;cases iv;exact .inr (.inr (.inr ⟨_,rfl,hl,k _ H3 (.o _) st (Is.str _) q⟩))
  .cases hr
 .cases hr
def lenF:List Uu->Option R
 | [.str x]=>if x.length<=sizeLine then some (.o (.int x.length)) else none
 | [.list ds]=>some (.o (.int ds.length))
 | [.tuple ds]=>some (.o (.int ds.length))
 | _=>none
theorem zbf{d:Uu}(h:IsAll K F H vs [d]):∃v,vs = [v]/\Is K F H v d:=by
 cases h with
 | cons h1 h2=>cases h2;exact⟨_,rfl,h1⟩
theorem z1z:zd3 K O (λxs H Q=>∃x n,xs = [x]/\LenV K x H n/\Q (.int n) H) (fn1 lenF):=λH vs ds Q Qd ok p is ⟨r,hr,q⟩ k=>by
 unfold lenF at hr
 split at hr
 .split at hr
  .rename_i hl
   obtain⟨v,rfl,iv⟩:=zbf is;cases iv;cases hr;exact⟨_,_,rfl,⟨hl,rfl⟩,k _ H (.o _) (.refl _ _) (Is.int _) q⟩
  .cases hr
 .obtain⟨v,rfl,iv⟩:=zbf is;cases hr
  cases iv with
  | list f1 h1 s1=>exact⟨_,_,rfl,.inl ⟨_,.of h1,s1.length.symm⟩,k _ H (.o _) (.refl _ _) (Is.int _) q⟩
 .obtain⟨v,rfl,iv⟩:=zbf is;cases hr
  cases iv with
  | tuple h1 s1=>exact⟨_,_,rfl,.inr ⟨_,h1,s1.length.symm⟩,k _ H (.o _) (.refl _ _) (Is.int _) q⟩
 .cases hr
def allD(any:Bool):List Uu->(R->Prop)->Prop:=λds Q=>∃bs:List Bool,ds = [.list (bs.map .bool)]/\Q (.o (.bool (if any then bs.any id else bs.all id)))
theorem z3s(any:Bool):zd3 K O (rAll any) (allD any):=λH vs ds Q Qd ok p is ⟨bs,e,q⟩ k=>by
 subst e;obtain⟨v,rfl,iv⟩:=zbf is
 cases iv with
 | list f1 h1 s1=>
   rw[zhr s1] at h1;exact⟨_,bs,rfl,h1,k _ H (.o _) (.refl _ _) (Is.bool _) q⟩
def zqg:List Uu->Option R
 | [.int i]=>some (.o (.int i))
 | [.bool b]=>some (.o (.int (if b then 1 else 0)))
 | _=>none
theorem z1e:zd3 K O (λxs H Q=>(∃i,xs = [.int i]/\Q (.int i) H)\/∃k,xs = [.bl k]/\Q (.int (if k then 1 else 0)) H) (fn1 zqg):=λH vs ds Q Qd ok p is ⟨r,hr,q⟩ k=>by
 unfold zqg at hr
 split at hr
 .obtain⟨v,rfl,iv⟩:=zbf is;cases hr;cases iv;exact .inl ⟨_,rfl,k _ H (.o _) (.refl _ _) (Is.int _) q⟩
 .obtain⟨v,rfl,iv⟩:=zbf is;cases hr;cases iv;exact .inr ⟨_,rfl,k _ H (.o _) (.refl _ _) (Is.int _) q⟩
 .cases hr
def zte(K:Qa):List V->Hp->VK->Prop:=λxs H Q=>ztv xs H Q\/(∃p ys,xs = [.ref p]/\(SqL K H p ys\/SqT K H p ys)/\∀l,H l=none->Q (.ref l) (upd H l (.lst ys)))
theorem zq9(hc:X.calm=true):CallR X (.type "list") (zte X.K):=(zrg hc).or zmx
def zqf:List Uu->Option R
 | [.str x]=>if x.length<=sizeLine then some (.n (sgs x)) else none
 | [.list ds]=>some (.n ds)
 | [.tuple ds]=>some (.n ds)
 | _=>none
theorem zuh(x:Str):IsAll K F H (x.cps.toList.map λc=>V.str (sg c)) (sgs x):=by
 have e:=zif (K:=K) (F:=F) (H:=H) (x.cps.toList.map sg);rw[Jt,Jt] at e;exact e
theorem zye:zd3 K O (zte K) (fn1 zqf):=λH vs ds Q Qd ok p is ⟨r,hr,q⟩ k=>by
 unfold zqf at hr
 split at hr
 .split at hr
  .rename_i hl
   obtain⟨v,rfl,iv⟩:=zbf is;cases iv;cases hr;refine .inl ⟨_,rfl,hl,λl hl=>?_⟩;obtain⟨a1,a2⟩:=zeo (K:=K) ok hl (zuh _);exact k _ _ _ a1 a2 q
  .cases hr
 .obtain⟨v,rfl,iv⟩:=zbf is;cases hr
  cases iv with
  | list f1 h1 s1=>
    refine .inr ⟨_,_,rfl,.inl (.of h1),λl hl=>?_⟩;obtain⟨a1,a2⟩:=zeo ok hl s1;exact k _ _ _ a1 a2 q
 .obtain⟨v,rfl,iv⟩:=zbf is;cases hr
  cases iv with
  | tuple h1 s1=>
    refine .inr ⟨_,_,rfl,.inr h1,λl hl=>?_⟩;obtain⟨a1,a2⟩:=zeo ok hl s1;exact k _ _ _ a1 a2 q
 .cases hr
def tupF:List Uu->Option R
 | [.list ds]=>some (.o (.tuple ds))
 | [.tuple ds]=>some (.o (.tuple ds))
 | _=>none
theorem zuv:zd3 K O (λxs H Q=>∃p ys,xs = [.ref p]/\((SqL K H p ys/\∀l,H l=none->Q (.ref l) (upd H l (.tup ys)))\/(SqT K H p ys/\Q (.ref p) H))) (fn1 tupF):=λH vs ds Q Qd ok p is ⟨r,hr,q⟩ k=>by
 unfold tupF at hr
 split at hr
 .obtain⟨v,rfl,iv⟩:=zbf is;cases hr
  cases iv with
  | list f1 h1 s1=>
    refine⟨_,_,rfl,.inl ⟨.of h1,λl hl=>?_⟩⟩;obtain⟨a1,a2⟩:=zjw ok hl s1;exact k _ _ _ a1 a2 q
 .obtain⟨v,rfl,iv⟩:=zbf is;cases hr
  cases iv with
  | tuple h1 s1=>exact⟨_,_,rfl,.inr ⟨h1,k _ H (.o _) (.refl _ _) (Is.tuple h1 s1) q⟩⟩
 .cases hr
def zfu:List Uu->Option R
 | [d]=>if(d.showable && !d.hasDict && decide (d.depth<=60) && decide (d.shown.length<=sizeLine))=true then some (.o (.str d.shown)) else none
 | _=>none
theorem zyq:zd3 K O (zw9 K) (fn1 zfu):=λH vs ds Q Qd ok p is ⟨r,hr,q⟩ k=>by
 unfold zfu at hr
 split at hr
 .split at hr
  .rename_i hc
   cases hr;obtain⟨v,rfl,iv⟩:=zbf is;simp only[Qu,TC,Vz] at hc;exact⟨v,_,_,rfl,iv,hc.1.1.1,hc.1.1.2,hc.1.2,hc.2,k _ H (.o _) (.refl _ _) (Is.str _) q⟩
  .cases hr
 .cases hr
def zxu(fo:DE)(fa:DE):DE:=λρ Q=>fo ρ λr0=>∃sep,r0.d = .str sep/\fa ρ λr=>∃ys:List Str,r.d = .list (ys.map .str)/\(ys.map (·.length)).sum+ys.length * sep.length<=16777216/\Q (.o (.str (Ub sep ys)))
theorem z0m{to:TE}(ho:ED K O to fo)(ha:ED K O ta fa):ED K O (tBM K "str" zju to (za1 ta tNil)) (zxu fo fa):=λσ H ρ Q Qd S hf k=>by
 refine ho σ H ρ _ _ S hf λv H1 r0 s1 o1 zz=>?_;obtain⟨sep,e0,q1⟩:=zz;have i0:=o1.is S.ok S.p;rw[e0] at i0;cases i0;refine⟨rfl,?_⟩;refine ha σ H1 ρ _ _ (S.stp s1) q1 λw H2 r s2 o2 zz=>?_;obtain⟨ys,e,hz,q⟩:=zz;have i1:=o2.is S.ok (s1.p S.p);rw[e] at i1
 cases i1 with
 | list f1 h1 z1=>
   rw[zjo z1] at h1;exact⟨sep,_,ys,rfl,rfl,h1,hz,k _ H2 (.o _) (s1.trans s2) (Is.str _) q⟩
end
structure Ctx3{ι:Type}(P:Uy)(w:U0)(K:Qa)(mg:Str->Option Ut)(base:Heap)(k:Nat)(X:ι->Cx):Prop where
 hP:∀i,(X i).prog=P
 hw:∀i,(X i).w=w
 hK:∀i,(X i).K=K
 hmg:∀i,(X i).mg=mg
 hb:∀i,(X i).base=base
 calm:∀i,(X i).calm=true
 room:∀i,Room k (X i).A
 xe:∀i,(X i).xe=λ_ _=>False
def E3{ι κ:Type}(K:Qa)(X:ι->Cx)(O:κ->Ob)(e:Expr)(f:DE):Prop:=∃t,(∀i,PE (X i) e t)/\∀j,ED K (O j) t f
def T3{ι κ:Type}(K:Qa)(X:ι->Cx)(O:κ->Ob)(e:Expr)(f:DT):Prop:=∃t,(∀i,PT (X i) e t)/\∀j,TD K (O j) t f
def W3{ι κ:Type}(K:Qa)(X:ι->Cx)(O:κ->Ob)(e:Expr)(f:DT):Prop:=∃t,(∀i,PW (X i) e t)/\∀j,TD K (O j) t f
def A3{ι κ:Type}(K:Qa)(X:ι->Cx)(O:κ->Ob)(es:List Expr)(f:DA):Prop:=∃t,(∀i,PA (X i) es t)/\∀j,AD K (O j) t f
def I3{ι κ:Type}(K:Qa)(X:ι->Cx)(O:κ->Ob)(tg e:Expr)(f:DI):Prop:=∃t,(∀i,PI (X i) tg e t)/\∀j,SrcS K (O j) t f
def J3{ι κ:Type}(K:Qa)(X:ι->Cx)(O:κ->Ob)(tg e:Expr)(f:DJ):Prop:=∃t,(∀i,PI (X i) tg e t)/\∀j,SrcR K (O j) t f
def S3{ι κ:Type}(K:Qa)(X:ι->Cx)(O:κ->Ob)(s:Stmt)(g:DS):Prop:=∃t,(∀i,PS (X i) s t)/\∀j,SD K (O j) t g
def Ss3{ι κ:Type}(K:Qa)(X:ι->Cx)(O:κ->Ob)(s:List Stmt)(g:DS):Prop:=∃t,(∀i,PSs (X i) s t)/\∀j,SD K (O j) t g
def O3{ι κ:Type}(K:Qa)(X:ι->Cx)(O:κ->Ob)(e:Option Expr)(f:DO):Prop:=∃t,(∀i,PO (X i) e t)/\∀j,OD K (O j) t f
def G3{ι:Type}(K:Qa)(X:ι->Cx)(h:Nat)(tg:Expr)(g:DG):Prop:=∃t,(∀i,PG (X i) tg t)/\(∀O:Ob,GS K O t g)/\(∀O:Ob,GR K O t g)/\OwnG h t
section
variable {ι κ:Type}{P:Uy}{w:U0}{K:Qa}{mg:Str->Option Ut}{base:Heap}{k:Nat}{X:ι->Cx}{O:κ->Ob}{a b c:Expr}{fa fb fc:DE}{pos:Pos}
theorem zaa(n:Nat)(hN:∀i,(X i).N[n]? = some x:=by intro i;rfl)(hv:∀i,Vis (X i).env.scope x:=by intro i;first|exact Or.inl rfl|exact Or.inr (Or.inl rfl)|exact Or.inr (Or.inr rfl))
 (hd:(x == ("__debug__" : Str))=false:=by decide) (hcd:(x == ("__classdict__" : Str))=false:=by decide):E3 K X O (.Name x pos) (vD n):=⟨_,λi=>zal (hN i) (hv i) hd hcd,λj=>z2c⟩
theorem zad{n:Int}{j:Nat}:E3 K X O (.Constant (.int n) j pos) (cD (.int n)):=⟨_,λi=>zbb,λj=>z1i⟩
theorem za0{j:Nat}:E3 K X O (.Constant (.str x) j pos) (cD (.str x)):=⟨_,λi=>zbx,λj=>z3k⟩
theorem e_bl{x:Bool}{j:Nat}:E3 K X O (.Constant (.bool x) j pos) (cD (.bool x)):=⟨_,λi=>zxa,λj=>z5z⟩
theorem zd5{j:Nat}:E3 K X O (.Constant .none j pos) (cD .none):=⟨_,λi=>z4f,λj=>z2p⟩
theorem e_op(ho:∀i,OpR (X i) (UW op) r)(hd:∀j,OpD K (O j) r F)(ha:E3 K X O a fa)(hb:E3 K X O b fb):E3 K X O (.BinOp a op b pos) (opDE F fa fb) :=
 let ⟨_,p1,d1⟩:=ha;let ⟨_,p2,d2⟩:=hb;⟨_,λi=>zbl (ho i) (p1 i) (p2 i),λj=>zlt (hd j) (d1 j) (d2 j)⟩
theorem zax(C:Ctx3 P w K mg base k X)(ha:E3 K X O a fa)(hb:E3 K X O b fb):E3 K X O (.BinOp a .Add b pos) (opDE (fn2 addF) fa fb):=e_op (λi=>by have h:=z0l (X:=X i);rw[C.hK] at h;exact h) (λ_=>zx2) ha hb
theorem zl5(ha:E3 K X O a fa)(hb:E3 K X O b fb):E3 K X O (.BinOp a .Sub b pos) (opDE (fn2 (intF λi j=>.int (i-j))) fa fb):=e_op (λi=>zum) (λ_=>zyl) ha hb
theorem z6e(ha:E3 K X O a fa)(hb:E3 K X O b fb):E3 K X O (.BinOp a .Pow b pos) (opDE (intC CPow λi j=>.int (i ^ j.toNat)) fa fb):=e_op (λi=>zsa) (λ_=>zyr) ha hb
theorem zrr(ho:∀i,OpR (X i) (U6 op) r)(hd:∀j,OpD K (O j) r F)(ha:E3 K X O a fa)(hb:E3 K X O b fb)(hm:UU op b=false):E3 K X O (.Compare a [op] [b] pos) (opDE F fa fb) :=
 let ⟨_,p1,d1⟩:=ha;let ⟨_,p2,d2⟩:=hb;⟨_,λi=>zze (ho i) (p1 i) (p2 i) hm,λj=>zlt (hd j) (d1 j) (d2 j)⟩
theorem zhl(ho:∀i,OpR (X i) (U6 op) r)(hd:∀j,OpD K (O j) r F)(ha:E3 K X O a fa)(hb:E3 K X O b fb)(hm:UU op b=false):T3 K X O (.Compare a [op] [b] pos) (bD (opDE F fa fb)) :=
 let ⟨_,p1,d1⟩:=ha;let ⟨_,p2,d2⟩:=hb;⟨_,λi=>zfc (ho i) (p1 i) (p2 i) hm,λj=>zuj (zlt (hd j) (d1 j) (d2 j))⟩
theorem zw5(C:Ctx3 P w K mg base k X):∀i,OpR (X i) (U6 .Eq) (rEqD K false):=λi=>by have h:=z2e (X:=X i) (C.room i).units;rw[C.hK] at h;exact h
theorem z5m(C:Ctx3 P w K mg base k X):∀i,OpR (X i) (U6 .NotEq) (rEqD K true):=λi=>by have h:=z2h (X:=X i) (C.room i).units;rw[C.hK] at h;exact h
theorem z6h(C:Ctx3 P w K mg base k X):∀i,OpR (X i) (U6 .In) (rInU K):=λi=>by have h:=z3t (X:=X i) (C.room i).units;rw[C.hK] at h;exact h
theorem e_eq(C:Ctx3 P w K mg base k X)(ha:E3 K X O a fa)(hb:E3 K X O b fb):E3 K X O (.Compare a [.Eq] [b] pos) (opDE (fn2 (eqF false)) fa fb):=zrr (zw5 C) (λ_=>znc false) ha hb (zb7 b)
theorem e_in(C:Ctx3 P w K mg base k X)(ha:E3 K X O a fa)(hb:E3 K X O b fb)(hm:UU .In b=false:=by rfl):E3 K X O (.Compare a [.In] [b] pos) (opDE (fn2 (inF false)) fa fb):=zrr (z6h C) (λ_=>z4k) ha hb hm
theorem zxx(ha:E3 K X O a fa)(hb:E3 K X O b fb):E3 K X O (.Compare a [.IsNot] [b] pos) (opDE (isNF true) fa fb):=zrr (λi=>zpg) (λ_=>zmv) ha hb (zb7 b)
theorem t_eq(C:Ctx3 P w K mg base k X)(ha:E3 K X O a fa)(hb:E3 K X O b fb):T3 K X O (.Compare a [.Eq] [b] pos) (bD (opDE (fn2 (eqF false)) fa fb)):=zhl (zw5 C) (λ_=>znc false) ha hb (zb7 b)
theorem t_ne(C:Ctx3 P w K mg base k X)(ha:E3 K X O a fa)(hb:E3 K X O b fb):T3 K X O (.Compare a [.NotEq] [b] pos) (bD (opDE (fn2 (eqF true)) fa fb)):=zhl (z5m C) (λ_=>znc true) ha hb (zb7 b)
theorem t_lt(ha:E3 K X O a fa)(hb:E3 K X O b fb):T3 K X O (.Compare a [.Lt] [b] pos) (bD (opDE (fn2 (intF λi j=>.bool (decide (i<j)))) fa fb)):=zhl (λi=>zqm) (λ_=>zmy) ha hb (zb7 b)
theorem t_gt(ha:E3 K X O a fa)(hb:E3 K X O b fb):T3 K X O (.Compare a [.Gt] [b] pos) (bD (opDE (fn2 (intF λi j=>.bool (decide (j<i)))) fa fb)):=zhl (λi=>zp5) (λ_=>z2q) ha hb (zb7 b)
theorem t_is(ha:E3 K X O a fa)(hb:E3 K X O b fb):T3 K X O (.Compare a [.Is] [b] pos) (bD (opDE (isNF false) fa fb)):=zhl (λi=>z3m) (λ_=>zzs) ha hb (zb7 b)
theorem z0g(ha:E3 K X O a fa)(hb:E3 K X O b fb):T3 K X O (.Compare a [.IsNot] [b] pos) (bD (opDE (isNF true) fa fb)):=zhl (λi=>zpg) (λ_=>zmv) ha hb (zb7 b)
variable {ft fu:DT}{rest:List Expr}
theorem zg7(ha:E3 K X O a fa)(he:∀i whole,isTrue a (X i).env whole=(do let v <- whole;standAt a.pos;holding [v] (truthy v)):=by intro _ _;rfl):T3 K X O a (bD fa):=let ⟨_,p,d⟩:=ha;⟨_,λi=>z1b (p i) (he i),λj=>z0x (d j)⟩
theorem zfw(h:T3 K X O a ft):T3 K X O (.UnaryOp .Not a pos) (notT ft):=let ⟨_,p,d⟩:=h;⟨_,λi=>z3a (p i),λj=>z2m (d j)⟩
theorem zeq(h:T3 K X O a ft):W3 K X O (.BoolOp .And [a] pos) ft:=let ⟨_,p,d⟩:=h;⟨_,λi=>zo8 (p i),d⟩
theorem zlz(h:T3 K X O a ft):W3 K X O (.BoolOp .Or [a] pos) ft:=let ⟨_,p,d⟩:=h;⟨_,λi=>z1k (p i),d⟩
theorem zf7(h:T3 K X O a ft)(h':W3 K X O (.BoolOp .And (b::rest) pos) fu):W3 K X O (.BoolOp .And (a::b::rest) pos) (andT ft fu):=let ⟨_,p,d⟩:=h;let ⟨_,p2,d2⟩:=h';⟨_,λi=>zsv (p i) (p2 i),λj=>z2b (d j) (d2 j)⟩
theorem w_or(h:T3 K X O a ft)(h':W3 K X O (.BoolOp .Or (b::rest) pos) fu):W3 K X O (.BoolOp .Or (a::b::rest) pos) (orT ft fu):=let ⟨_,p,d⟩:=h;let ⟨_,p2,d2⟩:=h';⟨_,λi=>z5f (p i) (p2 i),λj=>z5p (d j) (d2 j)⟩
theorem t_w(h:W3 K X O a ft):T3 K X O a ft:=let ⟨_,p,d⟩:=h;⟨_,λi=>(p i).pt,d⟩
theorem zxh(h:E3 K X O a fa):E3 K X O (.BoolOp op [a] pos) fa:=let ⟨_,p,d⟩:=h;⟨_,λi=>z1v (p i),d⟩
theorem zxk(h:E3 K X O a fa)(h':E3 K X O (.BoolOp .And (b::rest) pos) fb):E3 K X O (.BoolOp .And (a::b::rest) pos) (andV fa fb):=let ⟨_,p,d⟩:=h;let ⟨_,p2,d2⟩:=h';⟨_,λi=>z4g (p i) (p2 i),λj=>zy5 (d j) (d2 j)⟩
theorem e_if(hc:T3 K X O c ft)(ha:E3 K X O a fa)(hb:E3 K X O b fb):E3 K X O (.IfExp c a b pos) (ifD ft fa fb):=let ⟨_,p,d⟩:=hc;let ⟨_,p1,d1⟩:=ha;let ⟨_,p2,d2⟩:=hb;⟨_,λi=>zv8 (p i) (p1 i) (p2 i),λj=>z6g (d j) (d1 j) (d2 j)⟩
variable {es:List Expr}{ga:DA}
theorem zac:A3 K X O [] aNil:=⟨_,λi=>zbk,λj=>z1a⟩
theorem zab(ha:E3 K X O a fa)(hr:A3 K X O es ga)(hs:∀i,Uw (a::es) (X i).env=(false,eval a (X i).env)::Uw es (X i).env:=by intro i;rfl):A3 K X O (a::es) (zby fa ga):=let ⟨_,p,d⟩:=ha;let ⟨_,p2,d2⟩:=hr;⟨_,λi=>zaw (p i) (p2 i) (hs i),λj=>zyp (d j) (d2 j)⟩
theorem za8{n:Nat}(h:A3 K X O es ga):E3 K X O (.Tuple es n pos) (tupD ga):=let ⟨_,p,d⟩:=h;⟨_,λi=>zmp (p i),λj=>z4r (d j)⟩
theorem zbu(h:A3 K X O es ga):E3 K X O (.List es pos) (lstD ga):=let ⟨_,p,d⟩:=h;⟨_,λi=>zt4 (p i),λj=>z3n (d j)⟩
theorem zag(C:Ctx3 P w K mg base k X)(ha:E3 K X O a fa)(hb:E3 K X O b fb)(hs:zke b:=by intro _ _;rfl):E3 K X O (.Subscript a b pos) (opDE (fn2 idxF) fa fb) :=
 let ⟨_,p1,d1⟩:=ha;let ⟨_,p2,d2⟩:=hb;⟨tOp (rIx K) _ _,λi=>by have h:=zl0 (pos:=pos) (zit (X:=X i)) (p1 i) (p2 i) hs;rw[C.hK] at h;exact h,λj=>zlt zx0 (d1 j) (d2 j)⟩
theorem za6:O3 K X O none noO:=⟨_,λi=>zyv,λj=>zzl⟩
theorem za5(ha:E3 K X O a fa):O3 K X O (some a) (zxj fa):=let ⟨_,p,d⟩:=ha;⟨_,λi=>zj7 (p i),λj=>zx7 (d j)⟩
theorem zay(C:Ctx3 P w K mg base k X){lo hi:Option Expr}{fl fh:DO}{p2:Pos}(ha:E3 K X O a fa)(hl:O3 K X O lo fl)(hh:O3 K X O hi fh):E3 K X O (.Subscript a (.Slice lo hi none p2) pos) (slD fa fl fh) :=
 let ⟨_,p1,d1⟩:=ha;let ⟨_,q2,d2⟩:=hl;let ⟨_,q3,d3⟩:=hh;⟨tSl (rSl K) _ _ _,λi=>by have h:=znn (pos:=pos) (p2:=p2) (z3v (X:=X i)) (p1 i) (q2 i) (q3 i);rw[C.hK] at h;exact h,λj=>zve (d1 j) (d2 j) (d3 j)⟩
theorem zrp{x:Str}{id:String}{r:List V->Hp->VK->Prop}{F:List Uu->(R->Prop)->Prop}{p:Pos}(C:Ctx3 P w K mg base k X)(hc:∀i,CallR (X i) (.builtin id) r)(hd:∀j,zd3 K (O j) r F)(hv:U5 x=some (.builtin id))(hm:mg x=none)(ha:A3 K X O (a::es) ga)
 (hg:∀i,Gl (X i) x:=by intro i;rfl) (hn:x ≠ "__name__" := by decide) (hdb:(x == ("__debug__" : Str))=false:=by decide) (he:∀i,Uw (a::es) (X i).env=(false,eval a (X i).env)::Uw es (X i).env:=by intro i;rfl) (hpl:∀i,(UD pos (Uw es (X i).env)).any (·.1)=false:=by intro i;rfl) :
 E3 K X O (.Call (.Name x p) (a::es) [] pos) (zb6 F ga):=let ⟨_,q,d⟩:=ha;⟨_,λi=>zeh (hc i) (hg i) (by rw[C.hmg];exact hm) hv (q i) hn hdb (he i) (hpl i),λj=>znm (hd j) (d j)⟩
theorem zqe(C:Ctx3 P w K mg base k X)(hc:∀i,CallR (X i) (.type T) r)(hd:∀j,zd3 K (O j) r F)(hv:U5 x=some (.type T))(hm:mg x=none)(ha:A3 K X O (a::es) ga)
 (hg:∀i,Gl (X i) x:=by intro i;rfl) (hn:x ≠ "__name__" := by decide) (hdb:(x == ("__debug__" : Str))=false:=by decide) (he:∀i,Uw (a::es) (X i).env=(false,eval a (X i).env)::Uw es (X i).env:=by intro i;rfl) (hpl:∀i,(UD pos (Uw es (X i).env)).any (·.1)=false:=by intro i;rfl) :
 E3 K X O (.Call (.Name x p) (a::es) [] pos) (zb6 F ga):=let ⟨_,q,d⟩:=ha;⟨_,λi=>zuf (hc i) (hg i) (by rw[C.hmg];exact hm) hv (q i) hn hdb (he i) (hpl i),λj=>znm (hd j) (d j)⟩
end
theorem zmk:U5 "len" = some (.builtin "len"):=by decide +kernel
theorem z1f:U5 "all" = some (.builtin "all"):=by decide +kernel
theorem zug:U5 "sorted" = some (.builtin "sorted"):=by decide +kernel
theorem z0s:U5 "repr" = some (.builtin "repr"):=by decide +kernel
theorem z4a:U5 "int" = some (.type "int"):=by decide +kernel
theorem zxv:U5 "list" = some (.type "list"):=by decide +kernel
theorem zwc:U5 "tuple" = some (.type "tuple"):=by decide +kernel
structure Blt(mg:Str->Option Ut):Prop where
 len:mg "len" = none
 all:mg "all" = none
 any:mg "any" = none
 sorted:mg "sorted" = none
 min:mg "min" = none
 max:mg "max" = none
 repr:mg "repr" = none
 int:mg "int" = none
 list:mg "list" = none
 tuple:mg "tuple" = none
 range:mg "range" = none
 set:mg "set" = none
 isinstance:mg "isinstance" = none
 enumerate:mg "enumerate" = none
 zip:mg "zip" = none
 reversed:mg "reversed" = none
 str:mg "str" = none
 sum:mg "sum" = none
 dict:mg "dict" = none
 bool:mg "bool" = none
structure Def3(P:Uy)(w:U0)(K:Qa)(mg:Str->Option Ut)(base:Heap)(k:Nat)(x:Str)(ps:List Str)(sp:Sp):Prop where
 ex:∃f fd,FnOk P w K mg base CX0 k f fd ps sp/\mg x=some (.ref f)/\Zt K (.ref f)=true/\Binds K fd ps []
structure Top3(K:Qa)(mg:Str->Option Ut)(x:Str)(st:Stmt):Prop where
 ex:∃f fd,Fun K x x st f fd/\mg x=some (.ref f)
structure CIx where
 C:Addr
 s:Ux
 H:Hp
 ex:List Addr
def zft{ι:Type}(X:ι->Cx)(scope:UN)(N':List Str):ι×CIx->Cx:=λp=>zb1 (X p.1) scope N' p.2.C p.2.s p.2.H p.2.ex
def zja{κ:Type}(O:κ->Ob):{ p:κ×(Addr×List V) // ¬(O p.1).M p.2.1 }->Ob:=λp=>(O p.1.1).plus p.1.2.1 (.lst p.1.2.2)
def F3{ι κ:Type}(K:Qa)(X:ι->Cx)(O:κ->Ob)(ifs:List Expr)(f:DT):Prop:=∃t,(∀i,PF (X i) ifs t)/\∀j,TD K (O j) t f
def yesD:DT:=λ_ Q=>Q true
section
variable {ι κ:Type}{P:Uy}{w:U0}{K:Qa}{mg:Str->Option Ut}{base:Heap}{k:Nat}{X:ι->Cx}{O:κ->Ob}{a b c tg:Expr}{fa fb fc:DE}{pos p:Pos}{es:List Expr}{ga:DA}
theorem Ctx3.comp(C:Ctx3 P w K mg base k X)(scope:UN)(N':List Str):Ctx3 P w K mg base k (zft X scope N'):=⟨λi=>C.hP i.1,λi=>C.hw i.1,λi=>C.hK i.1,λi=>C.hmg i.1,λi=>C.hb i.1,λi=>C.calm i.1,λi=>C.room i.1,λ_=>rfl⟩
theorem zbm(C:Ctx3 P w K mg base k X)(B:Blt mg)(ha:A3 K X O [a] ga)(hg:∀i,Gl (X i) "len" := by intro i;rfl)(he:∀i,Uw [a] (X i).env=(false,eval a (X i).env)::Uw [] (X i).env:=by intro i;rfl):E3 K X O (.Call (.Name "len" p) [a] [] pos) (zb6 (fn1 lenF) ga) :=
 zrp C (λi=>by have h:=zhu (X:=X i);rw[C.hK] at h;exact h) (λ_=>z1z) zmk B.len ha hg (by decide) (by decide) he
theorem zw4(C:Ctx3 P w K mg base k X)(B:Blt mg)(ha:A3 K X O [a] ga)(hg:∀i,Gl (X i) "all" := by intro i;rfl)(he:∀i,Uw [a] (X i).env=(false,eval a (X i).env)::Uw [] (X i).env:=by intro i;rfl):E3 K X O (.Call (.Name "all" p) [a] [] pos) (zb6 (allD false) ga) :=
 zrp C (λi=>zts (C.calm i)) (λ_=>z3s false) z1f B.all ha hg (by decide) (by decide) he
theorem zfr(C:Ctx3 P w K mg base k X)(B:Blt mg)(ha:A3 K X O [a] ga)(hg:∀i,Gl (X i) "repr" := by intro i;rfl)(he:∀i,Uw [a] (X i).env=(false,eval a (X i).env)::Uw [] (X i).env:=by intro i;rfl):E3 K X O (.Call (.Name "repr" p) [a] [] pos) (zb6 (fn1 zfu) ga) :=
 zrp C (λi=>by have h:=zri (X:=X i) (C.room i).gd (C.room i).units;rw[C.hK] at h;exact h) (λ_=>zyq) z0s B.repr ha hg (by decide) (by decide) he
theorem znh(C:Ctx3 P w K mg base k X)(B:Blt mg)(ha:A3 K X O [a] ga)(hg:∀i,Gl (X i) "int" := by intro i;rfl)(he:∀i,Uw [a] (X i).env=(false,eval a (X i).env)::Uw [] (X i).env:=by intro i;rfl):E3 K X O (.Call (.Name "int" p) [a] [] pos) (zb6 (fn1 zqg) ga) :=
 zqe C (λi=>zti) (λ_=>z1e) z4a B.int ha hg (by decide) (by decide) he
theorem zhd(C:Ctx3 P w K mg base k X)(B:Blt mg)(ha:A3 K X O [a] ga)(hg:∀i,Gl (X i) "list" := by intro i;rfl)(he:∀i,Uw [a] (X i).env=(false,eval a (X i).env)::Uw [] (X i).env:=by intro i;rfl):E3 K X O (.Call (.Name "list" p) [a] [] pos) (zb6 (fn1 zqf) ga) :=
 zqe C (λi=>by have h:=zq9 (X:=X i) (C.calm i);rw[C.hK] at h;exact h) (λ_=>zye) zxv B.list ha hg (by decide) (by decide) he
theorem zcb(C:Ctx3 P w K mg base k X)(B:Blt mg)(ha:A3 K X O [a] ga)(hg:∀i,Gl (X i) "tuple" := by intro i;rfl)(he:∀i,Uw [a] (X i).env=(false,eval a (X i).env)::Uw [] (X i).env:=by intro i;rfl):E3 K X O (.Call (.Name "tuple" p) [a] [] pos) (zb6 (fn1 tupF) ga) :=
 zqe C (λi=>by have h:=zlo (X:=X i);rw[C.hK] at h;exact h) (λ_=>zuv) zwc B.tuple ha hg (by decide) (by decide) he
theorem zn7{X:Cx}:MtR X "str.join" zju:=λpins s σ H x xs v us Q I rx rv h=>zy6 pins s σ H x xs v us Q I rx rv h
theorem z1x{apos:Pos}(C:Ctx3 P w K mg base k X)(ho:E3 K X O a fa)(hb:E3 K X O b fb)(hbase:∀i,UJ a "join" (X i).env (eval a (X i).env)=eval a (X i).env:=by intro i;rfl)
 (hfew:∀i,((UD pos (Uw [b] (X i).env)).all (λx=>!x.1) && (GU pos (Gw [] (X i).env)).all (λx=>x.1.isSome) && decide (([b]:List Expr).length+([]:List Gp).length+(if([]:List Gp).isEmpty then 0 else 1)<30))=true:=by intro i;rfl)
 (hline:(apos.endLine == pos.line)=true:=by rfl) (hs:∀i,Uw [b] (X i).env = [(false,eval b (X i).env)]:=by intro i;rfl):E3 K X O (.Call (.Attribute a "join" apos) [b] [] pos) (zxu fa fb) :=
 let ⟨_,p1,d1⟩:=ho;let ⟨_,p2,d2⟩:=hb;⟨tBM K "str" zju _ (za1 _ tNil),λi=>by
  have h:=zgb (apos:=apos) (cpos:=pos) Ju YK YL (zn7 (X:=X i)) (p1 i) (zaw (p2 i) zbk (hs i)) (hbase i) (hfew i) hline (hs i);rw[C.hK] at h
  exact h,λj=>z0m (d1 j) (d2 j)⟩
theorem za4{k' n:Nat}(C:Ctx3 P w K mg base k X)(D:Def3 P w K mg base k' x ps (spO K φ n F))(hφ:∀j,φ (O j))(ha:A3 K X O (a::es) ga)(hk:k'<=k:=by decide)(hg:∀i,Gl (X i) x:=by intro i;rfl)
 (hdb:(x == ("__debug__" : Str))=false:=by decide) (he:∀i,Uw (a::es) (X i).env=(false,eval a (X i).env)::Uw es (X i).env:=by intro i;rfl) (hpl:∀i,(UD pos (Uw es (X i).env)).any (·.1)=false:=by intro i;rfl):E3 K X O (.Call (.Name x p) (a::es) [] pos) (calD n F ga):=by
 obtain⟨f,fd,G,m,kp,bn⟩:=D.ex;obtain⟨t,q,d⟩:=ha;refine⟨zcf (spO K φ n F) [] E0 t,λi=>?_,λj=>zyb (hφ j) (d j)⟩;have G':FnOk (X i).prog (X i).w (X i).K (X i).mg (X i).base CX0 k f fd ps (spO K φ n F):=by rw[C.hP,C.hw,C.hK,C.hmg,C.hb];exact G.mono hk
 exact zfq G' (C.room i) (hg i) (by rw[C.hmg];exact m) (by rw[C.hK];exact kp) (by rw[C.hK];exact bn) .nil zim (q i) hdb (he i) (hpl i)
theorem zam{k' n:Nat}(v:Nat)(C:Ctx3 P w K mg base k X)(D:Def3 P w K mg base k' x ps (spD K φ n F))(hφ:∀j,φ (O j))(ha:A3 K X O es ga)(hk:k'<=k:=by decide)(hg:∀i,Gl (X i) x:=by intro i;rfl)
 (hN:∀i,(X i).N[v]? = some y:=by intro i;rfl) (hv:∀i,Vis (X i).env.scope y:=by intro i;first|exact Or.inl rfl|exact Or.inr (Or.inl rfl)|exact Or.inr (Or.inr rfl)) (hd:(y == ("__debug__" : Str))=false:=by decide) (hcd:(y == ("__classdict__" : Str))=false:=by decide)
 (hdb:(x == ("__debug__" : Str))=false:=by decide) (he:∀i,Uw (.Name y py::es) (X i).env=(false,eval (.Name y py) (X i).env)::Uw es (X i).env:=by intro i;rfl) (hpl:∀i,(UD pos (Uw es (X i).env)).any (·.1)=false:=by intro i;rfl) :
 E3 K X O (.Call (.Name x p) (.Name y py::es) [] pos) (calO v n F ga):=by
 obtain⟨f,fd,G,m,kp,bn⟩:=D.ex;obtain⟨t,q,d⟩:=ha;refine⟨zcf (spD K φ n F) [] E0 (za1 (tVar v) t),λi=>?_,λj=>zwd (hφ j) (d j)⟩;have G':FnOk (X i).prog (X i).w (X i).K (X i).mg (X i).base CX0 k f fd ps (spD K φ n F):=by rw[C.hP,C.hw,C.hK,C.hmg,C.hb];exact G.mono hk
 exact zfq G' (C.room i) (hg i) (by rw[C.hmg];exact m) (by rw[C.hK];exact kp) (by rw[C.hK];exact bn) .nil zim (zaw (zal (hN i) (hv i) hd hcd) (q i) (he i)) hdb (he i) (hpl i)
theorem z3y(C:Ctx3 P w K mg base k X)(ha:E3 K X O a fa):I3 K X O tg a (srcL fa):=let ⟨_,p,d⟩:=ha;⟨zg5 K _,λi=>by have h:=zg3 (tg:=tg) (p i);rw[C.hK] at h;exact h,λj=>zvg (d j)⟩
theorem zxn(C:Ctx3 P w K mg base k X)(ha:E3 K X O a fa):I3 K X O tg a (srcT fa):=let ⟨_,p,d⟩:=ha;⟨iTup K _,λi=>by have h:=z3i (tg:=tg) (p i);rw[C.hK] at h;exact h,λj=>z0h (d j)⟩
theorem zxg(ha:E3 K X O a fa):I3 K X O tg a (srcS fa):=let ⟨_,p,d⟩:=ha;⟨_,λi=>z2x (p i),λj=>zx1 (d j)⟩
theorem i_r1(C:Ctx3 P w K mg base k X)(B:Blt mg)(ha:A3 K X O [a] ga)(hg:∀i,Gl (X i) "range" := by intro i;rfl)(hs:∀i,Uw [a] (X i).env = [(false,eval a (X i).env)]:=by intro i;rfl):I3 K X O tg (.Call (.Name "range" p) [a] [] pos) (zw1 ga) :=
 let ⟨_,q,d⟩:=ha;⟨_,λi=>zlk (hg i) (by rw[C.hmg];exact B.range) (q i) (hs i),λj=>zvf (d j)⟩
theorem zcd(h:I3 K X O tg a fi):J3 K X O tg a (newJ fi):=let ⟨_,p,d⟩:=h;⟨_,p,λj=>zza (d j)⟩
theorem zbv{h:Nat}(n:Nat)(hlt:n<h:=by decide)(hN:∀i,(X i).N.Nodup:=by intro i;exact Tz (by kernel_rfl))(hi:∀i,(X i).N[n]? = some x:=by intro i;rfl)(hx:∀i,Loc (X i).env.scope x:=by intro i;first|exact Or.inl rfl|exact Or.inr rfl)
 (hf:∀i,(X i).fn x=true\/(X i).env.scope.names.lookup x=some .local:=by intro i;first|exact .inl rfl|exact .inr rfl):G3 K X h (.Name x pos) (gN n):=⟨_,λi=>zdi (hN i) (hi i) (hx i) (hf i),λ_=>zyz,λ_=>zya,zei hlt⟩
def Gs3{ι:Type}(K:Qa)(X:ι->Cx)(h:Nat)(es:List Expr)(is:List Nat):Prop:=∃t,(∀i,PGs (X i) es t)/\(∀O:Ob,GSs K O t is)/\(∀O:Ob,GRs K O t is)/\zjn h t/\zjd t
theorem zcc{h:Nat}:Gs3 K X h [] []:=⟨_,λi=>zkl,λ_=>z0i,λ_=>zzx,zx4,zyk⟩
theorem zav{h:Nat}{is:List Nat}(n:Nat)(hr:Gs3 K X h es is)(hlt:n<h:=by decide)(hN:∀i,(X i).N.Nodup:=by intro i;exact Tz (by kernel_rfl))(hi:∀i,(X i).N[n]? = some x:=by intro i;rfl)(hx:∀i,Loc (X i).env.scope x:=by intro i;first|exact Or.inl rfl|exact Or.inr rfl)
 (hf:∀i,(X i).fn x=true\/(X i).env.scope.names.lookup x=some .local:=by intro i;first|exact .inl rfl|exact .inr rfl) (hs:∀i,(U3 (.Name x pos::es) (X i).env).map (·.2)=Ge (.Name x pos) (X i).env::(U3 es (X i).env).map (·.2):=by intro i;rfl):Gs3 K X h (.Name x pos::es) (n::is) :=
 let ⟨_,p,d1,d2,o,m⟩:=hr;⟨_,λi=>zge (zdi (hN i) (hi i) (hx i) (hf i)) (p i) (hs i),λO=>zv2 (d1 O),λO=>zwn (d2 O),zv6 zmt m (zei hlt) o,zvw zmt m⟩
theorem zf4{h n:Nat}{is:List Nat}{j:Nat}(C:Ctx3 P w K mg base k X)(hr:Gs3 K X h es is)(hn:is.length=n:=by rfl)(hn2:∀i,(U3 es (X i).env).length=n:=by intro i;rfl)(hst:∀i,(U3 es (X i).env).findIdx? (·.1)=none:=by intro i;rfl):G3 K X h (.Tuple es j pos) (gT is) :=
 let ⟨_,p,d1,d2,o,m⟩:=hr;⟨_,λi=>by have z:=zjk (pos:=pos) (k:=j) (C.calm i) (p i) (hn2 i) (hst i);rw[C.hK] at z;exact z,λO=>z2g hn (d1 O),λO=>z2l hn (d2 O),z0n o⟩
theorem zdx{n:Int}{j:Nat}: E3 K X O (.UnaryOp .USub (.Constant (.int n) j p2) pos) (cD (.int (-n))):=⟨tUn (rU λi=>.int (-i)) (tC (.int n)),λi=>z6k z1q zbb,λ_ σ H ρ Q Qd S h kk=>⟨n,rfl,kk _ H (.o _) (.refl _ _) (Is.int _) h⟩⟩
theorem zgh: F3 K X O' [] yesD:=⟨_,λi=>zmq,λj σ H ρ Q Qd S h k=>k true H (.refl _ _) h⟩
theorem z6c(h:T3 K X O c ft):F3 K X O [c] ft:=let ⟨_,p,d⟩:=h;⟨_,λi=>ztg (p i),d⟩
theorem zef{iter:Expr}{scope:UN}(h:Nat)(N':List Str)(C:Ctx3 P w K mg base k X)(S:∀i,ScopeOk h N' (X i).N scope (X i).env.scope)(hs:I3 K X O tg iter fi)
 (hg:G3 K (zft X scope N') h tg g) (hf:F3 K (zft X scope N') (zja O) ifs ft) (he:E3 K (zft X scope N') (zja O) elt fe) (hset:∀i x,UF iter (X i).env x=pure x:=by intro _ _;rfl) :
 E3 K X O (.ListComp elt [⟨tg,iter,ifs,0⟩] scope pos) (zq6 h fi g ft fe):=by
 obtain⟨ti,p1,d1⟩:=hs;obtain⟨tg',p2,d2,_,ow⟩:=hg;obtain⟨tf,p3,d3⟩:=hf;obtain⟨te,p4,d4⟩:=he;exact⟨_,λi=>zkp h (S i) (C.calm i) (p1 i) (λc s H ex=>p2 (i,⟨c,s,H,ex⟩)) ow (λc s H ex=>p3 (i,⟨c,s,H,ex⟩)) (λc s H ex=>p4 (i,⟨c,s,H,ex⟩)) (hset i),λj=>zpx (d1 j) d2 (λD xs nm=>d3 ⟨(j,(D,xs)),nm⟩) λD xs nm=>d4 ⟨(j,(D,xs)),nm⟩⟩
variable {st:Stmt}{sts:List Stmt}{g1 g2:DS}{ft:DT}
theorem zap:Ss3 K X O [] (λDd ρ=>Dd.nx ρ):=⟨_,λi=>zo6,λj=>zyy⟩
theorem zai(h:S3 K X O st g1):Ss3 K X O [st] g1:=let ⟨_,p,d⟩:=h;⟨_,λi=>zch (p i),d⟩
theorem zaf(h:S3 K X O st g1)(h':Ss3 K X O sts g2):Ss3 K X O (st::sts) (seqD g1 g2):=let ⟨_,p,d⟩:=h;let ⟨_,p2,d2⟩:=h';⟨_,λi=>zbp (p i) (p2 i),λj=>z1s (d j) (d2 j)⟩
theorem zar(ha:E3 K X O a fa):S3 K X O (.Return (some a) pos) (retS fa):=let ⟨_,p,d⟩:=ha;⟨_,λi=>zg1 (p i),λj=>z3e (d j)⟩
theorem zin(n:Nat)(hN:∀i,(X i).N[n]? = some x:=by intro i;rfl)(hv:∀i,Vis (X i).env.scope x:=by intro i;first|exact Or.inl rfl|exact Or.inr (Or.inl rfl)|exact Or.inr (Or.inr rfl))(hd:(x == ("__debug__" : Str))=false:=by decide)(hcd:(x == ("__classdict__" : Str))=false:=by decide):
 S3 K X O (.Return (some (.Name x px)) pos) (retO n):=⟨_,λi=>zg1 (zal (hN i) (hv i) hd hcd),λj=>zub⟩
theorem s_if(hc:T3 K X O c ft)(h:Ss3 K X O sa g1)(h':Ss3 K X O sb g2):S3 K X O (.If c sa sb pos) (ifS ft g1 g2):=let ⟨_,p,d⟩:=hc;let ⟨_,p1,d1⟩:=h;let ⟨_,p2,d2⟩:=h';⟨_,λi=>zp3 (p i) (p1 i) (p2 i),λj=>z6b (d j) (d1 j) (d2 j)⟩
theorem zaq(n:Nat)(ha:E3 K X O a fa)(hN:∀i,(X i).N.Nodup:=by intro i;exact Tz (by kernel_rfl))(hi:∀i,(X i).N[n]? = some x:=by intro i;rfl)(hx:∀i,Loc (X i).env.scope x:=by intro i;first|exact Or.inl rfl|exact Or.inr rfl)
 (hs:∀i,UZ a (some (.Name x px)) pos.line (X i).env=pure false:=by intro i;rfl) (hf:∀i,(X i).fn x=true\/(X i).env.scope.names.lookup x=some .local:=by intro i;first|exact .inl rfl|exact .inr rfl):S3 K X O (.Assign [.Name x px] a pos) (asgS n fa) :=
 let ⟨_,p,d⟩:=ha;⟨_,λi=>zc5 (hN i) (hi i) (hx i) (p i) (hs i) (hf i),λj=>ztd (d j)⟩
theorem z3f(n:Nat){iter:Expr}{scope:UN}(h:Nat)(N':List Str)(C:Ctx3 P w K mg base k X)(S:∀i,ScopeOk h N' (X i).N scope (X i).env.scope)(hs:I3 K X O tg iter fi)
 (hg:G3 K (zft X scope N') h tg g) (hf:F3 K (zft X scope N') (zja O) ifs ft) (he:E3 K (zft X scope N') (zja O) elt fe) (hN:∀i,(X i).N.Nodup:=by intro i;exact Tz (by kernel_rfl)) (hi:∀i,(X i).N[n]? = some x:=by intro i;rfl) (hx:∀i,(X i).env.scope.names.lookup x=some .local:=by intro i;rfl)
 (hsw:∀i,UZ (.ListComp elt [⟨tg,iter,ifs,0⟩] scope p0) (some (.Name x px)) pos.line (X i).env=pure true:=by intro i;rfl) (hset:∀i x,UF iter (X i).env x=pure x:=by intro _ _;rfl) :
 S3 K X O (.Assign [.Name x px] (.ListComp elt [⟨tg,iter,ifs,0⟩] scope p0) pos) (asgS n (zq6 h fi g ft fe)):=by
 obtain⟨ti,p1,d1⟩:=hs;obtain⟨tg',p2,d2,_,ow⟩:=hg;obtain⟨tf,p3,d3⟩:=hf;obtain⟨te,p4,d4⟩:=he;exact⟨_,λi=>zjh (hN i) (hi i) (hx i) (hsw i) h (S i) (C.calm i) (p1 i) (λc s H ex=>p2 (i,⟨c,s,H,ex⟩)) ow (λc s H ex=>p3 (i,⟨c,s,H,ex⟩)) (λc s H ex=>p4 (i,⟨c,s,H,ex⟩)) (hset i),λj=>ztd (zpx (d1 j) d2 (λD xs nm=>d3 ⟨(j,(D,xs)),nm⟩) λD xs nm=>d4 ⟨(j,(D,xs)),nm⟩)⟩
theorem zrn{X:Cx}:MtR X "list.append" zhe:=λpins s σ H x xs v us Q I rx rv h=>zlc pins s σ H x xs v us Q I rx rv h
theorem zet(n:Nat){apos cpos:Pos}(C:Ctx3 P w K mg base k X)(hb:E3 K X O b fb)(hN:∀i,(X i).N[n]? = some x:=by intro i;rfl)(hv:∀i,Vis (X i).env.scope x:=by intro i;first|exact Or.inl rfl|exact Or.inr (Or.inl rfl)|exact Or.inr (Or.inr rfl))(hd:(x == ("__debug__" : Str))=false:=by decide)(hcd:(x == ("__classdict__" : Str))=false:=by decide)
 (hbase:∀i,UJ (.Name x px) "append" (X i).env (eval (.Name x px) (X i).env)=eval (.Name x px) (X i).env:=by intro i;rfl)
 (hfew:∀i,((UD cpos (Uw [b] (X i).env)).all (λx=>!x.1) && (GU cpos (Gw [] (X i).env)).all (λx=>x.1.isSome) && decide (([b]:List Expr).length+([]:List Gp).length+(if([]:List Gp).isEmpty then 0 else 1)<30))=true:=by intro i;rfl)
 (hline:(apos.endLine == cpos.line)=true:=by rfl) (hs:∀i,Uw [b] (X i).env = [(false,eval b (X i).env)]:=by intro i;rfl) (hsw:∀i,UZ (.Call (.Attribute (.Name x px) "append" apos) [b] [] cpos) none pos.line (X i).env=pure false:=by intro i;rfl) :
 S3 K X O (.Expr (.Call (.Attribute (.Name x px) "append" apos) [b] [] cpos) pos) (appS n fb):=let ⟨_,p2,d2⟩:=hb;
 ⟨zjc (tBM K "list" zhe (tVar n) (za1 _ tNil)),λi=>by
  have h:=zgb (apos:=apos) (cpos:=cpos) Jl PySem.F.slot_list_append PySem.F.type_list_append (zrn (X:=X i)) (zal (pos:=px) (hN i) (hv i) hd hcd) (zaw (p2 i) zbk (hs i)) (hbase i) (hfew i) hline (hs i);rw[C.hK] at h
  exact zpf h (hsw i),λj=>zrt (d2 j)⟩
theorem zm3{X:Cx}(h:X.xe=λ_ _=>False):Tn (model X.prog X.w) X.A X.env X.xe:=by rw[h];exact YI
theorem zcm{iter:Expr}{body:List Stmt}{hh:Nat}(C:Ctx3 P w K mg base k X)(hi:J3 K X O tg iter fj)(hg:G3 K X hh tg g)(hb:Ss3 K X O body g1)(hs:∀i x,UF iter (X i).env x=pure x:=by intro _ _;rfl):S3 K X O (.For tg iter body [] pos) (forS fj g g1):=by
 obtain⟨ti,p1,d1⟩:=hi;obtain⟨tg',p2,_,d2,_⟩:=hg;obtain⟨tb,p3,d3⟩:=hb;exact⟨_,λi=>zm4 (zm3 (C.xe i)) (C.calm i) (p1 i) (p2 i) (p3 i) (hs i),λj=>z4s (d1 j) (d2 (O j)) (d3 j)⟩
end
theorem len1(hl:us.length=1)(h:∀u0,UK fd ⟨[u0],[]⟩=pure ([p0].zip [u0])):UK fd ⟨us,[]⟩=pure ([p0].zip us):=by
 match us,hl with
 | [u0],_=>exact h u0
theorem len2(hl:us.length=2)(h:∀u0 u1,UK fd ⟨[u0,u1],[]⟩=pure ([p0,p1].zip [u0,u1])):UK fd ⟨us,[]⟩=pure ([p0,p1].zip us):=by
 match us,hl with
 | [u0,u1],_=>exact h u0 u1
theorem len3(hl:us.length=3)(h:∀u0 u1 u2,UK fd ⟨[u0,u1,u2],[]⟩=pure ([p0,p1,p2].zip [u0,u1,u2])):UK fd ⟨us,[]⟩=pure ([p0,p1,p2].zip us):=by
 match us,hl with
 | [u0,u1,u2],_=>exact h u0 u1 u2
theorem len4(hl:us.length=4)(h:∀u0 u1 u2 u3,UK fd ⟨[u0,u1,u2,u3],[]⟩=pure ([p0,p1,p2,p3].zip [u0,u1,u2,u3])):UK fd ⟨us,[]⟩=pure ([p0,p1,p2,p3].zip us):=by
 match us,hl with
 | [u0,u1,u2,u3],_=>exact h u0 u1 u2 u3
theorem len5(hl:us.length=5)(h:∀u0 u1 u2 u3 u4,UK fd ⟨[u0,u1,u2,u3,u4],[]⟩=pure ([p0,p1,p2,p3,p4].zip [u0,u1,u2,u3,u4])):UK fd ⟨us,[]⟩=pure ([p0,p1,p2,p3,p4].zip us):=by
 match us,hl with
 | [u0,u1,u2,u3,u4],_=>exact h u0 u1 u2 u3 u4
section
variable {P:Uy}{w:U0}{K:Qa}{mg:Str->Option Ut}{base:Heap}{k n:Nat}{x:Str}{st:Stmt}{N ps:List Str}{φ:Ob->Prop}{F:List Uu->(R->Prop)->Prop}
abbrev zc2(P:Uy)(w:U0)(K:Qa)(mg:Str->Option Ut)(base:Heap)(N:List Str)(x:Str)(sc:UN)(f:Addr)(cdv:Ut)(A:U9)(outer:List Env)(s:Ux)(H:Hp)(E:XK):Unit->Cx:=λ_=>(cxOf CX0 P w K mg base N x sc f cdv A outer s H E).nox
theorem zgf{outer:List Env}(hr:Room k (A.deeper (G6 x sc s.heap.objs.size f cdv))):Ctx3 P w K mg base k (zc2 P w K mg base N x sc f cdv A outer s H E) :=
 ⟨λ_=>rfl,λ_=>rfl,λ_=>rfl,λ_=>rfl,λ_=>rfl,λ_=>rfl,λ_=>hr,λ_=>rfl⟩
theorem mk_O(T:Top3 K mg x st)(S:FnScope N ps (zah st))(hb:∀(kV doc pm:Ut) (an:Option Addr) (cdv ct:Ut) (us:List Ut),us.length=ps.length->UK (Zq x x (zb8 st) (zbi st) (zah st) .none kV doc pm an cdv ct) ⟨us,[]⟩=pure (ps.zip us))(hn:ps.length=n)
 (body:∀(f:Addr) (cdv:Ut) (A:U9) (outer:List Env) (s:Ux) (H:Hp) (E:XK) (O:Ob),φ O->Ctx3 P w K mg base k (zc2 P w K mg base N x (zah st) f cdv A outer s H E) ->
  ∃g,Ss3 K (zc2 P w K mg base N x (zah st) f cdv A outer s H E) (λ_:Unit=>O) (zbi st) g/\∀ds Qr,ds.length=n->F ds Qr->g { nx:=λ_=>Qr (.o .none),rt:=Qr } (zb0 N (ds.map .im))):Def3 P w K mg base (k+1) x ps (spO K φ n F):=by
 obtain⟨f,fd,Fu,m⟩:=T.ex;refine⟨f,fd,Fu.ok S (zys hn) (λcdv A outer s H vs Q E hr h=>?_),m,Fu.kp,Fu.binds hb⟩;obtain⟨O,ds,Qr,ok,hφ,p,hl,is,q,kk⟩:=h;obtain⟨g,⟨t,h1,h2⟩,h3⟩:=body f cdv A outer s H E O hφ (zgf hr);exact⟨t,h1 (),z5x (h2 ()) ok p is (h3 ds Qr hl q) kk⟩
theorem mk_D(T:Top3 K mg x st)(S:FnScope N ps (zah st))(hb:∀(kV doc pm:Ut) (an:Option Addr) (cdv ct:Ut) (us:List Ut),us.length=ps.length->UK (Zq x x (zb8 st) (zbi st) (zah st) .none kV doc pm an cdv ct) ⟨us,[]⟩=pure (ps.zip us))(hn:ps.length=n+1)
 (body:∀(f:Addr) (cdv:Ut) (A:U9) (outer:List Env) (s:Ux) (H:Hp) (E:XK) (O:Ob),φ O->Ctx3 P w K mg base k (zc2 P w K mg base N x (zah st) f cdv A outer s H E) ->
  ∃g,Ss3 K (zc2 P w K mg base N x (zah st) f cdv A outer s H E) (λ_:Unit=>O) (zbi st) g/\∀ds Qr,ds.length=n->F ds Qr->g { nx:=λ_=>Qr (.o .none),rt:=Qr } (zb0 N (.ob::ds.map .im))):Def3 P w K mg base (k+1) x ps (spD K φ n F):=by
 obtain⟨f,fd,Fu,m⟩:=T.ex;refine⟨f,fd,Fu.ok S (zpb hn) (λcdv A outer s H vs Q E hr h=>?_),m,Fu.kp,Fu.binds hb⟩;obtain⟨O,ds,ws,Qr,ok,hφ,p,hl,rfl,is,q,kk⟩:=h;obtain⟨g,⟨t,h1,h2⟩,h3⟩:=body f cdv A outer s H E O hφ (zgf hr);exact⟨t,h1 (),z5o (h2 ()) ok p is (h3 ds Qr hl q) kk⟩
end
structure PotStp(a l:Addr)(H H':Hp):Prop where
 oth:∀b,b≠a->b≠l->H' b=H b
theorem PotStp.refl(a l:Addr)(H:Hp):PotStp a l H H:=⟨λ_ _ _=>rfl⟩
theorem PotStp.trans(x:PotStp a l H H1)(y:PotStp a l H1 H2):PotStp a l H H2:=⟨λb h1 h2=>(y.oth b h1 h2).trans (x.oth b h1 h2)⟩
theorem PotStp.upA(o:HO):PotStp a l H (upd H a o):=⟨λb h1 _=>zae h1⟩
theorem PotStp.upL(o:HO):PotStp a l H (upd H l o):=⟨λb _ h2=>zae h2⟩
abbrev lenR(K:Qa):List V->Hp->VK->Prop:=λxs H Q=>∃x n,xs = [x]/\LenV K x H n/\Q (.int n) H
def zcu:List Uu->(R->Prop)->Prop:=λds Q=>∃m:Int,ds = [.int m]/\0<m/\m<1073741824/\∀k,0<=k->k<m->Q (.o (.int k))
theorem ztk: MtR X "list.pop" zjb:=λpins s σ H x xs v us Q I rx rv h=>zu5 pins s σ H x xs v us Q I rx rv h
theorem zvy(ns:List Int)(lo hi:Option Int):cutV (ns.map V.int) lo hi=(cutL ns lo hi).map V.int:=by
 unfold cutV cutL;rw[Qb,Ve,Vf]
def abc:List Nat:=(ZN 26).map (· + 97)
def zdv(c:Nat):Prop:=97<=c/\c<123
theorem zk0:∀(l:List Nat) (acc:Array Nat),(l.map sg).foldl (λacc p=>acc++(QH "").cps++p.cps) acc=acc++l.toArray
 | [],acc=>by simp
 | c::r,acc=>by
   rw[QD,YG,zk0 r];have e:(QH "").cps = #[]:=by decide +kernel
   rw[e];apply VD.mp;simp[sg]
theorem zpm(w:List Nat):Ub "" (w.map sg)=tx w:=by
 cases w with
 | nil=>decide +kernel
 | cons c r=>
   show V0 (QH "") (sg c::r.map sg)=tx (c::r);unfold V0;show(⟨(r.map sg).foldl _ (sg c).cps⟩:Str)=_;rw[zk0];unfold tx sg
   congr 1
   apply VD.mp;simp
theorem z4t(c:Nat):(sg c).length=1:=rfl
theorem zsz(w:List Nat):((w.map sg).map (·.length)).sum=w.length:=by
 induction w with
 | nil=>rfl
 | cons c r ih=>rw[QD,QD,List.sum_cons,ih,z4t,Qj];lia
theorem unsg:∀{zs:List Str},(∀z∈zs,∃c,z=sg c/\zdv c)->∃w:List Nat,zs=w.map sg/\∀c∈w,zdv c
 | [],_=>⟨[],rfl,by simp⟩
 | z::zs,h=>by
   obtain⟨c,rfl,hc⟩:=h z Qw;obtain⟨w,rfl,hw⟩:=unsg (zs:=zs) λy hy=>h y (Qq _ hy);exact⟨c::w,rfl,λd hd=>by rcases Q3.mp hd with e|e;(rw[e];exact hc);exact hw d e⟩
theorem zlm{α β:Type}(f:α->β):∀(l:List α) (i:Nat),(l.map f).eraseIdx i=(l.eraseIdx i).map f
 | [],_=>rfl
 | _::_,0=>rfl
 | a::l,i+1=>by rw[QD,JK,JK,QD,zlm f l i]
theorem znk{α:Type}{l:List α}{i:Nat}{x:α}(h:x∈l.eraseIdx i):x∈l:=List.mem_of_mem_eraseIdx h
theorem zk3{α:Type}:∀{l:List α} {i:Nat} (h:i<l.length),([l[i]]++l.eraseIdx i).Perm l
 | a::l,0,_=>.refl _
 | a::l,i+1,h=>by
   have h':i<l.length:=by simpa using h
   have ih:=zk3 (l:=l) (i:=i) h';show(l[i]::a::l.eraseIdx i).Perm (a::l);exact(List.Perm.swap a l[i] _).trans (List.Perm.cons a ih)
theorem z2i{a b:Nat}(h:sg a=sg b):a=b:=by
 have:=congrArg (λx:Str=>x.cps.toList) h;simpa[sg] using this
theorem zho:∀{w:List Nat} {x:Nat},risingS (sg x) (w.map sg)=true->(∀c∈w,x<=c)/\w.Pairwise (·<=·)
 | [],_,_=>⟨λ_ h=>(nomatch h),.nil⟩
 | y::r,x,h=>by
   have h:(!(decide (y<x) || (y == x && false)) && risingS (sg y) (r.map sg))=true:=h;rw[VY,Vc,Qu,Vz,decide_eq_false_iff_not] at h;obtain⟨h1,h2⟩:=zho (w:=r) (x:=y) h.2;refine⟨λc hc=>?_,.cons h1 h2⟩;rcases Q3.mp hc with rfl|hc
   .lia
   .have:=h1 c hc;lia
theorem zp8:∀{w:List Nat},sortedS (w.map sg)=true->w.Nodup->w.Pairwise (· < ·)
 | [],_,_=>.nil
 | x::r,h,hn=>by
   obtain⟨h1,h2⟩:=zho (w:=r) (x:=x) h;obtain⟨n1,n2⟩:=JF.mp hn;refine .cons (λc hc=>Vn (h1 c hc) λe=>n1 (e ▸ hc)) ?_;exact(List.Pairwise.and h2 n2).imp λ⟨a,b⟩=>Vn a b
theorem zu9{w:List Nat}(h:∀c∈w,zdv c):QR (tx w)=true:=by
 unfold QR tx;rw[Yt];intro c hc;have:=(h c (by simpa using hc)).2;simp;lia
theorem zbc{neg:Bool}(hx:QR x=true)(hy:QR y=true):eqF neg (.str x) (.str y)=some (.o (.bool (if neg then !(x == y) else x == y))):=by
 unfold eqF;rw[T0 (by simp[okD,ZE,J7,hx,hy])];rfl
theorem z1h{w:List Nat}(h:tx v=tx w):v=w:=by
 have:=congrArg (λx:Str=>x.cps.toList) h;simpa[tx] using this
theorem znt(v w:List Nat):(tx v == tx w)=decide (v=w):=by
 by_cases e:v=w
 .subst e;simp
 .rw[TF e];exact beq_eq_false_iff_ne.mpr λh=>e (z1h h)
theorem zg9{neg:Bool}{i j:Int}:eqF neg (.int i) (.int j)=some (.o (.bool (if neg then !decide (i=j) else decide (i=j)))):=by
 unfold eqF;have e:(okD (JW i) && (JW j).canLay0)=true:=by simp[okD,ZE,J7]
 rw[T0 e];rfl
theorem zzk{α:Type}{enc:α->Uu}{i:Nat}{fe:DE}{ρ:DSt}{Q:List Uu->Prop}{as:List α}{e:α->Uu}{h:Nat}(step:∀a∈as,∀P:R->Prop,(∀r,r.d=e a->P r)->fe ((Qv h none++ρ).set i (some (.im (enc a)))) P)(hz:as.length<=sizeLine)(q:Q (as.map e)):
 zbg h (gN i) yesD fe ρ Q (as.map enc) []:=by
 have key:∀(as:List α) (acc:List Uu),(∀a∈as,∀P:R->Prop,(∀r,r.d=e a->P r)->fe ((Qv h none++ρ).set i (some (.im (enc a)))) P)->acc.length+as.length<=sizeLine->Q (acc++as.map e)->zbg h (gN i) yesD fe ρ Q (as.map enc) acc:=by
  intro as
  induction as with
  | nil=>intro acc _ _ q;show Q acc;simpa using q
  | cons a as ih=>
    intro acc st hz q;rw[Qj] at hz;refine st a Qw _ λr hr=>?_;refine⟨by lia,?_⟩;rw[hr];exact ih (acc ++ [e a]) (λa' ha=>st a' (Qq _ ha)) (by rw[Qf];simp;lia) (by simpa using q)
 exact key as [] step (by simpa using hz) (by simpa using q)
theorem zbe(J:Nat->DSt->Prop)(h0:J 0 ρ)(fin:∀ρ,J ds.length ρ->Dd.nx ρ)
 (step:∀(j:Nat) d ρ (N:DSt->Prop),ds[j]? = some d->(∀ρ',J (j+1) ρ'->N ρ')->J j ρ->flat d=true/\g d ρ λρ2=>gb { Dd with nx:=N,ct:=N,bk:=Dd.nx } ρ2):zd4 g gb Dd ds ρ:=by
 have key:∀(k j:Nat),j+k=ds.length->∀ρ,J j ρ->zd4 g gb Dd (ds.drop j) ρ:=by
  intro k
  induction k with
  | zero=>
    intro j hj ρ h;rw[Z4 (by lia)];have e:j=ds.length:=by lia
    rw[e] at h;exact fin ρ h
  | succ k ih=>
    intro j hj ρ h;have hlt:j<ds.length:=by lia
    rw[QX hlt];exact step j ds[j] ρ _ (Qi hlt) (λρ' h'=>ih (j+1) (by lia) ρ' h') h
 have:=key ds.length 0 (by lia) ρ h0;simpa using this
theorem zcy(lo:Int)(n:Nat):(zer lo n).length=n:=by simp[zer]
theorem zo0(w:List Nat):(sgs (tx w)).length=w.length:=by simp[sgs,tx]
theorem zpl{w:List Nat}{j:Nat}{d:Uu}(h:(sgs (tx w))[j]? = some d):∃c,w[j]? = some c/\d = .str (sg c):=by
 unfold sgs at h;rw[zdp,Qs] at h;obtain⟨c,hc,rfl⟩:=Q4.mp h;exact⟨c,hc,rfl⟩
theorem zao{α:Type}{f:α->Uu}(h:∀a,flat (f a)=true):∀l:List α,flats (l.map f)=true
 | []=>rfl
 | a::l=>by rw[QD,flats,h a,zao h l];rfl
abbrev LowW(w:List Nat):Prop:=∀c∈w,zdv c
theorem zfn(w:List Nat):(tx w).length=w.length:=by simp[tx,Vj]
theorem zej{w:List Nat}(h:w.length<=16777216):lenF [.str (tx w)]=some (.o (.int w.length)):=by
 unfold lenF;dsimp only;rw[zfn,T0 (by rw[Uz];exact h)]
theorem zrx{w:List Nat}{k:Nat}(h:k<w.length)(hl:w.length<=16777216):idxF (.str (tx w)) (.int (k:Nat))=some (.o (.str (tx [w[k]]))):=by
 unfold idxF;dsimp only;rw[zfn,T0 (by rw[Uz];exact hl),zdp,zkb (v:=w[k]) (by rw[Qi h])];rfl
theorem zil{w:List Nat}(h:v.length+w.length<=16777216):addF (.str (tx v)) (.str (tx w))=some (.o (.str (tx (v++w)))):=by
 unfold addF;dsimp only;rw[zfn,zfn,T0 (by rw[Uz];exact h)]
 have e:tx v++tx w=tx (v++w):=by
  show Str.mk _=Str.mk _;simp[tx]
 rw[e]
theorem zhf(n d m:Nat):HT.sIx n d (some (m:Int))=min m n:=by
 have:=zh7 n d (m:Int);rw[TB (by lia)] at this;lia
theorem zny(n d:Nat):HT.sIx n d none=d:=rfl
theorem zdq{α:Type}(xs:List α)(m:Nat):cutL xs none (some (m:Int))=xs.take m:=by
 unfold cutL;rw[zhf,zny,Ys,Nat.sub_zero,YM,Nat.min_assoc,Nat.min_self,<- YM]
theorem zcx{α:Type}(xs:List α)(m:Nat):cutL xs (some (m:Int)) none=xs.drop m:=by
 unfold cutL;rw[zhf,zny];rcases Nat.le_total m xs.length with h|h
 .rw[Jw h,Js (by rw[QO];exact Qm _)]
 .rw[VE h,Z4 (Qm _),Z4 h,Uj]
theorem zex{v:List Nat}{lo hi:Option Int}(h:v.length<=16777216):slcF lo hi (.str (tx v))=some (.o (.str (tx (cutL v lo hi)))):=by
 unfold slcF;dsimp only;rw[zfn,zdp,T0 (by rw[Uz];exact h)]
theorem z4q{o:Nat}{m:Int}(hρ:ρ[o]? = some (some .ob))(h0:0<m)(h1:m<1073741824)(q:∀k:Nat,(k:Int)<m->Q (.o (.int (k:Nat)))):calO o 1 zcu (zby (cD (.int m)) aNil) ρ Q:=by
 refine⟨hρ,rfl,m,rfl,h0,h1,λk k0 k1=>?_⟩;have:=q k.toNat (by lia);rwa [show((k.toNat:Nat):Int)=k by lia] at this
theorem znv{o i:Nat}{d:Uu}{n:Nat}(hρ:ρ[o]? = some (some .ob))(hi:ρ[i]? = some (some v))(hv:seeR v=some d)(hl:lenF [d]=some (.o (.int (n:Nat))))(h0:0<n)(h1:n<1073741824)(q:∀k:Nat,k<n->Q (.o (.int (k:Nat)))):
 calO o 1 zcu (zby (zb6 (fn1 lenF) (zby (vD i) aNil)) aNil) ρ Q:=by
 refine⟨hρ,_,_,hi,hv,_,hl,rfl,_,rfl,by lia,by lia,λk k0 k1=>?_⟩;have:=q k.toNat (by lia);rwa [show((k.toNat:Nat):Int)=k by lia] at this
theorem zky{o i:Nat}(hρ:ρ[o]? = some (some .ob))(hi:ρ[i]? = some (some (.im (.str (tx ls)))))(hn:ls≠[])(hl:ls.length<=1000)(q:∀c∈ls,Q (.o (.str (tx [c])))):
 opDE (fn2 idxF) (vD i) (calO o 1 zcu (zby (zb6 (fn1 lenF) (zby (vD i) aNil)) aNil)) ρ Q:=by
 have h0:0<ls.length:=YZ.mpr hn;refine⟨_,_,hi,rfl,znv hρ hi rfl (zej (by lia)) h0 (by lia) λk hk=>⟨_,zrx hk (by lia),q _ (ZA hk)⟩⟩
theorem zvj{α β:Type}{enc:α->Uu}{enc2:β->Uu}{good:β->Prop}{i h:Nat}{ft:DT}{fe:DE}{ρ:DSt}{Q:List Uu->Prop}{as:List α}
 (step:∀a∈as,∀(Pn:Prop) (Py:Uu->Prop),Pn->(∀b,good b->Py (enc2 b))->ft ((Qv h none++ρ).set i (some (.im (enc a)))) λt=>if t=true then fe ((Qv h none++ρ).set i (some (.im (enc a)))) (λr=>Py r.d) else Pn)
 (hz:as.length<=1000) (q:∀bs:List β,(∀b∈bs,good b)->bs.length<=as.length->Q (bs.map enc2)):zbg h (gN i) ft fe ρ Q (as.map enc) []:=by
 have sz:=Uz
 have key:∀(l:List α) (bs:List β),(∀a∈l,a∈as)->(∀b∈bs,good b)->bs.length+l.length<=as.length->zbg h (gN i) ft fe ρ Q (l.map enc) (bs.map enc2):=by
  intro l
  induction l with
  | nil=>intro bs _ hb hl;exact q bs hb hl
  | cons a l ih=>
    intro bs hs hb hl;rw[Qj] at hl;refine step a (hs a Qw) _ (λd=>(bs.map enc2).length<sizeLine/\zbg h (gN i) ft fe ρ Q (l.map enc) (bs.map enc2 ++ [d])) (ih bs (λx hx=>hs x (Qq _ hx)) hb (by lia)) λb gb=>⟨by rw[Qb];lia,?_⟩;have:=ih (bs ++ [b]) (λx hx=>hs x (Qq _ hx)) (λx hx=>by rcases Q6.mp hx with hx|hx;(exact hb x hx);(rw[Qn.mp hx];exact gb)) (by rw[Qf];simp;lia);rwa [QI] at this
 exact key as [] (λ_ h=>h) (by simp) (by simp)
theorem z0q(ws:List Nat)(hl:ws.length<=1000):∃ys:List Str,VN (ws.map λc=>.str (tx [c])) = .list (ys.map .str)/\(ys.map (·.length)).sum+ys.length * (QH "").length<=16777216/\Ub "" ys=tx ws:=by
 refine⟨ws.map sg,by rw[Jt];rfl,?_,zpm ws⟩;have e0:(QH "").length=0:=by decide +kernel
 rw[zsz,e0];lia
theorem zd9(J:DSt->Prop)(hg:∀N:DSt->Prop,(∀ρ,J ρ->N ρ)->g { Dd with nx:=N } ρ)(hk:∀ρ,J ρ->k Dd ρ):seqD g k Dd ρ:=hg (k Dd) hk
theorem zpp{w:List Nat}(h:LowW v)(h2:LowW w):LowW (v++w):=λx hx=>by
 rcases Q6.mp hx with hx|hx
 .exact h x hx
 .exact h2 x hx
theorem zzu{w:List Nat}(h:LowW w){c:Nat}(hc:c∈w):LowW [c]:=λx hx=>by rw[Qn.mp hx];exact h c hc
theorem zvt{w:List Nat}(h:LowW w)(n:Nat):LowW (w.take n):=λx hx=>h x (Je hx)
theorem zng{w:List Nat}(h:LowW w)(n:Nat):LowW (w.drop n):=λx hx=>h x (List.mem_of_mem_drop hx)
def zii(K:Qa):Sp:=λvs H Q _=>∃(a:Addr) (ns:List Int),vs = [.ref a]/\SqL K H a (ns.map V.int)/\ns.length<=63/\∀H',Q (.bl true) H'
section
open PySem PySem.Builtin PySem.Builtin.Str
def sOk(x:Um):Prop:=∀c∈x.cps.toList,c<0x110000
theorem strOk_iff: QR x=true↔sOk x:=by
 unfold QR sOk;rw[Yt];simp
theorem zd8(hx:sOk x)(hy:sOk y):sOk (x++y):=by
 intro c hc
 have e:(x++y).cps.toList=x.cps.toList++y.cps.toList:=by
  show(x.cps++y.cps).toList=_;simp
 rw[e] at hc;rcases Q6.mp hc with hc|hc
 .exact hx c hc
 .exact hy c hc
theorem zo5(c:Char):c.toNat<0x110000:=by
 have:=c.valid;rcases this with h|h
 .exact Nat.lt_trans h (by decide)
 .exact h.2
theorem zc6(s:String):sOk (PySem.Str.ofString s):=by
 intro c hc;have:c∈(s.toList.map YA):=by rw[PySem.Str.ofString_eq_toList] at hc;simpa using hc
 obtain⟨d,_,rfl⟩:=QS.mp this;exact zo5 d
theorem zh6(hs:sOk sep):∀{l:List Um},(∀x∈l,sOk x)->sOk (PySem.Str.join sep l)
 | [],_=>λc hc=>by cases hc
 | [x],h=>h x (by simp)
 | x::y::r,h=>zd8 (zd8 (h x (by simp)) hs) (zh6 hs (l:=y::r) λz hz=>h z (Qq _ hz))
theorem z6j{q c:Nat}(hc:c<0x110000):∀x∈reprChar q c,x<0x110000:=by
 have hex:∀w:Nat,∀x∈(Qv (w-((JQ 16 c).map YA).length) 48++(JQ 16 c).map YA),x<0x110000:=by
  intro w x hx;rcases Q6.mp hx with hx|hx
  .rw[(List.mem_replicate.mp hx).2];decide
  .obtain⟨d,_,rfl⟩:=QS.mp hx;exact zo5 d
 have two:∀a b:Nat,a<0x110000->b<0x110000->∀x∈[a,b],x<0x110000:=by
  intro a b ha hb x hx;rcases Q3.mp hx with rfl|hx
  .exact ha
  .rw[Qn.mp hx];exact hb
 have tw:∀a b w:Nat,a<0x110000->b<0x110000->∀x∈[a,b]++(Qv (w-((JQ 16 c).map YA).length) 48++(JQ 16 c).map YA),x<0x110000:=by
  intro a b w ha hb x hx;rcases Q6.mp hx with hx|hx
  .exact two a b ha hb x hx
  .exact hex w x hx
 intro x;unfold reprChar;dsimp only
 split
 .exact two _ _ (by decide) hc x
 split
 .exact two _ _ (by decide) (by decide) x
 split
 .exact two _ _ (by decide) (by decide) x
 split
 .exact two _ _ (by decide) (by decide) x
 split
 .intro hx;rw[Qn.mp hx];exact hc
 split
 .exact tw _ _ 2 (by decide) (by decide) x
 split
 .exact tw _ _ 4 (by decide) (by decide) x
 .exact tw _ _ 8 (by decide) (by decide) x
theorem zuo(h:sOk x):sOk (reprText x):=by
 have key:∀(q:Nat) (l:List Nat) (acc:Array Nat),(∀c∈l,c<0x110000)->(∀c∈acc.toList,c<0x110000)->∀c∈(l.foldl (λout c=>out++(reprChar q c).toArray) acc).toList,c<0x110000:=by
  intro q l
  induction l with
  | nil=>intro acc _ ha;exact ha
  | cons c l ih=>
    intro acc hl ha;refine ih _ (λd hd=>hl d (Qq _ hd)) λd hd=>?_;rw[Array.toList_append] at hd;rcases Q6.mp hd with hd|hd
    .exact ha d hd
    .exact z6j (hl c Qw) d (by simpa using hd)
 have hq:reprQuote x<0x110000:=by unfold reprQuote;split <;> decide
 intro c hc;unfold reprText at hc;rw[Array.toList_push,<- Array.foldl_toList] at hc;rcases Q6.mp hc with hc|hc
 .have h0:∀d∈(#[reprQuote x]:Array Nat).toList,d<0x110000:=λd hd=>by
   have e:d=reprQuote x:=by simpa using hd
   rw[e];exact hq
  exact key _ _ _ h h0 c hc
 .rw[Qn.mp hc];exact hq
end
open PySem PySem.Spec
open PyProof.Rows hiding St
open L2
mutual
theorem zkr:∀d:Uu,d.canLay0=true->sOk d.shown
 | .none,_=>by rw[PyData.shown_none];exact zc6 _
 | .bool b,_=>by rw[PyData.shown_bool];cases b <;> exact zc6 _
 | .int i,_=>by rw[VF];exact zc6 _
 | .str x,h=>by rw[PyData.shown_str];exact zuo (strOk_iff.mp (by simpa[ZE] using h))
 | .list xs,h=>by
   rw[PyData.shown_list];exact zd8 (zd8 (zc6 _) (zh6 (zc6 _) (zen xs (by simpa[ZE] using h)))) (zc6 _)
 | .tuple xs,h=>by
   rw[PyData.shown_tuple];exact zd8 (zd8 (zc6 _) (zh6 (zc6 _) (zen xs (by simpa[ZE] using h)))) (zc6 _)
 | .dict _,h=>by simp[ZE] at h
theorem zen:∀xs:List Uu,Zx xs=true->∀x∈VQ xs,sOk x
 | [],_,_,hx=>by simp[VQ] at hx
 | d::xs,h,x,hx=>by
   rw[Zx,Qu] at h;rw[PyData.shownAll_cons] at hx;rcases Q3.mp hx with e|hx
   .rw[e];exact zkr d h.1
   .exact zen xs h.2 x hx
end
theorem zzz{d:Uu}(h1:d.canLay0=true)(h2:d.showable=true)(h3:d.depth<=60)(h4:d.leavesShort 13=true)(h5:d.bulk<=2 ^ 20):∃x,zfu [d]=some (.o (.str x))/\QR x=true:=by
 refine⟨d.shown,?_,strOk_iff.mpr (zkr d h1)⟩;unfold zfu;dsimp only;rw[T0];rw[h2,PyData.hasDict_of_canLay d h1,TH h3,TH (PyData.shown_fits_bulk (B:=13) (by decide) (by decide) h4 h5)];rfl
theorem zgj{α:Type}{f:α->Uu}:∀{l:List α},(∀a∈l,(f a).canLay0=true)->Zx (l.map f)=true
 | [],_=>rfl
 | a::l,h=>by rw[QD,Zx,h a Qw,zgj λx hx=>h x (Qq _ hx)];rfl
theorem zgo{α:Type}{f:α->Uu}{n:Nat}:∀{l:List α},(∀a∈l,(f a).depth<=n)->JH (l.map f)<=n
 | [],_=>by simp[JH]
 | a::l,h=>by
   rw[QD,JH];exact Nat.max_le.mpr ⟨h a Qw,zgo λx hx=>h x (Qq _ hx)⟩
theorem ztp(h:QR x=true){B:Nat}:(Uc x).leavesShort B=true:=by
 have h:=strOk_iff.mp h;rw[Vo,J4];intro c hc;have:=h c hc;exact TH (by lia)
section
variable {K:Qa}{O:Ob}
def disS(m:Nat)(g:DS):DS:=λDd ρ=>g Dd ρ\/∃ds,ρ[m]? = some (some (.own ds))/\g Dd (ρ.set m (some (.im (.list ds))))
theorem z2z{m:Nat}(h:SD K O t g):SD K O t (disS m g):=λH₀ A σ H ρ D Dd r q P=>by
 rcases q with q|⟨ds,e,q⟩
 .exact h H₀ A σ H ρ D Dd r q P
 .exact h H₀ _ σ H _ D Dd (r.disown e) q (P.frm (.setIm (.refl _ _)))
def setS(n m:Nat):DS:=λDd ρ=>∃d,ρ[m]? = some (some (.im d))/\Dd.nx (ρ.set n (some (.im d)))
theorem zyg{n m:Nat}:SD K O (tAsg (tVar m) (za9 n)) (setS n m):=λH₀ A σ H ρ D Dd r q P=>by
 obtain⟨d,e,q⟩:=q;obtain⟨v,hv,h⟩:=r.at_ m _ e;exact⟨v,hv,P.nx _ _ H _ (r.setIm h) (.setIm (.refl _ _)) q⟩
end
section
variable {ι κ:Type}{P:Uy}{w:U0}{K:Qa}{mg:Str->Option Ut}{base:Heap}{k:Nat}{X:ι->Cx}{O:κ->Ob}{st:Stmt}{g:DS}{pos:Pos}
theorem z5u(m:Nat)(h:S3 K X O st g):S3 K X O st (disS m g):=let ⟨t,p,d⟩:=h;⟨t,p,λj=>z2z (d j)⟩
theorem z1t(n m:Nat)(hN:∀i,(X i).N.Nodup:=by intro i;exact Tz (by kernel_rfl))(hi:∀i,(X i).N[n]? = some x:=by intro i;rfl)(hx:∀i,Loc (X i).env.scope x:=by intro i;first|exact Or.inl rfl|exact Or.inr rfl)
 (hN2:∀i,(X i).N[m]? = some y:=by intro i;rfl) (hv:∀i,Vis (X i).env.scope y:=by intro i;first|exact Or.inl rfl|exact Or.inr (Or.inl rfl)|exact Or.inr (Or.inr rfl)) (hd:(y == ("__debug__" : Str))=false:=by decide) (hcd:(y == ("__classdict__" : Str))=false:=by decide)
 (hs:∀i,UZ (.Name y py) (some (.Name x px)) pos.line (X i).env=pure false:=by intro i;rfl) (hf:∀i,(X i).fn x=true\/(X i).env.scope.names.lookup x=some .local:=by intro i;first|exact .inl rfl|exact .inr rfl):S3 K X O (.Assign [.Name x px] (.Name y py) pos) (setS n m) :=
 ⟨_,λi=>zc5 (hN i) (hi i) (hx i) (zal (hN2 i) (hv i) hd hcd) (hs i) (hf i),λj=>zyg⟩
end
theorem zns{α:Type}{enc:α->Uu}{g:DG}{fe:DE}{ρ:DSt}{Q:List Uu->Prop}{as:List α}{e:α->Uu}{h:Nat}(step:∀a∈as,∀P:R->Prop,(∀r,r.d=e a->P r)->g (enc a) (Qv h none++ρ) λρ2=>if true=true then fe ρ2 P else False)(mg:∀d ρ (P P':DSt->Prop),(∀ρ,P ρ->P' ρ)->g d ρ P->g d ρ P')(hz:as.length<=sizeLine)(q:Q (as.map e)):
 zbg h g yesD fe ρ Q (as.map enc) []:=by
 have key:∀(l:List α) (acc:List Uu),(∀a∈l,a∈as)->acc.length+l.length<=sizeLine->Q (acc++l.map e)->zbg h g yesD fe ρ Q (l.map enc) acc:=by
  intro l
  induction l with
  | nil=>intro acc _ _ q;show Q acc;simpa using q
  | cons a l ih=>
    intro acc hs hz q;rw[Qj] at hz;refine mg _ _ _ _ (λρ2 z=>?_) (step a (hs a Qw) (λr=>acc.length<sizeLine/\zbg h g yesD fe ρ Q (l.map enc) (acc ++ [r.d])) λr hr=>⟨by lia,?_⟩)
    .rw[T0 rfl] at z;exact iteT (B:=zbg h g yesD fe ρ Q (l.map enc) acc) z
    .rw[hr];exact ih (acc ++ [e a]) (λx hx=>hs x (Qq _ hx)) (by rw[Qf];simp;lia) (by simpa using q)
 exact key as [] (λ_ h=>h) (by simpa using hz) (by simpa using q)
theorem zo3{is:List Nat}:∀d ρ (P P':DSt->Prop),(∀ρ,P ρ->P' ρ)->gT is d ρ P->gT is d ρ P':=by
 have key:∀(is:List Nat) (ds:List Uu) ρ (P P':DSt->Prop),(∀ρ,P ρ->P' ρ)->gTD is ds ρ P->gTD is ds ρ P':=by
  intro is
  induction is with
  | nil=>intro ds ρ P P' h z;cases ds with
    | nil=>exact h _ z
    | cons _ _=>exact z.elim
  | cons i is ih=>intro ds ρ P P' h z;cases ds with
    | nil=>exact z.elim
    | cons d ds=>exact ih ds _ P P' h z
 exact λd ρ P P' h ⟨ds,e,z⟩=>⟨ds,e,key _ _ _ _ _ h z⟩
def truB:Uu->Option Bool
 | .none=>some false
 | .bool b=>some b
 | .int i=>some (i != 0)
 | .str x=>if x.length<=sizeLine then some ((x.length:Int) != 0) else none
 | .list ds=>some (!ds.isEmpty)
 | .tuple ds=>some (!ds.isEmpty)
 | _=>none
def truD(f:DE):DT:=λρ Q=>f ρ λr=>∃b,truB r.d=some b/\Q b
section
variable {K:Qa}{O:Ob}
theorem zhq(h:IsAll K F H xs ds):xs.isEmpty=ds.isEmpty:=by
 cases h <;> rfl
theorem z4d(h:ED K O t f):TD K O (λσ H Q=>t σ H λx H'=>∃k,TruV K x H' k/\Q k H') (truD f):=λσ H ρ Q Qd S hf k=>by
 refine h σ H ρ _ _ S hf λv H1 r s1 o1 zz=>?_;obtain⟨b,e,q⟩:=zz;have iv:=o1.is S.ok S.p;refine⟨b,?_,k b H1 s1 q⟩;generalize r.d=d at iv e
 cases iv with
 | none=>cases e;rfl
 | bool b=>cases e;rfl
 | int i=>cases e;rfl
 | str x=>
   have e:(if x.length<=sizeLine then some ((x.length:Int) != 0) else none)=some b:=e
   by_cases hl:x.length<=sizeLine
   .rw[T0 hl] at e;cases e;exact⟨hl,rfl⟩
   .rw[TB hl] at e;cases e
 | list f1 h1 s1=>cases e;exact .inl ⟨_,.of h1,by rw[zhq s1]⟩
 | tuple h1 s1=>cases e;exact .inr (.inl ⟨_,h1,by rw[zhq s1]⟩)
end
section
variable {ι κ:Type}{P:Uy}{w:U0}{K:Qa}{mg:Str->Option Ut}{base:Heap}{k:Nat}{X:ι->Cx}{O:κ->Ob}{a b:Expr}{fa:DE}{pos p:Pos}{ga:DA}
theorem z4x(C:Ctx3 P w K mg base k X)(ha:E3 K X O a fa)(he:∀i whole,isTrue a (X i).env whole=(do let v <- whole;standAt a.pos;holding [v] (truthy v)):=by intro _ _;rfl):T3 K X O a (truD fa):=let ⟨_,q,d⟩:=ha;
 ⟨_,λi=>by have h:=zwg (X:=X i) (q i) (he i);rw[C.hK] at h;exact h,λj=>z4d (d j)⟩
theorem zyc{X:Cx}:MtR X "list.pop" rPop:=λpins s σ H x xs v us Q I rx rv h=>z1d pins s σ H x xs v us Q I rx rv h
end
section
variable {K:Qa}{O:Ob}
def extS(i:Nat)(f:DE):DS:=λDd ρ=>∃ds,ρ[i]? = some (some (.own ds))/\f ρ λr=>∃es,r.d = .list es/\flats es=true/\ds.length+es.length<=sizeLine/\Dd.nx (ρ.set i (some (.own (ds++es))))
theorem ztu{i:Nat}(h:ED K O t f):SD K O (zjc (tBM K "list" zhj (tVar i) (za1 t tNil))) (extS i f):=λH₀ A σ H ρ D Dd r q P=>by
 obtain⟨ds,e,q⟩:=q;obtain⟨v,hv,a,xs,rfl,ha,hl,hs⟩:=r.at_ i _ e;refine⟨_,hv,?_⟩;refine⟨.inl ⟨rfl,xs,.of hl⟩,?_⟩;refine h σ H ρ _ _ r.seen q λw H1 x s1 o1 zz=>?_;obtain⟨es,ed,fl,hz,q1⟩:=zz;have r1:=r.stp s1;obtain⟨v1,hv1,a1,xs1,e1,ha1,hl1,hs1⟩:=r1.at_ i _ e;rw[hv] at hv1;cases hv1;cases e1;have iw:=o1.is r.ok r.p;rw[ed] at iw
 cases iw with
 | list f1 h1 s2=>
   refine⟨a,_,xs1,_,rfl,rfl,hl1,h1,by rw[hs1.length,s2.length];exact hz,?_⟩;exact P.nx A σ _ _ (r1.change e hv ha (hs1.append (IsAll.flats (TupStay.refl H1) s2 fl))) ((Frm.stp s1).trans (.change ha)) q1
end
section
variable {ι κ:Type}{P:Uy}{w:U0}{K:Qa}{mg:Str->Option Ut}{base:Heap}{k:Nat}{X:ι->Cx}{O:κ->Ob}{a b:Expr}{fa fb:DE}{pos p:Pos}{ga:DA}
theorem z1l:U5 "max" = some (.builtin "max"):=by decide +kernel
theorem zrj{X:Cx}:MtR X "list.extend" zhj:=λpins s σ H x xs v us Q I rx rv h=>zto pins s σ H x xs v us Q I rx rv h
theorem z5g(n:Nat){apos cpos:Pos}(C:Ctx3 P w K mg base k X)(hb:E3 K X O b fb)(hN:∀i,(X i).N[n]? = some x:=by intro i;rfl)(hv:∀i,Vis (X i).env.scope x:=by intro i;first|exact Or.inl rfl|exact Or.inr (Or.inl rfl)|exact Or.inr (Or.inr rfl))(hd:(x == ("__debug__" : Str))=false:=by decide)(hcd:(x == ("__classdict__" : Str))=false:=by decide)
 (hbase:∀i,UJ (.Name x px) "extend" (X i).env (eval (.Name x px) (X i).env)=eval (.Name x px) (X i).env:=by intro i;rfl)
 (hfew:∀i,((UD cpos (Uw [b] (X i).env)).all (λx=>!x.1) && (GU cpos (Gw [] (X i).env)).all (λx=>x.1.isSome) && decide (([b]:List Expr).length+([]:List Gp).length+(if([]:List Gp).isEmpty then 0 else 1)<30))=true:=by intro i;rfl)
 (hline:(apos.endLine == cpos.line)=true:=by rfl) (hs:∀i,Uw [b] (X i).env = [(false,eval b (X i).env)]:=by intro i;rfl) (hsw:∀i,UZ (.Call (.Attribute (.Name x px) "extend" apos) [b] [] cpos) none pos.line (X i).env=pure false:=by intro i;rfl) :
 S3 K X O (.Expr (.Call (.Attribute (.Name x px) "extend" apos) [b] [] cpos) pos) (extS n fb):=let ⟨_,p2,d2⟩:=hb;
 ⟨zjc (tBM K "list" zhj (tVar n) (za1 _ tNil)),λi=>by
  have h:=zgb (apos:=apos) (cpos:=cpos) Jl PySem.F.slot_list_extend PySem.F.type_list_extend (zrj (X:=X i)) (zal (pos:=px) (hN i) (hv i) hd hcd) (zaw (p2 i) zbk (hs i)) (hbase i) (hfew i) hline (hs i);rw[C.hK] at h
  exact zpf h (hsw i),λj=>ztu (d2 j)⟩
end
namespace RV
theorem zld:Td (.type "list_reverseiterator") "__len__" = pure none:=by rw[typeLookup_type,GN];kernel_rfl
theorem znd:Td (.type "list_reverseiterator") "__length_hint__" = pure (some (.builtin "list_reverseiterator.__length_hint__")):=by rw[typeLookup_type,GN];kernel_rfl
theorem zgl:isSubtype (.type "list_reverseiterator") (.type "list_reverseiterator")=pure true:=by rw[isSubtype_type];kernel_rfl
theorem zqk:splitId "list_reverseiterator.__length_hint__" = some ("list_reverseiterator", "__length_hint__"):=by decide +kernel
theorem zzi{prog:Uy}{w:U0}(t:s.TypeIs (.ref it) "list_reverseiterator")(q:Q false s):wpAny (model prog w) A (Yh (.ref it)) Q E s:=by
 have sp:=zqk;unfold Yh;refine Us (GM t zld (Us (GM t znd ?_)));revert sp;generalize z:("list_reverseiterator.__length_hint__" : String)=nm;intro sp;dsimp only;rw[sp];subst z;exact Us (GD (b:=true) t zgl (Uv q))
theorem list_of_rev{prog:Uy}{w:U0}{items:Array Ut}(hh:A.handled=none)(hr:s.heap.IsRevIter it l ((items.size:Int)-1))(hl:s.heap.IsList l items)(hne:l≠it)(hz:items.size<=sizeLine)
 (q:∀h' t' vs c,(∀b o,b≠it->s.heap.get? b=some o->h'.get? b=some o)->h'.get? s.heap.objs.size=some { cls:=.type "list",dict:=none,data:=.seq vs c,slots:=#[] }->ItemsOf (λi v=>items[items.size-1-i]? = some v) vs items.size->Q (.ref s.heap.objs.size) { s with heap:=h',toks:=t' }) :
 wpAny (model prog w) A (call (.type "list") [.ref it]) Q E s:=by
 have W:=(Walks.listRev (prog:=prog) (w:=w) (A:=A.in1.in1) hh it l hne items).toS
 have new:∀b o,s.heap.get? b=some o->b≠s.heap.objs.size:=λb o e z=>by
  subst z;rw[Heap.get?] at e;simp at e
 refine callType_codes (Q₁:=λv s1=>v = .ref s.heap.objs.size/\s1 = { s with heap:=s.heap.push { cls:=.type "list",data:=.seq #[] } }) F.called_list (F.typeCall_list_1 _) F.entry_list_init (code_list_new _ ⟨rfl,rfl⟩) ?_;rintro _ _ ⟨rfl,rfl⟩;refine⟨⟨_,Qt _ rfl,rfl⟩,F.args_list_init_2 _ _,?_⟩;obtain⟨o,ho,hc,hd⟩:=id hr;have nI:s.heap.objs.size≠it:=λz=>new it _ ho z.symm;have same:Y2 (.ref s.heap.objs.size) (.ref it)=false:=by simp[Y2,nI]
 have t1:J0 "list_reverseiterator" ≠ J0 "list" := by decide
 have eS:(s.heap.push { cls:=.type "list",data:=.seq #[] }).get? s.heap.objs.size=some { cls:=.type "list",data:=.seq #[] }:=Qt _ rfl;have eI:=Qc { cls:=.type "list",data:=.seq (#[]:Array Ut) } ho;have a1:=zld;have a2:=znd;have a3:=zgl;obtain⟨hp,g,dr,tk,os⟩:=s
 have eI2:(((hp.push { cls:=.type "list",data:=.seq #[] }).update hp.objs.size (Jq λ_=>(#[]:Array Ut))).get? it)=some o:=by
  rw[Qx _ _ nI];exact eI
 have eS2:=QM (Jq (λ_=>(#[]:Array Ut))) eS rfl;have hr2:((hp.push { cls:=.type "list",data:=.seq #[] }).update hp.objs.size (Jq λ_=>(#[]:Array Ut))).IsRevIter it l ((items.size:Int)-1):=⟨o,eI2,hc,hd⟩;have hT:Shared.TypeIs ⟨((hp.push { cls:=.type "list",data:=.seq #[] }).update hp.objs.size (Jq λ_=>(#[]:Array Ut))),g,dr,tk,os⟩ (.ref it) "list_reverseiterator" := ⟨o,eI2,hc⟩;unfold Builtin.«list.__init__»
 wp_walk using wpAny_pyIter_revIter hr2,GI hT,zzi hT
 have hl2:((hp.push { cls:=.type "list",data:=.seq #[] }).update hp.objs.size (Jq λ_=>(#[]:Array Ut))).IsList l items:=by
  obtain⟨ol,h1,h2⟩:=hl;refine⟨ol,?_,h2⟩;rw[Qx _ _ (λz=>new l _ h1 z.symm)];exact Qc _ h1
 have hS:hp.objs.size ∉ [it,l]:=λz=>by
  obtain⟨ol,h1,_⟩:=hl;rcases Q3.mp z with z|z
  .exact nI z
  .exact new l _ h1 (Qn.mp z).symm
 refine⟨plainId_quiet F.plain_extend_loop _,codeAny_extend_loopS W hz _ hS _ items.size 0 _ _ _ rfl (QL _) ⟨QL _,by simpa using hr2,hl2⟩ eS2 (ItemsOf.nil _) λs' vs c m e is=>⟨rfl,?_⟩⟩;obtain⟨hp',g',dr',tk',os'⟩:=s';obtain⟨m1,m2,m3,m4,m5⟩:=m;have m2:g'=g:=m2;have m3:dr'=dr:=m3;have m4:os'=os:=m4;subst m2 m3 m4;refine q hp' tk' vs c (λb ob hb eb=>m1 b ob (λz=>?_) ?_) e is
 .rcases Q3.mp z with z|z
  .exact new b _ eb z
  .exact hb (Qn.mp z)
 .show((hp.push _).update _ _).get? b=_;rw[Qx _ _ (λz=>new b _ eb z.symm)];exact Qc _ eb
theorem items_rev{its:List Ut}{vs:Array Ut}(h:ItemsOf (λi v=>its.toArray[its.toArray.size-1-i]? = some v) vs its.toArray.size):vs=its.reverse.toArray:=by
 obtain⟨h1,h2⟩:=h;apply Array.ext';apply Yz;intro i
 by_cases hi:i<vs.size
 .have e:vs.toList[i]? = some vs[i]:=by simp[hi]
  have e2:=h2 i vs[i] (by simp[hi]);rw[e,<- e2];simp at h1 e2 ⊢;rw[List.getElem?_reverse (by lia)]
 .rw[QV (by simpa using hi)];symm;apply QV;simp at h1 ⊢;lia
end RV
def tLR(K:Qa)(te:TE):TE:=λσ H Q=>te σ H λv H1=>∃a xs,v = .ref a/\SqL K H1 a xs/\∀p,H1 p=none->Q (.ref p) (upd H1 p (.lst xs.reverse))
theorem zqo(calm:X.A.handled=none)(gl:Gl X "list")(ml:X.mg "list" = none)(gr:Gl X "reversed")(mr:X.mg "reversed" = none)(he:PE X e te)
 (s1:Uw [.Call (.Name "reversed" p2) [e] [] p3] X.env=(false,eval (.Call (.Name "reversed" p2) [e] [] p3) X.env)::Uw [] X.env:=by rfl) (s2:Uw [e] X.env=(false,eval e X.env)::Uw [] X.env:=by rfl) :
 PE X (.Call (.Name "list" p1) [.Call (.Name "reversed" p2) [e] [] p3] [] p4) (tLR X.K te):=by
 intro pins s σ H Q I h;refine U4 (zcp I gl ml (u:=.type "list") rfl ?_);refine Zw ?_ s1;rw[s1];show wpAny _ _ (GG ((false,eval (.Call (.Name "reversed" p2) [e] [] p3) X.env) :: [])) _ _ s;refine Z7 ?_;refine U4 (zcp I gr mr (u:=.type "reversed") rfl ?_);refine Zw ?_ s2;rw[s2];show wpAny _ _ (GG ((false,eval e X.env) :: [])) _ _ s;refine Z7 (thn (he pins s σ H _ I h) λu s' zz=>?_);obtain⟨y,H1,I1,r1,a,xs,ey,hq,q⟩:=zz;subst ey;cases r1;refine Jc ?_;obtain⟨its,rv,pl,hz⟩:=I1.list hq;have hlen:=rv.length;have isl:=pl.isList;refine call_reversed_list isl ?_;refine Jc ?_
 have new:a≠s'.heap.objs.size:=λz=>by
  obtain⟨o,ho,_⟩:=isl;exact Zj _ (z ▸ Qg ho)
 have isl2:(s'.heap.push (revObj a ((its.toArray.size:Int)-1))).IsList a its.toArray:=isl.push _;refine RV.list_of_rev (s:={ s' with heap:=s'.heap.push (revObj a ((its.toArray.size:Int)-1)) }) calm ⟨_,Qt _ rfl,rfl,rfl⟩ isl2 new (by simp;lia) λh' t' vs c kp e is=>?_;have ez:(s'.heap.push (revObj a ((its.toArray.size:Int)-1))).objs.size=s'.heap.objs.size+1:=Zi ..;have ev:=RV.items_rev is;subst ev;have kp2:∀b o,s'.heap.get? b=some o->h'.get? b=some o:=λb o eb=>kp b o (λz=>Zj _ (z ▸ Qg eb)) (Qc _ eb);have fr:H1 (s'.heap.objs.size+1)=none:=I1.hok.fresh (Jn _);dsimp only at e ⊢;rw[ez] at e ⊢;exact⟨.ref (s'.heap.objs.size+1),_,I1.laid (t':=t') kp2 (Jn _) (show ObjOk X.prog X.w _ h' _ (.lst xs.reverse) from⟨by rw[List.length_reverse];exact hz,its.reverse,c,rv.reverse,e⟩),rfl,q _ fr⟩
end L3
namespace L3
open PySem PySem.Spec
open PyProof.Rows hiding St
open L2
abbrev zcr:Key:=.inr "seed"
abbrev kNum:Key:=.inr "number"
abbrev zdz:Key:=.inr "left"
def zbo(seed num:Int)(l:Addr):List (Key×V):=[(zcr,.int seed),(kNum,.int num),(zdz,.ref l)]
def zjm(seed num:Int)(l:Addr):HO:=.dK (zbo seed num l)
theorem zwl(s n:Int)(l:Addr):valV (zbo s n l) zcr=some (.int s):=by simp[valV,zbo,ZJ]
theorem zzr(s n:Int)(l:Addr):valV (zbo s n l) kNum=some (.int n):=by
 have h1:¬(zcr=kNum):=by decide +kernel
 simp[valV,zbo,ZJ,h1]
theorem zu1(s n:Int)(l:Addr):valV (zbo s n l) zdz=some (.ref l):=by
 have h1:¬(zcr=zdz):=by decide +kernel
 have h2:¬(kNum=zdz):=by decide +kernel
 simp[valV,zbo,ZJ,h1,h2]
theorem zur(s n s':Int)(l:Addr):putK (zbo s n l) zcr (.int s')=zbo s' n l:=by
 have h1:¬(kNum=zcr):=by decide +kernel
 have h2:¬(zdz=zcr):=by decide +kernel
 simp[putK,zbo,h1,h2]
theorem zyw(s n n':Int)(l:Addr):putK (zbo s n l) kNum (.int n')=zbo s n' l:=by
 have h1:¬(zcr=kNum):=by decide +kernel
 have h2:¬(zdz=kNum):=by decide +kernel
 simp[putK,zbo,h1,h2]
structure DealAt(H:Hp)(a l:Addr)(seed num:Int)(ns:List Int):Prop where
 ne:a≠l
 ha:H a=some (zjm seed num l)
 hl:H l=some (.lst (ns.map V.int))
 s0:0<=seed
 s1:seed<4294967296
 n0:0<=num
 ns0:∀n∈ns,0<=n
structure IsDeal(O:Ob):Prop where
 ex:∃a l,O.v = .ref a/\O.M a/\O.M l/\(∀H,O.P H->∃s n ns,DealAt H a l s n ns)/\∀H H' s n ns,O.P H->DealAt H' a l s n ns->(∀b,O.M b->b≠a->b≠l->H' b=H b)->O.P H'
theorem IsDeal.plus(h:IsDeal O)(D:Addr)(u:HO)(nm:¬O.M D):IsDeal (O.plus D u):=by
 obtain⟨a,l,hv,ma,ml,h1,h2⟩:=h.ex;have da:D≠a:=λe=>nm (e ▸ ma);have dl:D≠l:=λe=>nm (e ▸ ml);refine⟨a,l,hv,.inl ma,.inl ml,λH p=>h1 H p.1,λH H' s n ns p q k=>⟨h2 H H' s n ns p.1 q λb mb=>k b (.inl mb),?_⟩⟩;rw[k D (.inr rfl) da dl];exact p.2
theorem upD{κ:Type}{O:κ->Ob}(h:∀j,IsDeal (O j)):∀j,IsDeal (zja O j):=λj=>(h j.1.1).plus _ _ j.2
def ziz(a l:Addr):Ob:=⟨λb=>b=a\/b=l,λH=>∃s n ns,DealAt H a l s n ns,.ref a⟩
theorem zs9(a l:Addr):(ziz a l).Ok:=by
 refine⟨λH H' e ⟨s,n,ns,p⟩=>⟨s,n,ns,p.ne,(e a (.inl rfl)).trans p.ha,(e l (.inr rfl)).trans p.hl,p.s0,p.s1,p.n0,p.ns0⟩,λH b o ⟨s,n,ns,p⟩ eb m=>?_,λH b ⟨s,n,ns,p⟩ m=>?_⟩
 .rcases m with rfl|rfl
  .rw[p.ha] at eb;cases eb;exact⟨λ_ z=>(by cases z),λ_ _ z=>(by cases z)⟩
  .rw[p.hl] at eb;cases eb;exact⟨λ_ z=>(by cases z),λ_ _ z=>(by cases z)⟩
 .rcases m with rfl|rfl
  .exact⟨_,p.ha⟩
  .exact⟨_,p.hl⟩
theorem ztq(a l:Addr):IsDeal (ziz a l):=⟨a,l,rfl,.inl rfl,.inr rfl,λ_ p=>p,λ_ _ s n ns _ q _=>⟨s,n,ns,q⟩⟩
abbrev dAt(k:Str):TE:=zwx (tVar 0) (tC (.str k))
def z2w(K:Qa):TS :=
 zr7 (tAnd (zdm (tOp rEq (dAt "number") (tC (.int 0)))) (zdm (tOp (rI0 λi j=>.bl (decide (j<i))) (tCB (lenR K) (za1 (dAt "left") tNil)) (tC (.int 0)))))
  (zl2 (tVar 0) (tC (.str "number")) (tBM0 K "list" rPop (dAt "left")))
theorem zsx{s n:Int}(p:DealAt H a l s n ns)(hσ:σ[0]? = some (some (.ref a)))(q:Q (.int n) H):dAt "number" σ H Q :=
 ⟨_,hσ,a,_,rfl,.inl ⟨_,kNum,.inl p.ha,rfl,(zzr s n l).symm⟩,q⟩
theorem zj5{s n:Int}(p:DealAt H a l s n ns)(hσ:σ[0]? = some (some (.ref a)))(q:Q (.int s) H):dAt "seed" σ H Q :=
 ⟨_,hσ,a,_,rfl,.inl ⟨_,zcr,.inl p.ha,rfl,(zwl s n l).symm⟩,q⟩
theorem zpu{s n:Int}(p:DealAt H a l s n ns)(hσ:σ[0]? = some (some (.ref a)))(q:Q (.ref l) H):dAt "left" σ H Q :=
 ⟨_,hσ,a,_,rfl,.inl ⟨_,zdz,.inl p.ha,rfl,(zu1 s n l).symm⟩,q⟩
theorem zr2(s n:Int)(l:Addr):(zbo s n l).length<sizeLine:=by rw[Uz];show 3<16777216;decide
theorem DealAt.setN{s n:Int}(p:DealAt H a l s n ns){n':Int}(h:0<=n'):DealAt (upd H a (zjm s n' l)) a l s n' ns :=
 ⟨p.ne,zaj,by rw[zae (QN p.ne)];exact p.hl,p.s0,p.s1,h,p.ns0⟩
theorem DealAt.setS{s n:Int}(p:DealAt H a l s n ns){s':Int}(h:0<=s')(h2:s'<4294967296):DealAt (upd H a (zjm s' n l)) a l s' n ns :=
 ⟨p.ne,zaj,by rw[zae (QN p.ne)];exact p.hl,h,h2,p.n0,p.ns0⟩
theorem zw3{s n:Int}(p:DealAt H a l s n ns)(n':Int):DPut H a (.str "number") (.int n') (upd H a (zjm s n' l)) :=
 .inl ⟨_,kNum,p.ha,rfl,zr2 s n l,by rw[zyw];rfl⟩
theorem z6l{s n:Int}(p:DealAt H a l s n ns)(s':Int):DPut H a (.str "seed") (.int s') (upd H a (zjm s' n l)) :=
 .inl ⟨_,zcr,p.ha,rfl,zr2 s n l,by rw[zur];rfl⟩
theorem zup{s n s' n':Int}(ma:O.M a)(ml:O.M l)(h2:∀H H' s n ns,O.P H->DealAt H' a l s n ns->(∀b,O.M b->b≠a->b≠l->H' b=H b)->O.P H')(p:DealAt H a l s n ns)(p':DealAt H' a l s' n' ns')(st:PotStp a l H H'):Stp O H H':=by
 refine⟨λb o e nm=>?_,λpp=>h2 H H' _ _ _ pp p' λb _ h3 h4=>st.oth b h3 h4,λb u hu e=>?_⟩
 .rw[st.oth b (λz=>nm (z ▸ ma)) λz=>nm (z ▸ ml)];exact e
 .rw[st.oth b (λz=>?_) λz=>?_]
  .exact e
  .rw[z,p.ha] at e;cases e;obtain⟨xs,e1|⟨o,e1⟩⟩:=hu <;> cases e1
  .rw[z,p.hl] at e;cases e;obtain⟨xs,e1|⟨o,e1⟩⟩:=hu <;> cases e1
theorem upd2(H:Hp)(a:Addr)(x y:HO):upd (upd H a x) a y=upd H a y:=by
 funext b
 by_cases e:b=a
 .subst e;rw[zaj,zaj]
 .rw[zae e,zae e,zae e]
theorem zjj{K:Qa}{c:Addr}{ns:List Int}{σ:St}{H:Hp}{tf:TT}{te:TE}{G:Addr->Hp->Prop}(p:Int->Bool)(f:Int->Int)(hS:SqL K H c (ns.map V.int))(hz:ns.length<=63)
 (ht:∀n H' R,R (p n) H'->tf (some (.int n)::σ) H' R) (he:∀n H' R,R (V.int (f n)) H'->te (some (.int n)::σ) H' R)
 (q:∀D,H D=none->G D (upd H D (.lst (((ns.filter p).map f).map V.int)))) :
 ∀D,H D=none->∃W:Nat->Nat->List V->Hp->Prop,(∃m,W 0 m [] (upd H D (.lst [])))/\∀i m ys H',W i m ys H'->H' D=some (.lst ys)/\(((Itl K c).stop i H'/\G D H')\/((Itl K c).go i H'/\∀x H'',(Itl K c).yld i H' x H''->za9 0 x (Qv 1 none++σ) H'' λσ2 H2=>tf σ2 H2 λb H3=>
   if b=true then te σ2 H3 λy H4=>H4 D=some (.lst ys)/\ys.length<sizeLine/\∃m',m'<m/\W (i+1) m' (ys ++ [y]) (upd H4 D (.lst (ys ++ [y]))) else ∃m',m'<m/\W (i+1) m' ys H3)):=by
 intro D hD;have sz:=Uz;refine⟨λi m ys H'=>m=ns.length-i/\i<=ns.length/\ys=(((ns.take i).filter p).map f).map V.int/\H'=upd H D (.lst ys),⟨_,rfl,QL _,rfl,rfl⟩,?_⟩;rintro i m ys H' ⟨rfl,hi,rfl,rfl⟩;refine⟨zaj,?_⟩;have hS':=(L3.same_new hD (.lst ((((ns.take i).filter p).map f).map V.int))).seq hS
 by_cases lt:i<ns.length
 .right;refine⟨⟨_,.int ns[i],hS',by rw[Qs,Qi lt];rfl⟩,λx H'' ⟨e,y⟩=>?_⟩;subst e;have ex:=y _ hS';rw[Qs,Qi lt] at ex;cases ex;show tf (some (.int ns[i])::σ) _ _
  have et:(ns.take (i+1)).filter p=(ns.take i).filter p++(if p ns[i]=true then[ns[i]] else[]):=by
   rw[JR lt,List.filter_append,Y4];rfl
  refine ht _ _ _ ?_
  by_cases cc:p ns[i]=true
  .rw[T0 cc] at et ⊢;have hlen:((ns.take i).filter p).length<=ns.length:=Q5 (YN _ _) (by rw[QB];lia);refine he _ _ _ ⟨zaj,by rw[Qb,Qb];lia,ns.length-(i+1),by lia,rfl,lt,?_,upd2 _ _ _ _⟩;rw[et,QI,QI];rfl
  .rw[TB cc] at et ⊢;rw[QF] at et;exact⟨ns.length-(i+1),by lia,rfl,lt,by rw[et],rfl⟩
 .left;have e:i=ns.length:=by lia
  subst e;refine⟨⟨_,hS',by rw[Qb];exact Qm _⟩,?_⟩;rw[Jk];exact q D hD
abbrev zxf:List V->Hp->VK->Prop:=λxs H Q=>∃i j,xs = [.int i,.int j]/\Q (.int (if j > i then j else i)) H
def zjt(K:Qa):Sp:=λvs H Q _=>∃(a:Addr) (ns:List Int),vs = [.ref a,.int 0]/\SqL K H a (ns.map V.int)/\ns.length<=63/\∀p l s left H',H p=none->H l=none->Same H H'->DealAt H' p l s 0 left->Q (.ref p) H'
section
variable {K:Qa}{O:Ob}{X:Cx}
def chD(F F':Uu->Uu->(R->Prop)->Prop)(fa fb fc:DE):DE:=λρ Q=>fa ρ λa=>fb ρ λb=>F a.d b.d λz=>∃k,z.d = .bool k/\(if k=true then fc ρ λc=>F' b.d c.d Q else Q (.o (.bool false)))
theorem zmi(hr:OpD K O r F)(hr':OpD K O r' F')(ha:ED K O ta fa)(hb:ED K O tb fb)(hc:ED K O tc fc):ED K O (zmu r r' ta tb tc) (chD F F' fa fb fc):=λσ H ρ Q Qd S h k=>by
 refine ha σ H ρ _ _ S h λv H1 a s1 o1 h1=>?_;refine hb σ H1 ρ _ _ (S.stp s1) h1 λw H2 b s2 o2 h2=>?_;have p1:=s1.p S.p;have p2:=s2.p p1;have ib:=o2.is S.ok p1;refine hr H2 v w a.d b.d _ _ S.ok p2 (Is.stp s2 (λ_ f=>f) (λ_ f=>f) (o1.is S.ok S.p)) ib h2 λz H3 c s3 o3 zz=>?_;obtain⟨kk,e,h3⟩:=zz;have iz:=o3.is S.ok p2;rw[e] at iz;cases iz;refine⟨kk,rfl,?_⟩
 cases kk with
 | true=>
   refine hc σ H3 ρ _ _ (((S.stp s1).stp s2).stp s3) h3 λx H4 d s4 o4 h4=>?_;have p3:=s3.p p2;refine hr' H4 w x b.d d.d _ _ S.ok (s4.p p3) (Is.stp s4 (λ_ f=>f) (λ_ f=>f) (Is.stp s3 (λ_ f=>f) (λ_ f=>f) ib)) (o4.is S.ok p3) h4 λz H5 r5 s5 o5 h5=>?_;exact k z H5 r5 ((((s1.trans s2).trans s3).trans s4).trans s5) (Out.ahead S.ok S.p (((s1.trans s2).trans s3).trans s4) o5) h5
 | false=>exact k _ H3 (.o (.bool false)) ((s1.trans s2).trans s3) (Is.bool false) h3
end
section
variable {ι κ:Type}{P:Uy}{w:U0}{K:Qa}{mg:Str->Option Ut}{base:Heap}{k:Nat}{X:ι->Cx}{O:κ->Ob}{a b c:Expr}{fa fb fc:DE}{pos p:Pos}{st:Stmt}{es:List Expr}{ga:DA}
theorem zx9(ho:∀i,OpR (X i) (U6 op) r)(ho':∀i,OpR (X i) (U6 op') r')(hd:∀j,OpD K (O j) r F)(hd':∀j,OpD K (O j) r' F')(ha:E3 K X O a fa)(hb:E3 K X O b fb)(hc:E3 K X O c fc)
 (hm:GY [op,op'] [b,c]=false:=by with_unfolding_all rfl):E3 K X O (.Compare a [op,op'] [b,c] pos) (chD F F' fa fb fc) :=
 let ⟨_,p1,d1⟩:=ha;let ⟨_,p2,d2⟩:=hb;let ⟨_,p3,d3⟩:=hc;⟨_,λi=>zv9 (ho i) (ho' i) (p1 i) (p2 i) (p3 i) hm,λj=>zmi (hd j) (hd' j) (d1 j) (d2 j) (d3 j)⟩
end
theorem zzg{P:Uy}{w:U0}{K:Qa}{mg:Str->Option Ut}{base:Heap}{k:Nat}{st st0:Stmt}{rest:List Stmt}{N:List Str}{f₁:Addr}{fd₁:UM}(Fu:Fun K "law" "law" st f₁ fd₁)(S:FnScope ("_law_script" :: "_law_deal_here" :: N) ["_law_script"] (zah st))
 (hs:zbi st=st0::rest)
 (first:∀(f:Addr) (cdv:Ut) (A:U9) (outer:List Env) (s:Ux) (H:Hp) (E:XK),Ctx3 P w K mg base k (zc2 P w K mg base ("_law_script" :: "_law_deal_here" :: N) "law" (zah st) f cdv A outer s H E) ->
  PS (zc2 P w K mg base ("_law_script" :: "_law_deal_here" :: N) "law" (zah st) f cdv A outer s H E ()) st0 (tAsg (zcf (zjt K) [] E0 (za1 (tVar 0) (za1 (tC (.int 0)) tNil))) (za9 1)))
 (body:∀(f:Addr) (cdv:Ut) (A:U9) (outer:List Env) (s:Ux) (H:Hp) (E:XK),Ctx3 P w K mg base k (zc2 P w K mg base ("_law_script" :: "_law_deal_here" :: N) "law" (zah st) f cdv A outer s H E) ->
  ∃g,Ss3 K (zc2 P w K mg base ("_law_script" :: "_law_deal_here" :: N) "law" (zah st) f cdv A outer s H E) (λj:Addr×Addr=>ziz j.1 j.2) rest g/\g { nx:=λ_=>False,rt:=λr=>r = .o (.bool true) } (none::some .ob::Qv N.length none)) :
 FnOk P w K mg base CX0 (k+1) f₁ fd₁ ["_law_script"] (zii K):=by
 refine Fu.ok S (λvs H Q E h=>by obtain⟨a,ns,rfl,_⟩:=h;rfl) (λcdv A outer s H vs Q E hr h=>?_);obtain⟨a,ns,rfl,hS,hl,q⟩:=h;have C:=zgf (P:=P) (w:=w) (K:=K) (mg:=mg) (base:=base) (N := "_law_script" :: "_law_deal_here" :: N) (x := "law") (sc:=zah st) (f:=f₁) (cdv:=cdv) (A:=A) (outer:=outer) (s:=s) (H:=H) (E:=E) hr;obtain⟨g,⟨t,h1,h2⟩,h3⟩:=body f₁ cdv A outer s H E C;refine⟨tSeq (tAsg (zcf (zjt K) [] E0 (za1 (tVar 0) (za1 (tC (.int 0)) tNil))) (za9 1)) t,?_,?_⟩
 .rw[hs];exact zbp (first f₁ cdv A outer s H E C) (h1 ())
 .refine⟨_,rfl,a,ns,rfl,hS,hl,λp l s left H' hp hln sm pa=>?_⟩;refine h2 (p,l) H' (λ_ _=>False) _ H' _ _ _ ⟨zs9 p l,⟨s,0,left,pa⟩,⟨s,0,left,pa⟩,.refl _ _,λ_ _ _ z=>z.elim,λ_ _ z=>z.elim,λi r e=>?_,?_⟩ h3 ⟨λ_ _ _ _ _ _ z=>z.elim,λ_ _ _ _ _ _ z=>z.elim,λ_ _ _ _ _ _ z=>z.elim,λH' v r _ o e=>?_⟩
  .match i with
   | 0=>cases e
   | 1=>cases e;exact⟨_,rfl,rfl⟩
   | i+2=>
     rw[Z0,Z0,Zz] at e
     split at e <;> cases e
  .rw[QC];simp[L2.start]
  .subst e;cases o;exact q H'
section
variable {K:Qa}{O:Ob}{H₀ H:Hp}{A:Nat->Addr->Prop}{σ:St}{ρ:DSt}
def zlx(ρ:DSt):Prop:=(∀(i:Nat) ds,ρ[i]?≠some (some (.own ds)))/\(∀(i:Nat) ks,ρ[i]?≠some (some (.dct ks)))/\(∀(i:Nat) f ds,ρ[i]?≠some (some (.gen f ds)))/\∀(i:Nat) T,ρ[i]?≠some (some (.thg T))
theorem Rep.none(r:Rep K O H₀ A H σ ρ)(h:zlx ρ):Rep K O H₀ (λ_ _=>False) H σ ρ:=by
 refine⟨r.ok,r.p,r.p0,r.st,λ_ _ _ x=>x.elim,λ_ _ x=>x.elim,λi x e=>?_,r.len⟩;obtain⟨v,hv,q⟩:=r.at_ i x e;refine⟨v,hv,?_⟩
 cases x with
 | im d=>exact Is.weak q λa u=>⟨u.1,λ_ z=>z.elim⟩
 | own ds=>exact absurd e (h.1 i ds)
 | dct ks=>exact absurd e (h.2.1 i ks)
 | gen f ds=>exact absurd e (h.2.2.1 i f ds)
 | thg T=>exact absurd e (h.2.2.2 i T)
 | thr T=>obtain⟨W,hw,z⟩:=q;exact⟨W,λa w=>⟨⟨(hw a w).1.1,λ_ z=>z.elim⟩,(hw a w).2⟩,T.to (λa u f q=>⟨⟨f.1,λ_ z=>z.elim⟩,q⟩) (λa u w q=>⟨w,q⟩) (TupStay.refl _) z⟩
 | rd f ds=>obtain⟨a,xs,e,f,q,z⟩:=q;exact⟨a,xs,e,⟨f.1,λ_ z=>z.elim⟩,q,z.weak λa u=>⟨u.1,λ_ z=>z.elim⟩⟩
 | exc C ns ds=>obtain⟨xs,e,z⟩:=q;exact⟨xs,e.to λa u f q=>⟨⟨f.1,λ_ z=>z.elim⟩,q⟩,z.weak λa u=>⟨u.1,λ_ z=>z.elim⟩⟩
 | ob=>exact q
 | scr n=>exact IsS.to (λa u f z=>⟨⟨f.1,λ_ z=>z.elim⟩,z⟩) q
theorem Frm.none:Frm O A H (λ_ _=>False) H:=λa o e u=>⟨e,u.1,λ_ z=>z.elim⟩
end
structure DC where
 (cb cc ce m2 m3 m4:Int)
structure DC.Ok(c:DC):Prop where
 (cc:-(2 ^ 64)<c.cc/\c.cc<2 ^ 64) 
 (m2:0<c.m2/\c.m2<4294967296)
 (m3:0<c.m3/\c.m3<4294967296)
 (m4:0<c.m4/\c.m4<4294967296)
def zki(K:Qa)(c:DC):TS :=
 tSeq (tAsg (dAt "number") (za9 2))
 (tSeq (tIfS (zdm (tOp (rI0 λi j=>.bl (decide (j<i))) (tVar 2) (tC (.int 0))))
  (tSeq (zl2 (tVar 0) (tC (.str "number")) (tOp (rI CDiv λi j=>.int (i / j)) (tVar 2) (tVar 1))) (tRet (tOp (rI (λ_ j=>0<j) λi j=>.int (i % j)) (tVar 2) (tVar 1)))) zql)
 (tSeq (tAsg (tOp (rI (λ_ j=>0<j) λi j=>.int (i % j)) (tOp (rI0 λi j=>.int (i+j)) (tOp (rI CMul λi j=>.int (i * j)) (dAt "seed") (tC (.int 48271))) (tC (.int c.cb))) (tC (.int 2147483647))) (za9 3))
 (tSeq (zl2 (tVar 0) (tC (.str "seed")) (tOp (rI (λ_ j=>0<j) λi j=>.int (i % j)) (tOp (rI0 λi j=>.int (i+j)) (tOp (rI CMul λi j=>.int (i * j)) (tVar 3) (tC (.int c.cc))) (tC (.int c.ce))) (tC (.int c.m2))))
 (tSeq (tAsg (tOp (rI (λ_ j=>0<j) λi j=>.int (i % j)) (tOp (rI CMul λi j=>.int (i * j)) (dAt "seed") (dAt "seed")) (tC (.int c.m3))) (za9 4))
 (tRet (tOp (rI (λ_ j=>0<j) λi j=>.int (i % j)) (tOp (rI0 λi j=>.int (i+j)) (tOp (rI CMul λi j=>.int (i * j)) (tOp (rI (λ_ j=>0<j) λi j=>.int (i % j)) (tOp (rI CMul λi j=>.int (i * j)) (tVar 3) (tVar 3)) (tC (.int c.m4))) (tC (.int c.m3))) (tVar 4)) (tVar 1)))))))
def zj1(K:Qa)(c:DC):TS:=tSeq (z2w K) (zki K c)
theorem zsu{K:Qa}{c:DC}(hc:c.Ok){H:Hp}{a l:Addr}{s n:Int}{ns:List Int}{m:Int}{D:Ends}(p:DealAt H a l s n ns)(m0:0<m)(m1:m<1073741824)
 (q:∀k H' s' n' ns',0<=k->k<m->DealAt H' a l s' n' ns'->PotStp a l H H'->D.rt (.int k) H'):zki K c D [some (.ref a),some (.int m),none,none,none] H:=by
 refine zsx p rfl ?_;refine⟨_,rfl,n,0,rfl,rfl,_,rfl,?_⟩;refine ite2 (λ_=>?_) (λ_=>?_)
 .refine⟨_,rfl,_,rfl,n,m,rfl,rfl,⟨m0,m1⟩,?_⟩;refine⟨_,rfl,a,_,rfl,zw3 p _,?_⟩;exact⟨_,rfl,_,rfl,n,m,rfl,rfl,m0,q _ _ s _ ns (Jx _ (by lia)) (ZX _ m0) (p.setN (Int.ediv_nonneg p.n0 (by lia))) (.upA _)⟩
 .have s0:=p.s0;have s1:=p.s1;refine zj5 p rfl ?_;refine⟨s,48271,rfl,rfl,.inl ⟨by lia,by lia⟩,?_⟩;refine⟨_,_,rfl,rfl,_,_,rfl,rfl,(show(0:Int)<2147483647 by decide),?_⟩;dsimp only;have e0:0<=(s * 48271+c.cb) % 2147483647:=Jx _ (by decide);have e1:(s * 48271+c.cb) % 2147483647<2147483647:=ZX _ (by decide);generalize (s * 48271+c.cb) % 2147483647=one at e0 e1;have hm2:=hc.m2;have hm3:=hc.m3;have hm4:=hc.m4;refine⟨_,rfl,one,c.cc,rfl,rfl,.inl ⟨by lia,by lia⟩,?_⟩;refine⟨_,_,rfl,rfl,_,_,rfl,rfl,hm2.1,?_⟩;dsimp only;have f0:0<=(one * c.cc+c.ce) % c.m2:=Jx _ (by lia);have f1:(one * c.cc+c.ce) % c.m2<c.m2:=ZX _ hm2.1;generalize (one * c.cc+c.ce) % c.m2=sd at f0 f1;refine⟨_,rfl,a,_,rfl,z6l p _,?_⟩;have p2:=p.setS (s':=sd) (by lia) (by lia);refine zj5 p2 rfl (zj5 p2 rfl ?_);refine⟨sd,sd,rfl,rfl,.inl ⟨by lia,by lia⟩,_,_,rfl,rfl,hm3.1,?_⟩;have g0:0<=one * one % c.m4:=Jx _ (by lia);have g1:one * one % c.m4<c.m4:=ZX _ hm4.1;refine⟨_,rfl,_,rfl,one,one,rfl,rfl,.inl ⟨by lia,by lia⟩,?_⟩;refine⟨_,_,rfl,rfl,hm4.1,_,_,rfl,rfl,.inl ⟨by lia,by lia⟩,?_⟩;refine⟨_,rfl,_,_,rfl,rfl,_,rfl,_,_,rfl,rfl,m0,?_⟩;exact q _ _ _ _ _ (Jx _ (by lia)) (ZX _ m0) p2 (.upA _)
theorem zvb{K:Qa}{dc:DC}(hc:dc.Ok){H:Hp}{a l:Addr}{s n:Int}{ns:List Int}{m:Int}{D:Ends}(p:DealAt H a l s n ns)(m0:0<m)(m1:m<1073741824)
 (q:∀k H' s' n' ns',0<=k->k<m->DealAt H' a l s' n' ns'->PotStp a l H H'->D.rt (.int k) H'):zj1 K dc D [some (.ref a),some (.int m),none,none,none] H:=by
 refine⟨λc σ H'=>σ = [some (.ref a),some (.int m),none,none,none]/\∃s n ns,c=ns.length/\DealAt H' a l s n ns/\PotStp a l H H',⟨_,rfl,s,n,ns,rfl,p,.refl _ _ _⟩,?_⟩;rintro c σ H1 ⟨rfl,s,n,ns,rfl,p,st⟩;have out:zki K dc D [some (.ref a),some (.int m),none,none,none] H1:=zsu hc p m0 m1 λk H' s' n' ns' h1 h2 h3 h4=>q k H' s' n' ns' h1 h2 h3 (st.trans h4);refine zsx p rfl ?_;refine⟨rfl,_,rfl,?_⟩;refine ite2 (λc=>?_) (λc=>iteF out);refine zpu p rfl ?_;refine⟨_,_,rfl,.inl ⟨_,.of p.hl,rfl⟩,_,_,rfl,rfl,_,rfl,?_⟩;refine ite2 (λc2=>?_) (λc2=>out);have c3:=Tz c2;have hne:ns≠[]:=λe=>by rw[e] at c3;simp at c3
 obtain⟨r,x,rfl⟩:∃r x,ns=r ++ [x]:=⟨ns.dropLast,ns.getLast hne,(List.dropLast_concat_getLast hne).symm⟩;refine⟨λσ' H'=>σ' = [some (.ref a),some (.int m),none,none,none]/\∃s n ns,ns.length<(r ++ [x]).length/\DealAt H' a l s n ns/\PotStp a l H H',λσ' H' ⟨e,s,n,ns,hl,h1,h2⟩=>⟨_,hl,e,s,n,ns,rfl,h1,h2⟩,?_⟩;refine zpu p rfl ?_;have p1:DealAt (upd H1 l (.lst ((r ++ [x]).map V.int).dropLast)) a l s n r:=⟨p.ne,by rw[zae p.ne];exact p.ha,by rw[zaj,QI];show some (HO.lst (List.dropLast (_ ++ [V.int x])))=_;rw[List.dropLast_concat],p.s0,p.s1,p.n0,λz hz=>p.ns0 z (Jb _ hz)⟩;refine⟨.inl ⟨rfl,_,.of p.hl⟩,l,_,.int x,rfl,rfl,p.hl,by simp,?_⟩;refine⟨_,rfl,a,_,rfl,zw3 p1 x,rfl,s,x,r,by simp,p1.setN (p.ns0 x (by simp)),st.trans (PotStp.trans (.upL _) (.upA _))⟩
theorem zou{K:Qa}{c:DC}(hc:c.Ok){O:Ob}{H:Hp}{ds:List Uu}{ws:List V}{Qr:R->Prop}{Q:VK}{x1 x2 x3 x4 x5:Str}(hφ:IsDeal O)(p:O.P H)(is:IsAll K (unM O) H ws ds)(q:zcu ds Qr)(kk:∀r,Qr r->∀v H',Stp O H H'->Out K O H H' v r->Q v H'):
 zj1 K c { nx:=λ_ H'=>Q .non H',rt:=Q } (L2.start [x1,x2,x3,x4,x5] (O.v::ws)) H:=by
 obtain⟨m,rfl,m0,m1,q⟩:=q;obtain⟨a,l,hv,ma,ml,h1,h2⟩:=hφ.ex;obtain⟨s,n,ns,pa⟩:=h1 H p;obtain⟨v,rfl,iv⟩:=zbf is;cases iv;rw[hv];exact zvb hc pa m0 m1 λk H' s' n' ns' k0 k1 p' st=>kk _ (q k k0 k1) _ H' (zup ma ml h2 pa p' st) (Is.int k)
def zsb(K:Qa)(ti ts:TE):TS :=
 tSeq (tAsg (zf1 1 (zg5 K (tSl (rSlL K) (tVar 0) (zl6 (tVar 1)) (zl6 (tC (.int 63))))) (za9 0) tYes (tCB zxf (za1 (tVar 0) (za1 (tOp (rI0 λi j=>.int (i-j)) (tC (.int 0)) (tVar 0)) tNil)))) (za9 2))
 (tSeq (tAsg ti (za9 3))
 (tSeq (tFor (zg5 K (tVar 2)) (za9 4)
  (tAsg ts (za9 3)))
 (tRet (zxi [(tC (.str "seed"),tVar 3),(tC (.str "number"),tC (.int 0)),(tC (.str "left"),tLR K (zf1 1 (zg5 K (tVar 2)) (za9 0) (zdm (tOp (rI0 λi j=>.bl (decide (j<=i))) (tVar 0) (tOp (rI CPow λi j=>.int (i ^ j.toNat)) (tC (.int 10)) (tC (.int 18))))) (tVar 0)))]))))
theorem zqy{K:Qa}{ti ts:TE}{s0:Int}(hs0:0<=s0)(hs1:s0<4294967296)(hi:∀(v v1:V) H Q,Q (.int s0) H->ti [some v,some (.int 0),some v1,none,none] H Q)(hst:∀(v v1:V) (s n:Int) H Q,0<=s->s<4294967296->(∀s',0<=s'->s'<4294967296->Q (.int s') H)->ts [some v,some (.int 0),some v1,some (.int s),some (.int n)] H Q){H:Hp}{Q:VK}{a:Addr}{ns:List Int}(hS:SqL K H a (ns.map V.int))(hl:ns.length<=63)
 (q:∀p l s left H',H p=none->H l=none->Same H H'->DealAt H' p l s 0 left->Q (.ref p) H'):zsb K ti ts { nx:=λ_ H'=>Q .non H',rt:=Q } [some (.ref a),some (.int 0),none,none,none] H:=by
 have sL:=Uz;refine⟨_,rfl,_,rfl,_,rfl,63,rfl,a,_,rfl,hS,λc hc=>?_⟩;rw[zvy]
 have hcl:(cutL ns (some 0) (some 63)).length<=63:=by
  unfold cutL;rw[QB,QO];lia
 generalize cutL ns (some 0) (some 63)=cs at hcl;refine⟨c,rfl,⟨_,.of zaj⟩,?_⟩;have g1:Same H (upd H c (.lst (cs.map V.int))):=L3.same_new hc _;refine zjj (K:=K) (c:=c) (H:=upd H c (.lst (cs.map V.int))) (σ:=[some (.ref a),some (.int 0),none,none,none]) (tf:=tYes) (te:=tCB zxf (za1 (tVar 0) (za1 (tOp (rI0 λi j=>.int (i-j)) (tC (.int 0)) (tVar 0)) tNil))) (λ_=>true) (λn=>if 0-n > n then 0-n else n) (.of zaj) hcl (λn H' R r=>r) (λn H' R r=>⟨_,rfl,_,rfl,0,n,rfl,rfl,n,0-n,rfl,r⟩) λd hd=>?_;have hcs:cs.filter (λ_=>true)=cs:=List.filter_eq_self.mpr λ_ _=>rfl;rw[hcs]
 have habs:∀n∈cs.map (λn=>if 0-n > n then 0-n else n),0<=n:=λn hn=>by
  obtain⟨m,_,rfl⟩:=QS.mp hn
  split <;> lia
 have hal:(cs.map (λn=>if 0-n > n then 0-n else n)).length<=63:=by rw[Qb];exact hcl
 generalize cs.map (λn=>if 0-n > n then 0-n else n)=es at habs hal;have g2:Same H (upd (upd H c (.lst (cs.map V.int))) d (.lst (es.map V.int))):=g1.trans (L3.same_new hd _);generalize eH:upd (upd H c (.lst (cs.map V.int))) d (.lst (es.map V.int))=H1 at g2;have hd1:H1 d=some (.lst (es.map V.int)):=by rw[<- eH];exact zaj
 refine hi _ _ _ _ ?_;refine⟨_,rfl,d,rfl,⟨_,.of hd1⟩,?_⟩;refine zu6 (xs:=es.map V.int) (λi σ H'=>∃(s:Int) (o:Option V),σ = [some (.ref a),some (.int 0),some (.ref d),some (.int s),o]/\0<=s/\s<4294967296/\H'=H1) ?_ ?_ ?_ ?_
 .exact⟨_,none,rfl,hs0,hs1,rfl⟩
 .rintro i σ H' hi ⟨s,o,rfl,h1,h2,rfl⟩;exact .of hd1
 .rintro i x σ H' hx ⟨s,o,rfl,h1,h2,rfl⟩;rw[Qs] at hx;obtain⟨n,hn,rfl⟩:=Q4.mp hx;exact hst _ _ s n _ _ h1 h2 λs' f0 f1=>⟨_,_,rfl,f0,f1,rfl⟩
 .rintro σ H' ⟨s,o,rfl,h1,h2,rfl⟩;intro p hp;have npd:p≠d:=λz=>by rw[z,hd1] at hp;cases hp
  refine⟨_,rfl,?_⟩;have hd2:upd H' p (.dK []) d=some (.lst (es.map V.int)):=by rw[zae (QN npd)];exact hd1
  refine⟨_,rfl,d,rfl,⟨_,.of hd2⟩,?_⟩;refine zjj (tf:=zdm (tOp (rI0 λi j=>.bl (decide (j<=i))) (tVar 0) (tOp (rI CPow λi j=>.int (i ^ j.toNat)) (tC (.int 10)) (tC (.int 18))))) (te:=tVar 0) (λn=>decide ((10:Int) ^ (18:Int).toNat<=n)) (λn=>n) (.of hd2) hal (λn H' R r=>⟨_,rfl,10,18,rfl,rfl,⟨by decide,by decide,by decide⟩,_,_,rfl,rfl,_,rfl,r⟩) (λn H' R r=>⟨_,rfl,r⟩) λe he=>?_;rw[List.map_id'];have hfl:∀n∈es.filter (λn=>decide ((10:Int) ^ (18:Int).toNat<=n)),0<=n:=λn hn=>habs n (JX.mp hn).1;generalize es.filter (λn=>decide ((10:Int) ^ (18:Int).toNat<=n))=left at hfl;have npe:p≠e:=λz=>by rw[<- z,zaj] at he;cases he
  refine⟨e,_,rfl,.of zaj,λl hln=>?_⟩
  have npl:p≠l:=λz=>by
   rw[<- z,zae npe,zaj] at hln;cases hln
  have nel:e≠l:=λz=>by rw[<- z,zaj] at hln;cases hln
  have hlp:upd H' p (.dK []) l=none:=by rw[zae (QN nel)] at hln;exact hln
  have hlH:H' l=none:=by rw[zae (QN npl)] at hlp;exact hlp
  refine⟨by rw[zae npl,zae npe];exact zaj,zbo s 0 l,rfl,by show 3<=15;decide,?_⟩
  have em:zeg [] (zbo s 0 l)=zbo s 0 l:=by
   have a1:¬(zcr=kNum):=by decide +kernel
   have a2:¬(zcr=zdz):=by decide +kernel
   have a3:¬(kNum=zdz):=by decide +kernel
   simp[zeg,zbo,putK,a1,a2,a3]
  rw[em];have heH:H' e=none:=by rw[zae (QN npe)] at he;exact he
  have hm:(left.map V.int).reverse=left.reverse.map V.int:=List.map_reverse.symm;rw[hm];refine q p l s left.reverse _ (g2.free hp) (g2.free hlH) (λb o eb=>?_) ⟨npl,zaj,?_,h1,h2,Int.le_refl 0,λn hn=>hfl n (List.mem_reverse.mp hn)⟩
  .have e1:=g2 b o eb;have n1:b≠p:=λz=>by rw[z,hp] at e1;cases e1
   have n2:b≠l:=λz=>by rw[z,hlH] at e1;cases e1
   have n3:b≠e:=λz=>by rw[z,heH] at e1;cases e1
   rw[zae n1,zae n2,zae n3,zae n1];exact e1
  .rw[zae (QN npl)];exact zaj
end L3
namespace L44
open PySem PySem.Spec
open PyProof.Rows hiding St
open L2 L3
def top(i:Nat):Stmt:=PySem.Challenge.pw_lostpost_k44_runs_looked_at.main.body.getD i (.Pass ⟨0,0,0,0⟩)
section
variable {P:Uy}{w:U0}{K:Qa}{mg:Str->Option Ut}{base:Heap}{k:Nat}
abbrev zha(P:Uy)(w:U0)(K:Qa)(mg:Str->Option Ut)(base:Heap):Prop:=Def3 P w K mg base 1 "_law_draw" ["_law_deal_here", "_law_many"] (spD K IsDeal 1 zcu)
abbrev zqt:Stmt:=top 30
theorem z2r:FnScope ["_law_script", "_law_base", "_law_cells", "_law_number", "_law_cell"] ["_law_script", "_law_base"] (zah zqt):=⟨rfl,rfl,rfl,by decide +kernel,rfl,by decide +kernel,by decide +kernel⟩
theorem d_law_deal(B:Blt mg)(T:Top3 K mg "_law_deal" zqt):Def3 P w K mg base 1 "_law_deal" ["_law_script", "_law_base"] (zjt K):=by
 obtain⟨f,fd,Fu,m⟩:=T.ex;refine⟨f,fd,Fu.ok z2r (λvs H Q E h=>by obtain⟨a,ns,rfl,_⟩:=h;rfl) (λcdv A outer s H vs Q E hr h=>?_),m,Fu.kp,Fu.binds (λ_ _ _ _ _ _ us hl=>len2 hl λ_ _=>rfl)⟩;obtain⟨a,ns,rfl,hS,hl,q⟩:=h;refine⟨zsb K (tOp (rI0 λi j=>.int (i+j)) (tC (.int 7919)) (tVar 1)) (tOp (rI (λ_ j=>0<j) λi j=>.int (i % j)) (tOp (rI0 λi j=>.int (i+j)) (tOp (rI CMul λi j=>.int (i * j)) (tVar 3) (tC (.int 69621))) (tOp (rI (λ_ j=>0<j) λi j=>.int (i % j)) (tVar 4) (tC (.int 2147483629)))) (tC (.int 2147483647))),?_,zqy (s0:=7919+0) (by decide) (by decide) (λv v1 H Q q=>⟨_,rfl,7919,0,rfl,rfl,q⟩) (λv v1 s n H Q h1 h2 q=>⟨_,rfl,s,69621,rfl,rfl,.inl ⟨by lia,by lia⟩,_,rfl,n,2147483629,rfl,rfl,(show(0:Int)<2147483629 by decide),_,_,rfl,rfl,_,_,rfl,rfl,(show(0:Int)<2147483647 by decide),q _ (Jx _ (by decide)) (Int.lt_of_lt_of_le (ZX _ (by decide)) (by decide))⟩) hS hl q⟩;have nd:(["_law_script", "_law_base", "_law_cells", "_law_number", "_law_cell"]:List Str).Nodup:=by decide +kernel
 exact(zbp (zjh (n0:=2) nd rfl rfl rfl 1 (N':=["_law_cell", "_law_script", "_law_base", "_law_cells", "_law_number", "._law_cell"]) (.of rfl (by kernel_rfl)) rfl (zg3 (znn sl_list (zal (i:=0) rfl (by first|exact Or.inl rfl|exact Or.inr (Or.inl rfl)|exact Or.inr (Or.inr rfl))) (zj7 (zal (i:=1) rfl (by first|exact Or.inl rfl|exact Or.inr (Or.inl rfl)|exact Or.inr (Or.inr rfl)))) (zj7 zbb))) (λC s H ex=>zdi (Tz (by kernel_rfl)) rfl (by first|exact Or.inl rfl|exact Or.inr rfl) (by first|exact .inl rfl|exact .inr rfl)) (zei (by decide)) (λC s H ex=>zmq) (λC s H ex=>zeh (zt5 rfl) rfl B.max z1l (zaw (zal (i:=0) rfl (by first|exact Or.inl rfl|exact Or.inr (Or.inl rfl)|exact Or.inr (Or.inr rfl))) (zaw (zbl zum zbb (zal (i:=0) rfl (by first|exact Or.inl rfl|exact Or.inr (Or.inl rfl)|exact Or.inr (Or.inr rfl)))) zbk))))
  (zbp (zc5 (i:=3) nd rfl (by first|exact Or.inl rfl|exact Or.inr rfl) (zbl op_add zbb (zal (i:=1) rfl (by first|exact Or.inl rfl|exact Or.inr (Or.inl rfl)|exact Or.inr (Or.inr rfl)))))
  (zbp (zm4 YI rfl (zg3 (zal (i:=2) rfl (by first|exact Or.inl rfl|exact Or.inr (Or.inl rfl)|exact Or.inr (Or.inr rfl)))) (zdi (i:=4) nd rfl (by first|exact Or.inl rfl|exact Or.inr rfl)) (zch (zc5 (i:=3) nd rfl (by first|exact Or.inl rfl|exact Or.inr rfl) (zbl zdo (zbl op_add (zbl zfj (zal (i:=3) rfl (by first|exact Or.inl rfl|exact Or.inr (Or.inl rfl)|exact Or.inr (Or.inr rfl))) zbb) (zbl zdo (zal (i:=4) rfl (by first|exact Or.inl rfl|exact Or.inr (Or.inl rfl)|exact Or.inr (Or.inr rfl))) zbb)) zbb))))
  (zch (zg1 (z0v (zh3 zbx (zal (i:=3) rfl (by first|exact Or.inl rfl|exact Or.inr (Or.inl rfl)|exact Or.inr (Or.inr rfl))) (zh3 zbx zbb (zh3 zbx (zqo (hr.hd) rfl B.list rfl B.reversed (zkp 1 (N':=["_law_cell", "_law_script", "_law_base", "_law_cells", "_law_number", "._law_cell"]) (.of rfl (by kernel_rfl)) rfl (zg3 (zal (i:=2) rfl (by first|exact Or.inl rfl|exact Or.inr (Or.inl rfl)|exact Or.inr (Or.inr rfl)))) (λC s H ex=>zdi (Tz (by kernel_rfl)) rfl (by first|exact Or.inl rfl|exact Or.inr rfl) (by first|exact .inl rfl|exact .inr rfl)) (zei (by decide)) (λC s H ex=>ztg (zfc z5w (zal (i:=0) rfl (by first|exact Or.inl rfl|exact Or.inr (Or.inl rfl)|exact Or.inr (Or.inr rfl))) (zbl zsa zbb zbb) (zb7 _))) (λC s H ex=>(zal (i:=0) rfl (by first|exact Or.inl rfl|exact Or.inr (Or.inl rfl)|exact Or.inr (Or.inr rfl)))))) z0e))) rfl rfl (by simp) (by decide)))))))
def dc:DC:=⟨7919,40692,104729,2147483399,2147483563,2147483629⟩
theorem z5d:dc.Ok:=⟨by decide,by decide,by decide,by decide⟩
abbrev zp0:Stmt:=top 31
theorem z3l:FnScope ["_law_deal_here", "_law_many", "_law_number", "_law_one", "_law_other"] ["_law_deal_here", "_law_many"] (zah zp0):=⟨rfl,rfl,rfl,by decide +kernel,rfl,by decide +kernel,by decide +kernel⟩
theorem d_law_draw(B:Blt mg)(T:Top3 K mg "_law_draw" zp0):Def3 P w K mg base 1 "_law_draw" ["_law_deal_here", "_law_many"] (spD K IsDeal 1 zcu):=by
 obtain⟨f,fd,Fu,m⟩:=T.ex;refine⟨f,fd,Fu.ok z3l (zpb rfl) (λcdv A outer s H vs Q E hr h=>?_),m,Fu.kp,Fu.binds (λ_ _ _ _ _ _ us hl=>len2 hl λ_ _=>rfl)⟩;obtain⟨O,ds,ws,Qr,ok,hφ,p,hl,rfl,is,q,kk⟩:=h;refine⟨zj1 K dc,?_,zou z5d hφ p is q kk⟩;have nd:(["_law_deal_here", "_law_many", "_law_number", "_law_one", "_law_other"]:List Str).Nodup:=by decide +kernel
 exact(zbp (zvp YI (PW.pt (zsv (zfc z5s (zdf (zdl hr) (zal (i:=0) rfl (by first|exact Or.inl rfl|exact Or.inr (Or.inl rfl)|exact Or.inr (Or.inr rfl))) zbx (λ_ _=>rfl)) zbb (zb7 _)) (zo8 (zfc zp5 (zeh zhu rfl B.len zmk (zaw (zdf (zdl hr) (zal (i:=0) rfl (by first|exact Or.inl rfl|exact Or.inr (Or.inl rfl)|exact Or.inr (Or.inr rfl))) zbx (λ_ _=>rfl)) zbk)) zbb (zb7 _))))) (zch (zjv (zdl hr) (zal (i:=0) rfl (by first|exact Or.inl rfl|exact Or.inr (Or.inl rfl)|exact Or.inr (Or.inr rfl))) zbx (z4p Jl YO YQ zyc (zdf (zdl hr) (zal (i:=0) rfl (by first|exact Or.inl rfl|exact Or.inr (Or.inl rfl)|exact Or.inr (Or.inr rfl))) zbx (λ_ _=>rfl))) rfl)))
  (zbp (zc5 (i:=2) nd rfl (by first|exact Or.inl rfl|exact Or.inr rfl) (zdf (zdl hr) (zal (i:=0) rfl (by first|exact Or.inl rfl|exact Or.inr (Or.inl rfl)|exact Or.inr (Or.inr rfl))) zbx (λ_ _=>rfl)))
  (zbp (zp3 (zfc zp5 (zal (i:=2) rfl (by first|exact Or.inl rfl|exact Or.inr (Or.inl rfl)|exact Or.inr (Or.inr rfl))) zbb (zb7 _)) (zbp (zjv (zdl hr) (zal (i:=0) rfl (by first|exact Or.inl rfl|exact Or.inr (Or.inl rfl)|exact Or.inr (Or.inr rfl))) zbx (zbl zxz (zal (i:=2) rfl (by first|exact Or.inl rfl|exact Or.inr (Or.inl rfl)|exact Or.inr (Or.inr rfl))) (zal (i:=1) rfl (by first|exact Or.inl rfl|exact Or.inr (Or.inl rfl)|exact Or.inr (Or.inr rfl)))) rfl) (zch (zg1 (zbl zdo (zal (i:=2) rfl (by first|exact Or.inl rfl|exact Or.inr (Or.inl rfl)|exact Or.inr (Or.inr rfl))) (zal (i:=1) rfl (by first|exact Or.inl rfl|exact Or.inr (Or.inl rfl)|exact Or.inr (Or.inr rfl))))))) zo6)
  (zbp (zc5 (i:=3) nd rfl (by first|exact Or.inl rfl|exact Or.inr rfl) (zbl zdo (zbl op_add (zbl zfj (zdf (zdl hr) (zal (i:=0) rfl (by first|exact Or.inl rfl|exact Or.inr (Or.inl rfl)|exact Or.inr (Or.inr rfl))) zbx (λ_ _=>rfl)) zbb) zbb) zbb))
  (zbp (zjv (zdl hr) (zal (i:=0) rfl (by first|exact Or.inl rfl|exact Or.inr (Or.inl rfl)|exact Or.inr (Or.inr rfl))) zbx (zbl zdo (zbl op_add (zbl zfj (zal (i:=3) rfl (by first|exact Or.inl rfl|exact Or.inr (Or.inl rfl)|exact Or.inr (Or.inr rfl))) zbb) zbb) zbb) rfl)
  (zbp (zc5 (i:=4) nd rfl (by first|exact Or.inl rfl|exact Or.inr rfl) (zbl zdo (zbl zfj (zdf (zdl hr) (zal (i:=0) rfl (by first|exact Or.inl rfl|exact Or.inr (Or.inl rfl)|exact Or.inr (Or.inr rfl))) zbx (λ_ _=>rfl)) (zdf (zdl hr) (zal (i:=0) rfl (by first|exact Or.inl rfl|exact Or.inr (Or.inl rfl)|exact Or.inr (Or.inr rfl))) zbx (λ_ _=>rfl))) zbb))
  (zch (zg1 (zbl zdo (zbl op_add (zbl zfj (zbl zdo (zbl zfj (zal (i:=3) rfl (by first|exact Or.inl rfl|exact Or.inr (Or.inl rfl)|exact Or.inr (Or.inr rfl))) (zal (i:=3) rfl (by first|exact Or.inl rfl|exact Or.inr (Or.inl rfl)|exact Or.inr (Or.inr rfl)))) zbb) zbb) (zal (i:=4) rfl (by first|exact Or.inl rfl|exact Or.inr (Or.inl rfl)|exact Or.inr (Or.inr rfl)))) (zal (i:=1) rfl (by first|exact Or.inl rfl|exact Or.inr (Or.inl rfl)|exact Or.inr (Or.inr rfl))))))))))))
end
end L44
namespace L3
open PySem PySem.Spec
open PyProof.Rows hiding St
open L2
theorem zl8:U5 "enumerate" = some (.type "enumerate"):=by decide +kernel
section
variable {K:Qa}{O:Ob}
def zez(ds:List Uu):List Uu:=ds.mapIdx λi d=>.tuple [.int (i:Nat),d]
theorem zc1(ds:List Uu):(zez ds).length=ds.length:=by unfold zez;rw[List.length_mapIdx]
theorem zdn{i:Nat}{d:Uu}(h:(zez ds)[i]? = some d):∃e,ds[i]? = some e/\d = .tuple [.int (i:Nat),e]:=by
 unfold zez at h;rw[YU] at h;obtain⟨e,he,rfl⟩:=Q4.mp h;exact⟨e,he,rfl⟩
end
abbrev tS(w:List Nat):Uu:=.str (tx w)
def Sml(w:List Nat):Prop:=w.length<=100/\∀c∈w,c<128
theorem zrv{w:List Nat}(h:Sml w):QR (tx w)=true:=by
 rw[strOk_iff];intro c hc;rw[zdp] at hc;have:=h.2 c hc;lia
mutual
def zca:Uu->Bool
 | .none=>true
 | .int _=>true
 | .str _=>true
 | .tuple ds=>zgq ds
 | _=>false
def zgq:List Uu->Bool
 | []=>true
 | d::ds=>zca d && zgq ds
end
mutual
theorem zk6:∀d e:Uu,zca d=true->zca e=true->(QA d e=true↔d=e)
 | .none,e,_,h=>by cases e <;> simp[QA,zca] at *
 | .int i,e,_,h=>by cases e <;> simp[QA,zca] at *
 | .str x,e,_,h=>by cases e <;> simp[QA,zca] at *
 | .tuple ds,e,h0,h=>by
   cases e with
   | tuple es=>
     have:=zih ds es (by simpa[zca] using h0) (by simpa[zca] using h);simp only[QA];rw[this];exact⟨λz=>by rw[z],λz=>by cases z;rfl⟩
   | none=>simp[QA]
   | int _=>simp[QA]
   | str _=>simp[QA]
   | bool _=>simp[zca] at h
   | list _=>simp[zca] at h
   | dict _=>simp[zca] at h
 | .bool _,_,h,_=>by simp[zca] at h
 | .list _,_,h,_=>by simp[zca] at h
 | .dict _,_,h,_=>by simp[zca] at h
theorem zih:∀ds es:List Uu,zgq ds=true->zgq es=true->(ZK ds es=true↔ds=es)
 | [],[],_,_=>by simp[ZK]
 | [],_::_,_,_=>by simp[ZK]
 | _::_,[],_,_=>by simp[ZK]
 | d::ds,e::es,h,h'=>by
   simp only[zgq,Qu] at h h';simp only[ZK,Qu];rw[zk6 d e h.1 h'.1,zih ds es h.2 h'.2];simp
end
structure Nice(n b:Nat)(d:Uu):Prop where
 lay:d.canLay0=true
 sh:d.showable=true
 sho:d.leavesShort 13=true
 dep:d.depth<=n
 bul:d.bulk<=b
 sol:zca d=true
theorem zmn{b:Nat}(h:QR x=true)(hb:x.length<=b):Nice 0 b (.str x):=⟨h,by simp[YH],ztp h,Qm _,hb,rfl⟩
theorem num3:∀n,n<1000->(JQ 10 n).length<=3:=by decide +kernel
theorem zut{n:Nat}(h:n<1000):Nice 0 0 (.int (n:Nat)):=by
 refine⟨rfl,?_,?_,Qm _,Qm _,rfl⟩
 .rw[YH,Int.natAbs_natCast];exact TH (Vk (Nat.log2_le_self n) (by lia))
 .rw[Vo,VF];refine TH ?_;show(QH (toString ((n:Nat):Int))).cps.size<=13;have e:=PySem.W.KIN.signs_num n
  have e2:(QH (toString ((n:Nat):Int))).cps.size=(JQ 10 n).length:=by
   rw[<- J9,e,Qb]
  rw[e2];have:=num3 n h;lia
theorem Nice.okD{n b:Nat}{d:Uu}(h:Nice n b d)(hn:n<=60:=by decide):L3.okD d=true:=by
 unfold L3.okD;rw[h.lay];have:=h.dep;simp;lia
theorem z5v:(2:Nat) ^ 20=1048576:=by decide
theorem Nice.repr{n b:Nat}{d:Uu}(h:Nice n b d)(hn:n<=60:=by decide)(hb:b<=1048576:=by decide):∃x,zfu [d]=some (.o (.str x))/\QR x=true :=
 zzz h.lay h.sh (Q5 h.dep hn) h.sho (Q5 h.bul (by have:=z5v;lia))
theorem zyu{n b n' b':Nat}{neg:Bool}{d:Uu}(h:Nice n b d)(h':Nice n' b' e)(hn:n<=60:=by decide){q:Bool}(hq:q=true↔d=e):eqF neg d e=some (.o (.bool (if neg then !q else q))):=by
 unfold eqF;rw[T0 (by rw[h.okD hn,h'.lay];rfl)]
 have e1:QA d e=q:=by
  have:=(zk6 d e h.sol h'.sol).trans hq.symm;cases h1:QA d e <;> cases q <;> simp_all
 rw[e1]
theorem zfh{i:Nat}{d:Uu}(h:ds[i]? = some d):idxF (.list ds) (.int (i:Nat))=some (.o d):=by
 show(atI ds _).map R.o=_;rw[zkb (v:=d) h];rfl
theorem zoy{i:Nat}{d:Uu}(h:ds[i]? = some d):idxF (.tuple ds) (.int (i:Nat))=some (.o d):=by
 show(atI ds _).map R.o=_;rw[zkb (v:=d) h];rfl
end L3
namespace L6
def eat(c:Nat):List Nat->List Nat
 | []=>[]
 | x::r=>if x=c then r else x::r
def eats(l:List Nat):List Nat->List Nat:=λless=>l.foldl (λr c=>eat c r) less
def under(less more:List Nat):Bool:=(eats more less).isEmpty
theorem zvm(l:List Nat):eats l [] = []:=by
 induction l with
 | nil=>rfl
 | cons c l ih=>exact ih
theorem zgn:∀{more less:List Nat},under less more=true↔less.Sublist more
 | [],[]=>by simp[under,eats]
 | [],x::less=>by simp[under,eats]
 | c::more,[]=>by simp[under,zvm]
 | c::more,x::less=>by
   show under (eat c (x::less)) more=true↔_
   by_cases h:x=c
   .subst h;rw[show eat x (x::less)=less from T0 rfl,zgn (more:=more) (less:=less)];exact⟨λz=>z.cons_cons x,λz=>by cases z with|cons _ z=>exact List.Sublist.trans (YB _ _) z|cons_cons _ z=>exact z⟩
   .rw[show eat c (x::less)=x::less from TB h,zgn (more:=more) (less:=x::less)];exact⟨λz=>z.cons c,λz=>by cases z with|cons _ z=>exact z|cons_cons _ z=>exact absurd rfl h⟩
def zbw(c:Nat)(more:List Nat)(start:Nat):Option Nat:=((ZN more.length).filter λi=>decide (start<=i) && decide (more[i]? = some c)).head?
def plc:List Nat->List Nat->Nat->List Nat->Option (List Nat)
 | [],_,_,acc=>some acc
 | c::r,more,start,acc=>match zbw c more start with
   | none=>none
   | some p=>plc r more (p+1) (acc ++ [p])
theorem zew{c:Nat}{more:List Nat}{start p:Nat}(h:zbw c more start=some p):start<=p/\more[p]? = some c/\∀i,start<=i->i<p->more[i]?≠some c:=by
 unfold zbw at h;rw[V1] at h;have h1:=List.find?_some h;rw[Qu] at h1;refine⟨Tz h1.1,Tz h1.2,λi hi hp e=>?_⟩;obtain⟨_,as,bs,e1,e2⟩:=List.find?_eq_some_iff_append.mp h
 have hl:p=as.length:=by
  have:=congrArg (λl=>l[as.length]?) e1;simp at this
  have hlt:as.length<more.length:=by
   have:=congrArg VM e1;simp at this;lia
  rw[Ye hlt] at this;simpa using this.symm
 have hlt:p<more.length:=by
  have:=(Qk.mp (Tz h1.2)).1;exact this
 have hm:i∈as:=by
  have e3:=congrArg (λl=>l[i]?) e1;rw[Ye (by lia),QW (by lia)] at e3;exact Zm e3.symm
 have:=e2 i hm;rw[TH hi,TH e] at this;simp at this
theorem zkv{c:Nat}{more:List Nat}{start:Nat}(h:zbw c more start=none):∀i,start<=i->more[i]?≠some c:=λi hi e=>by
 unfold zbw at h;rw[V1,List.find?_eq_none] at h;have hlt:=(Qk.mp e).1;have:=h i (Yj.mpr hlt);rw[TH hi,TH e] at this;simp at this
theorem zm7{c:Nat}: ∀{k:Nat} {l:List Nat},(∀i,i<k->l[i]?≠some c)->((c::r).Sublist l↔(c::r).Sublist (l.drop k))
 | 0,l,_=>by simp
 | k+1,[],_=>by simp
 | k+1,y::l,h=>by
   have hy:y≠c:=λe=>h 0 (by lia) (by simp[e]);have ih:=zm7 (r:=r) (k:=k) (l:=l) λi hi=>by have:=h (i+1) (by lia);simpa using this
   rw[List.drop_succ_cons,<- ih];exact⟨λz=>by cases z with|cons _ z=>exact z|cons_cons _ z=>exact absurd rfl hy,λz=>z.cons y⟩
theorem zig:∀(less more:List Nat) (start:Nat) (acc:List Nat),(plc less more start acc).isSome=true↔less.Sublist (more.drop start)
 | [],more,start,acc=>by simp[plc]
 | c::r,more,start,acc=>by
   unfold plc
   cases h:zbw c more start with
   | none=>
     have hn:=zkv h;refine⟨λz=>(by cases z),λz=>?_⟩;have hm:c∈more.drop start:=z.subset Qw;obtain⟨i,hi⟩:=List.mem_iff_getElem?.mp hm;rw[ZV] at hi;exact absurd hi (hn _ (by lia))
   | some p=>
     obtain⟨h1,h2,h3⟩:=zew h;have ih:=zig r more (p+1) (acc ++ [p]);show(plc r more (p+1) (acc ++ [p])).isSome=true↔_;rw[ih]
     have e1:=zm7 (c:=c) (r:=r) (k:=p-start) (l:=more.drop start) λi hi=>by
      rw[ZV];exact h3 _ (by lia) (by lia)
     rw[e1,List.drop_drop,show start+(p-start)=p by lia];obtain⟨hp,hv⟩:=Qk.mp h2;rw[QX hp,hv];exact⟨λz=>z.cons_cons c,λz=>by cases z with|cons _ z=>exact(YB _ _).trans z|cons_cons _ z=>exact z⟩
theorem zr8(less more:List Nat):(plc less more 0 []).isSome=under less more:=by
 have:=zig less more 0 [];rw[Ys,<- zgn] at this;cases h:(plc less more 0 []).isSome <;> cases h':under less more <;> simp_all
end L6
namespace L3
open PySem PySem.Spec
open PyProof.Rows hiding St
open L2
section
variable {X:Cx}
def znj:V->List V->Hp->VK->Prop:=λx vs H Q=>∃(t y:Str) (i:Int),x = .str t/\vs = [.str y,.int i]/\Q (.int (Uo t y i)) H
theorem zwk:MtR X "str.find" znj:=by
 intro pins s σ H x vs v us Q I rx rv h;obtain⟨t,y,i,rfl,rfl,q⟩:=h;obtain⟨tk,rfl⟩:=rx
 cases rv with
 | cons r1 rv=>
   cases rv with
   | cons r2 rv=>
     cases rv;obtain⟨t1,rfl⟩:=r1;obtain⟨t2,rfl⟩:=r2;exact SC.find3 ⟨.int _,H,I.tok _,⟨_,rfl⟩,q⟩
end
section
variable {K:Qa}{O:Ob}
def zta(fo:DE)(g:DA):DE:=λρ Q=>fo ρ λr0=>∃t,r0.d = .str t/\g ρ λds=>∃y i,ds = [.str y,.int i]/\Q (.o (.int (Uo t y i)))
theorem zvn{to:TE}(ho:ED K O to fo)(ha:AD K O ta g):ED K O (tBM K "str" znj to ta) (zta fo g):=λσ H ρ Q Qd S hf k=>by
 refine ho σ H ρ _ _ S hf λv H1 r0 s1 o1 zz=>?_;obtain⟨t,e0,q1⟩:=zz;have i0:=o1.is S.ok S.p;rw[e0] at i0;cases i0;refine⟨rfl,?_⟩;refine ha σ H1 ρ _ _ (S.stp s1) q1 λvs H2 ds s2 is zz=>?_;obtain⟨y,i,e,q⟩:=zz;subst e
 cases is with
 | cons i1 is=>
   cases is with
   | cons i2 is=>
     cases is;cases i1;cases i2;exact⟨t,y,i,rfl,rfl,k _ H2 (.o _) (s1.trans s2) (Is.int _) q⟩
end
section
variable {K:Qa}{O:Ob}
def unpT(is:List Nat)(f:DE):DS:=λDd ρ=>f ρ λr=>∃ds,r.d = .tuple ds/\flats ds=true/\gTD is ds ρ Dd.nx
theorem z0z{is:List Nat}{n:Nat}(hn:is.length=n)(h:ED K O t f)(hg:GRs K O tg is):SD K O (tAsg t (gTup K n tg)) (unpT is f):=λH₀ A σ H ρ D Dd r q P=>by
 refine h σ H ρ _ _ r.seen q λv H1 x s1 o1 zz=>?_;obtain⟨ds,e,fl,q1⟩:=zz;have r1:=r.stp s1;have iw:=o1.is r.ok r.p;rw[e] at iw
 cases iw with
 | tuple h1 s2=>
   refine⟨_,_,rfl,h1,by rw[s2.length,zff q1];exact hn,?_⟩;exact hg H₀ A σ H1 ρ _ ds _ _ r1 fl (IsAll.flats (TupStay.refl H1) s2 fl) q1 λA' σ' ρ' r' f' q'=>P.nx A' σ' H1 ρ' r' ((Frm.stp s1).trans f') q'
end
section
variable {ι κ:Type}{P:Uy}{w:U0}{K:Qa}{mg:Str->Option Ut}{base:Heap}{k:Nat}{X:ι->Cx}{O:κ->Ob}{a b c:Expr}{fa fb:DE}{pos p:Pos}{es:List Expr}{ga:DA}
theorem zzy{apos:Pos}(C:Ctx3 P w K mg base k X)(ho:E3 K X O a fa)(ha:A3 K X O [b,c] ga)(hbase:∀i,UJ a "find" (X i).env (eval a (X i).env)=eval a (X i).env:=by intro i;rfl)
 (hfew:∀i,((UD pos (Uw [b,c] (X i).env)).all (λx=>!x.1) && (GU pos (Gw [] (X i).env)).all (λx=>x.1.isSome) && decide (([b,c]:List Expr).length+([]:List Gp).length+(if([]:List Gp).isEmpty then 0 else 1)<30))=true:=by intro i;rfl)
 (hline:(apos.endLine == pos.line)=true:=by rfl) (hs:∀i,Uw [b,c] (X i).env=(false,eval b (X i).env)::Uw [c] (X i).env:=by intro i;rfl) (hpl:∀i,(UD pos (Uw [c] (X i).env)).any (·.1)=false:=by intro i;rfl):E3 K X O (.Call (.Attribute a "find" apos) [b,c] [] pos) (zta fa ga) :=
 let ⟨_,p1,d1⟩:=ho;let ⟨_,p2,d2⟩:=ha;⟨tBM K "str" znj _ _,λi=>by
  have h:=zgb (apos:=apos) (cpos:=pos) Ju PySem.F.slot_str_find PySem.F.type_str_find (zwk (X:=X i)) (p1 i) (p2 i) (hbase i) (hfew i) hline (hs i) (hpl i);rw[C.hK] at h
  exact h,λj=>zvn (d1 j) (d2 j)⟩
theorem zgm{h n:Nat}{is:List Nat}{j:Nat}(C:Ctx3 P w K mg base k X)(ha:E3 K X O a fa)(hr:Gs3 K X h es is)(hn:is.length=n:=by rfl)(hn2:∀i,(U3 es (X i).env).length=n:=by intro i;rfl)(hst:∀i,(U3 es (X i).env).findIdx? (·.1)=none:=by intro i;rfl)
 (hs:∀i,UP [.Tuple es j tp] a pos.line (X i).env=pure false:=by intro i;rfl) (hw:∀i,UO [.Tuple es j tp] a (X i).env=pure none:=by intro i;rfl) (h1:∀i,(U3 [.Tuple es j tp] (X i).env).map (·.2) = [Ge (.Tuple es j tp) (X i).env]:=by intro i;rfl) :
 S3 K X O (.Assign [.Tuple es j tp] a pos) (unpT is fa):=let ⟨_,p,d1,d2,o,m⟩:=hr;let ⟨_,q,d⟩:=ha;
 ⟨tAsg _ (gTup K n _),λi=>by have z:=zjk (pos:=tp) (k:=j) (C.calm i) (p i) (hn2 i) (hst i);rw[C.hK] at z;exact ziv (q i) z (hs i) (hw i) (h1 i),λjj=>z0z hn (d jj) (d2 (O jj))⟩
end
section
variable {X:Cx}
def zkh:V->List V->Hp->VK->Prop:=λx vs H Q=>∃t y:Str,x = .str t/\vs = [.str y]/\Q (.bl (Yu t y)) H
theorem zs7:MtR X "str.startswith" zkh:=by
 intro pins s σ H x vs v us Q I rx rv h;obtain⟨t,y,rfl,rfl,q⟩:=h;obtain⟨tk,rfl⟩:=rx;obtain⟨u,rfl,t1,rfl⟩:=Vals.one rv;exact SC.startswith ⟨.bl _,H,I,rfl,q⟩
end
section
variable {K:Qa}{O:Ob}
def zox(fo:DE)(g:DA):DE:=λρ Q=>fo ρ λr0=>∃t,r0.d = .str t/\g ρ λds=>∃y,ds = [.str y]/\Q (.o (.bool (Yu t y)))
theorem zsc{to:TE}(ho:ED K O to fo)(ha:AD K O ta g):ED K O (tBM K "str" zkh to ta) (zox fo g):=λσ H ρ Q Qd S hf k=>by
 refine ho σ H ρ _ _ S hf λv H1 r0 s1 o1 zz=>?_;obtain⟨t,e0,q1⟩:=zz;have i0:=o1.is S.ok S.p;rw[e0] at i0;cases i0;refine⟨rfl,?_⟩;refine ha σ H1 ρ _ _ (S.stp s1) q1 λvs H2 ds s2 is zz=>?_;obtain⟨y,e,q⟩:=zz;subst e;obtain⟨v,rfl,iv⟩:=zbf is;cases iv;exact⟨t,y,rfl,rfl,k _ H2 (.o _) (s1.trans s2) (Is.bool _) q⟩
theorem zss(w:List Nat)(c:Nat):Yu (tx w) (tx [c])=decide (w.head? = some c):=by
 have h:=StrLaws.subAt_one (tx w) c 0;rw[ZP,decide_eq_true_iff];unfold Yu;rw[Qu,decide_eq_true_iff];refine h.trans ?_;rw[zdp];cases w <;> simp
end
section
variable {ι κ:Type}{P:Uy}{w:U0}{K:Qa}{mg:Str->Option Ut}{base:Heap}{k:Nat}{X:ι->Cx}{O:κ->Ob}{a b:Expr}{fa:DE}{ga:DA}{pos:Pos}
theorem zwh{apos:Pos}(C:Ctx3 P w K mg base k X)(ho:E3 K X O a fa)(ha:A3 K X O [b] ga)(hbase:∀i,UJ a "startswith" (X i).env (eval a (X i).env)=eval a (X i).env:=by intro i;rfl)
 (hfew:∀i,((UD pos (Uw [b] (X i).env)).all (λx=>!x.1) && (GU pos (Gw [] (X i).env)).all (λx=>x.1.isSome) && decide (([b]:List Expr).length+([]:List Gp).length+(if([]:List Gp).isEmpty then 0 else 1)<30))=true:=by intro i;rfl)
 (hline:(apos.endLine == pos.line)=true:=by rfl) (hs:∀i,Uw [b] (X i).env=(false,eval b (X i).env)::Uw [] (X i).env:=by intro i;rfl) (hpl:∀i,(UD pos (Uw [] (X i).env)).any (·.1)=false:=by intro i;rfl):E3 K X O (.Call (.Attribute a "startswith" apos) [b] [] pos) (zox fa ga) :=
 let ⟨_,p1,d1⟩:=ho;let ⟨_,p2,d2⟩:=ha;⟨tBM K "str" zkh _ _,λi=>by
  have h:=zgb (apos:=apos) (cpos:=pos) Ju PySem.F.slot_str_startswith PySem.F.type_str_startswith (zs7 (X:=X i)) (p1 i) (p2 i) (hbase i) (hfew i) hline (hs i) (hpl i);rw[C.hK] at h
  exact h,λj=>zsc (d1 j) (d2 j)⟩
end
inductive Deed where
 | go
 | send (l c:Nat)
 | take (l c:Nat)
 | empty (l:Nat)
 | put (f v:Nat)
 | test (f v:Nat)
deriving DecidableEq
def Deed.kd:Deed->Um
 | .go=> "go"
 | .send _ _=> "send"
 | .take _ _=> "take"
 | .empty _=> "empty"
 | .put _ _=> "set"
 | .test _ _=> "if"
def zb5:Deed->Uu
 | .go=>.tuple [.str "go"]
 | .send l c=>.tuple [.str "send",.int l,.str (tx [c])]
 | .take l c=>.tuple [.str "take",.int l,.str (tx [c])]
 | .empty l=>.tuple [.str "empty",.int l]
 | .put f v=>.tuple [.str "set",.int f,.int v]
 | .test f v=>.tuple [.str "if",.int f,.int v]
structure Rul where
 p:Nat
 d:Deed
 q:Nat
def zda(r:Rul):Uu:=.tuple [.int r.p,zb5 r.d,.int r.q]
structure Hnd where
 n:Nat
 rs:List Rul
def zbz(h:Hnd):Uu:=.tuple [.int h.n,.tuple (h.rs.map zda)]
structure Hou where
 ls:List Nat
 lines:Nat
 flags:Nat
 hands:List Hnd
def za2(h:Hou):Uu:=.tuple [.str (tx h.ls),.int h.lines,.int h.flags,.tuple (h.hands.map zbz)]
abbrev nD(n:Nat):Uu:=.int (n:Nat)
abbrev wD(w:List Nat):Uu:=.str (tx w)
structure Sta where
 rooms:List Nat
 flags:List Nat
 words:List (List Nat)
def zak(s:Sta):Uu:=.tuple [.tuple (s.rooms.map nD),.tuple (s.flags.map nD),.tuple (s.words.map wD)]
def DeOk(ls:List Nat)(l f:Nat):Deed->Prop
 | .go=>True
 | .send i c=>i<l/\c∈ls
 | .take i c=>i<l/\c∈ls
 | .empty i=>i<l
 | .put i v=>i<f/\v<2
 | .test i v=>i<f/\v<2
structure HoOk(h:Hou):Prop where
 low:LowW h.ls
 ne:h.ls≠[]
 short:h.ls.length<=100
 lines:h.lines<=100
 flags:h.flags<=100
 many:h.hands.length<=100
 pos:∀x∈h.hands,0<x.n/\x.n<=100
 rules:∀x∈h.hands,x.rs.length<=100/\∀r∈x.rs,DeOk h.ls h.lines h.flags r.d/\r.p<=100/\r.q<=100
structure StOk(h:Hou)(n:Nat)(s:Sta):Prop where
 rooms:s.rooms.length=h.hands.length
 flags:s.flags.length=h.flags
 words:s.words.length=h.lines
 short:∀w∈s.words,w.length<=n
 low:∀w∈s.words,LowW w
def zd0(s:Sta):Deed->Bool
 | .take l c=>decide ((s.words.getD l []).head? = some c)
 | .empty l=>decide (s.words.getD l [] = [])
 | .test f v=>decide (s.flags.getD f 0=v)
 | _=>true
def zgx(ws:List (List Nat)):Deed->List (List Nat)
 | .send l c=>ws.set l (ws.getD l [] ++ [c])
 | .take l _=>ws.set l ((ws.getD l []).drop 1)
 | _=>ws
def zob(fs:List Nat):Deed->List Nat
 | .put f v=>fs.set f v
 | _=>fs
def zfy(s:Sta)(h:Nat)(r:Rul):Sta:=⟨s.rooms.set h r.q,zob s.flags r.d,zgx s.words r.d⟩
def zl3(s:Sta)(l p:Nat):Sta:=⟨s.rooms,s.flags,s.words.set l ((s.words.getD l []).take p++(s.words.getD l []).drop (p+1))⟩
theorem zmd(d:Deed):idxF (zb5 d) (.int 0)=some (.o (.str d.kd)):=by cases d <;> rfl
theorem zi1(d:Deed):QR d.kd=true:=by cases d <;> (dsimp only [Deed.kd];decide +kernel)
def Deed.isTake:Deed->Bool
 | .take _ _=>true
 | _=>false
def Deed.isEmpty:Deed->Bool
 | .empty _=>true
 | _=>false
def Deed.isTest:Deed->Bool
 | .test _ _=>true
 | _=>false
def Deed.isSend:Deed->Bool
 | .send _ _=>true
 | _=>false
def Deed.isPut:Deed->Bool
 | .put _ _=>true
 | _=>false
theorem zea(d:Deed):eqF false (.str d.kd) (.str (QH "take"))=some (.o (.bool d.isTake)):=by
 rw[zbc (zi1 d) (by decide +kernel),TB Qo];congr 3;cases d <;> (dsimp only [Deed.kd,Deed.isTake];decide +kernel)
theorem zep(d:Deed):eqF false (.str d.kd) (.str (QH "empty"))=some (.o (.bool d.isEmpty)):=by
 rw[zbc (zi1 d) (by decide +kernel),TB Qo];congr 3;cases d <;> (dsimp only [Deed.kd,Deed.isEmpty];decide +kernel)
theorem zhg(d:Deed):eqF false (.str d.kd) (.str (QH "if"))=some (.o (.bool d.isTest)):=by
 rw[zbc (zi1 d) (by decide +kernel),TB Qo];congr 3;cases d <;> (dsimp only [Deed.kd,Deed.isTest];decide +kernel)
theorem z0o(d:Deed):eqF false (.str d.kd) (.str (QH "send"))=some (.o (.bool d.isSend)):=by
 rw[zbc (zi1 d) (by decide +kernel),TB Qo];congr 3;cases d <;> (dsimp only [Deed.kd,Deed.isSend];decide +kernel)
theorem z4j(d:Deed):eqF false (.str d.kd) (.str (QH "set"))=some (.o (.bool d.isPut)):=by
 rw[zbc (zi1 d) (by decide +kernel),TB Qo];congr 3;cases d <;> (dsimp only [Deed.kd,Deed.isPut];decide +kernel)
theorem zas{α:Type}{f:α->Uu}{xs:List α}{i:Nat}{x:α}(h:xs[i]? = some x):idxF (.tuple (xs.map f)) (.int (i:Nat))=some (.o (f x)):=zoy (by rw[Qs,h];rfl)
theorem sl_tup(xs:List Uu)(lo hi:Option Int):slcF lo hi (.tuple xs)=some (.o (.tuple (cutL xs lo hi))):=rfl
theorem zcl(h:a.length+b.length<=16777216):addF (.tuple a) (.tuple b)=some (.o (.tuple (a++b))):=by
 show(if a.length+b.length<=sizeLine then some (R.o (.tuple (a++b))) else none)=_;rw[T0 (by rw[Uz];exact h)]
theorem za3{α:Type}{xs:List α}{i:Nat}{z:α}(h:i<xs.length):xs[i]? = some (xs.getD i z):=by
 rw[ZF,Qi h];rfl
theorem zjy{α:Type}{xs:List α}{i:Nat}{d:α}(h:i<xs.length):cutL xs none (some (i:Int)) ++ [d]++cutL xs (some ((i:Int)+1)) none=xs.set i d:=by
 rw[show((i:Int)+1)=((i+1:Nat):Int) from rfl,zdq,zcx,List.set_eq_take_append_cons_drop,T0 h,Zy];rfl
theorem zg4(a b:Nat):decide ((a:Int)=(b:Int))=decide (a=b):=by
 by_cases h:a=b
 .rw[TH h,TH (congrArg _ h)]
 .rw[TF h];exact TF λz=>h (Int.ofNat_inj.mp z)
theorem zl9(w:List Nat):(tx w == QH "")=decide (w = []):=by
 rw[show QH "" = tx [] by decide +kernel,znt]
theorem ztc(a b:Nat):eqF false (.int (a:Nat)) (.int (b:Nat))=some (.o (.bool (decide (a=b)))):=by
 rw[zg9,TB Qo,zg4]
theorem zbj{α:Type}{xs:List α}{i:Nat}{z:α}(h:i<xs.length):xs.getD i z∈xs:=Zm (za3 h)
theorem zr6(xs:List Nat)(i v:Nat):flat (.tuple ((xs.map nD).set i (nD v)))=true:=by rw[<- ZG (f:=nD)];exact zao (λ_=>rfl) _
theorem zem{α:Type}(xs:List α)(lo hi:Option Int):(cutL xs lo hi).length<=xs.length:=by
 unfold cutL;rw[QB,QO];lia
def zio:List Uu->(R->Prop)->Prop:=λds Q=>∃(xs:List Uu) (i:Nat) (d:Uu),ds = [.tuple xs,.int (i:Nat),d]/\i<xs.length/\xs.length<=1000/\Q (.o (.tuple (xs.set i d)))
def zxe:List Uu->(R->Prop)->Prop:=λds Q=>∃(h:Hou) (n:Nat) (s:Sta) (d:Deed),ds = [zak s,zb5 d]/\StOk h n s/\n<=1000/\DeOk h.ls h.lines h.flags d/\LowW h.ls/\Q (.o (.bool (zd0 s d)))
def mayF:List Uu->(R->Prop)->Prop:=λds Q=>∃(h:Hou) (n:Nat) (s:Sta) (i:Nat) (r:Rul),ds = [zak s,.int (i:Nat),zda r]/\StOk h n s/\n<=1000/\DeOk h.ls h.lines h.flags r.d/\LowW h.ls/\i<h.hands.length/\Q (.o (.bool (decide (s.rooms.getD i 0=r.p) && zd0 s r.d)))
def wbhF:List Uu->(R->Prop)->Prop:=λds Q=>∃(l f:Nat) (ls:List Nat) (ws:List (List Nat)) (d:Deed),ds = [.tuple (ws.map wD),zb5 d]/\ws.length=l/\l<=100/\(∀w∈ws,w.length<=1000)/\DeOk ls l f d/\Q (.o (.tuple ((zgx ws d).map wD)))
def fbhF:List Uu->(R->Prop)->Prop:=λds Q=>∃(l f:Nat) (ls:List Nat) (fs:List Nat) (d:Deed),ds = [.tuple (fs.map nD),zb5 d]/\fs.length=f/\f<=100/\DeOk ls l f d/\Q (.o (.tuple ((zob fs d).map nD)))
def brF:List Uu->(R->Prop)->Prop:=λds Q=>∃(h:Hou) (n:Nat) (s:Sta) (i:Nat) (r:Rul),ds = [zak s,.int (i:Nat),zda r]/\HoOk h/\StOk h n s/\n<=1000/\DeOk h.ls h.lines h.flags r.d/\i<h.hands.length/\Q (.o (zak (zfy s i r)))
def blF:List Uu->(R->Prop)->Prop:=λds Q=>∃(h:Hou) (n:Nat) (s:Sta) (l p:Nat),ds = [zak s,.int (l:Nat),.int (p:Nat)]/\HoOk h/\StOk h n s/\n<=1000/\l<h.lines/\Q (.o (zak (zl3 s l p)))
inductive Stp1 where
 | act (h i:Nat)
 | lose (l p:Nat)
deriving DecidableEq
def zaz:Stp1->Uu
 | .act h i=>.tuple [.str "do",.int h,.int i]
 | .lose l p=>.tuple [.str "lose",.int l,.int p]
def zce(h:Hou)(s:Sta):Stp1->Sta
 | .act a i=>zfy s a ((h.hands.getD a ⟨0,[]⟩).rs.getD i ⟨0,.go,0⟩)
 | .lose l p=>zl3 s l p
def SpOk(h:Hou)(s:Sta):Stp1->Prop
 | .act a i=>a<h.hands.length/\i<(h.hands.getD a ⟨0,[]⟩).rs.length
 | .lose l p=>l<h.lines/\p<(s.words.getD l []).length
def bhF:List Uu->(R->Prop)->Prop:=λds Q=>∃(h:Hou) (n:Nat) (s:Sta) (t:Stp1),ds = [za2 h,zak s,zaz t]/\HoOk h/\StOk h n s/\n<=1000/\SpOk h s t/\Q (.o (zak (zce h s t)))
theorem zgy{α β:Type}{enc:α->Uu}{enc2:β->Uu}{good:β->Prop}{i h:Nat}{fe:DE}{ρ:DSt}{Q:List Uu->Prop}{as:List α}
 (step:∀a∈as,∀(Py:Uu->Prop),(∀b,good b->Py (enc2 b))->fe ((Qv h none++ρ).set i (some (.im (enc a)))) (λr=>Py r.d))
 (hz:as.length<=1000) (q:∀bs:List β,(∀b∈bs,good b)->bs.length=as.length->Q (bs.map enc2)):zbg h (gN i) (λ_ Q=>Q true) fe ρ Q (as.map enc) []:=by
 have sz:=Uz
 have key:∀(l:List α) (bs:List β),(∀a∈l,a∈as)->(∀b∈bs,good b)->bs.length+l.length=as.length->zbg h (gN i) (λ_ Q=>Q true) fe ρ Q (l.map enc) (bs.map enc2):=by
  intro l
  induction l with
  | nil=>intro bs _ hb hl;exact q bs hb hl
  | cons a l ih=>
    intro bs hs hb hl;rw[Qj] at hl;refine iteT (B:=True) (step a (hs a Qw) (λd=>(bs.map enc2).length<sizeLine/\zbg h (gN i) (λ_ Q=>Q true) fe ρ Q (l.map enc) (bs.map enc2 ++ [d])) λb gb=>⟨by rw[Qb];lia,?_⟩);have:=ih (bs ++ [b]) (λx hx=>hs x (Qq _ hx)) (λx hx=>by rcases Q6.mp hx with hx|hx;(exact hb x hx);(rw[Qn.mp hx];exact gb)) (by rw[Qf,Qz];lia);rwa [QI] at this
 exact key as [] (λ_ h=>h) (by simp) (by simp)
theorem zfm(r:Rul):flat (zda r)=true:=by
 obtain⟨p,d,q⟩:=r;cases d <;> rfl
theorem zhh(h:Hnd):flat (zbz h)=true:=by
 show(true && (flats (h.rs.map zda) && true))=true;rw[zao zfm];rfl
def RuOk(ls:List Nat)(l f:Nat)(r:Rul):Prop:=DeOk ls l f r.d/\r.p<=100/\r.q<=100
def HdOk(ls:List Nat)(l f:Nat)(x:Hnd):Prop:=(0<x.n/\x.n<=100)/\x.rs.length<=100/\∀r∈x.rs,RuOk ls l f r
theorem znu{α:Type}{P:α->Prop}{xs:List α}{a:α}(h:∀x∈xs,P x)(ha:P a):∀x∈xs ++ [a],P x:=λx hx=>by
 rcases Q6.mp hx with hx|hx
 .exact h x hx
 .rw[Qn.mp hx];exact ha
def za7(s:Sta)(a:Nat):List Rul->Nat->List Stp1
 | [],_=>[]
 | r::rs,i=>(if(decide (s.rooms.getD a 0=r.p) && zd0 s r.d)=true then[.act a i] else[])++za7 s a rs (i+1)
def zba(s:Sta):List Hnd->Nat->List Stp1
 | [],_=>[]
 | x::xs,a=>za7 s a x.rs 0++zba s xs (a+1)
def zbr(h:Hou)(s:Sta):List Stp1:=zba s h.hands 0
theorem zfx(s:Sta)(a:Nat):∀(rs:List Rul) (i:Nat),(za7 s a rs i).length<=rs.length
 | [],_=>QL _
 | r::rs,i=>by
   have:=zfx s a rs (i+1);rw[za7,Qf,Qj]
   split <;> simp <;> lia
theorem zdy(s:Sta):∀(xs:List Hnd) (a:Nat),(∀x∈xs,x.rs.length<=100)->(zba s xs a).length<=100 * xs.length
 | [],_,_=>QL _
 | x::xs,a,h=>by
   have h1:=zdy s xs (a+1) λy hy=>h y (Qq _ hy);have h2:=zfx s a x.rs 0;have h3:=h x Qw;rw[zba,Qf,Qj];lia
theorem zi0{h:Hou}(hh:HoOk h)(s:Sta):(zbr h s).length<=10000:=by
 have:=zdy s h.hands 0 λx hx=>(hh.rules x hx).1;have:=hh.many;unfold zbr;lia
def zue:List Uu->(R->Prop)->Prop:=λds Q=>∃(h:Hou) (n:Nat) (s:Sta),ds = [za2 h,zak s]/\HoOk h/\StOk h n s/\n<=1000/\Q (.n ((zbr h s).map zaz))
theorem zhk{α:Type}{xs:List α}{j:Nat}{x:α}(h:xs[j]? = some x):xs.drop j=x::xs.drop (j+1):=by
 obtain⟨hj,rfl⟩:=Qk.mp h;exact QX hj
def zw7(l:Nat)(w:List Nat):List Stp1:=(ZN w.length).map λk=>.lose l k
def zau:List (List Nat)->Nat->List Stp1
 | [],_=>[]
 | w::ws,l=>zw7 l w++zau ws (l+1)
theorem zdk{n:Nat}:∀(ws:List (List Nat)) (l:Nat),(∀w∈ws,w.length<=n)->(zau ws l).length<=n * ws.length
 | [],_,_=>QL _
 | w::ws,l,h=>by
   have h1:=zdk ws (l+1) λy hy=>h y (Qq _ hy);have h3:=h w Qw;rw[zau,Qf,Qj,zw7,Qb,ZD,Nat.mul_succ];lia
theorem zj2(t:Stp1):flat (zaz t)=true:=by cases t <;> rfl
theorem zo7(w:List Nat):flat (wD w)=true:=rfl
theorem zfk(s:Sta):flats [.tuple (s.rooms.map nD),.tuple (s.flags.map nD),.tuple (s.words.map wD)]=true:=by
 show(flats _ && (flats _ && (flats _ && true)))=true;rw[zao (λ_=>rfl),zao (λ_=>rfl),zao zo7];rfl
theorem zd7{α:Type}{P:α->Prop}{xs:List α}{i:Nat}{a:α}(h:∀x∈xs,P x)(ha:P a):∀x∈xs.set i a,P x:=λx hx=>by
 rcases List.mem_or_eq_of_mem_set hx with hx|rfl
 .exact h x hx
 .exact ha
theorem zf8{α:Type}{P:α->Prop}{xs:List α}{i:Nat}{z:α}(h:∀x∈xs,P x)(hz:P z):P (xs.getD i z):=by
 by_cases hi:i<xs.length
 .exact h _ (zbj hi)
 .rw[ZF,QV (JU hi)];exact hz
theorem zux{l f n:Nat}{d:Deed}(hl:LowW ls)(h1:∀w∈ws,w.length<=n)(h2:∀w∈ws,LowW w)(hd:DeOk ls l f d):(zgx ws d).length=ws.length/\(∀w∈zgx ws d,w.length<=n+1)/\∀w∈zgx ws d,LowW w:=by
 have g1:∀i,(ws.getD i []).length<=n:=λi=>zf8 (P:=λw:List Nat=>w.length<=n) h1 (QL _);have g2:∀i,LowW (ws.getD i []):=λi=>zf8 (P:=LowW) h2 λc hc=>(Q0 hc).elim;have h1':∀w∈ws,w.length<=n+1:=λw hw=>Y0 (h1 w hw)
 cases d with
 | send i c=>exact⟨QC ..,zd7 (P:=λw:List Nat=>w.length<=n+1) h1' (by rw[Qf,Qz];exact VB (g1 i)),zd7 (P:=LowW) h2 (zpp (g2 i) (zzu hl hd.2))⟩
 | take i c=>exact⟨QC ..,zd7 (P:=λw:List Nat=>w.length<=n+1) h1' (by rw[QO];exact Y0 (Q5 (Nat.sub_le _ _) (g1 i))),zd7 (P:=LowW) h2 (zng (g2 i) 1)⟩
 | _=>exact⟨rfl,h1',h2⟩
theorem zfb{h:Hou}{n:Nat}(hh:HoOk h)(hs:StOk h n s)(ht:SpOk h s t):StOk h (n+1) (zce h s t):=by
 cases t with
 | act a i=>
   have hd:=((hh.rules _ (zbj (z:=(⟨0,[]⟩:Hnd)) ht.1)).2 _ (zbj (z:=(⟨0,.go,0⟩:Rul)) ht.2)).1;show StOk h (n+1) (zfy s a ((h.hands.getD a ⟨0,[]⟩).rs.getD i ⟨0,.go,0⟩));generalize (h.hands.getD a ⟨0,[]⟩).rs.getD i ⟨0,.go,0⟩=r at hd;obtain⟨e1,e2,e3⟩:=zux hh.low hs.short hs.low hd;refine⟨(QC ..).trans hs.rooms,?_,e1.trans hs.words,e2,e3⟩;show(zob s.flags r.d).length=_;rw[<- hs.flags]
   cases r.d with
   | put f v=>exact QC ..
   | _=>rfl
 | lose l p=>
   have g1:(s.words.getD l []).length<=n:=zf8 (P:=λw:List Nat=>w.length<=n) hs.short (QL _);have g2:LowW (s.words.getD l []):=zf8 (P:=LowW) hs.low λc hc=>(Q0 hc).elim;refine⟨hs.rooms,hs.flags,(QC ..).trans hs.words,zd7 (P:=λw:List Nat=>w.length<=n+1) (λw hw=>Y0 (hs.short w hw)) ?_,zd7 (P:=LowW) hs.low (zpp (zvt g2 p) (zng g2 (p+1)))⟩;rw[Qf,QB,QO];lia
theorem zf0{a:Nat}:∀(rs:List Rul) (i:Nat) {t:Stp1},t∈za7 s a rs i->∃k,k<rs.length/\t = .act a (i+k)
 | [],_,_,h=>(Q0 h).elim
 | r::rs,i,t,h=>by
   rw[za7] at h;rcases Q6.mp h with h|h
   .split at h
    .rw[Qn.mp h];exact⟨0,by simp,rfl⟩
    .exact(Q0 h).elim
   .obtain⟨k,hk,rfl⟩:=zf0 rs (i+1) h;exact⟨k+1,by rw[Qj];lia,by congr 1;lia⟩
theorem zeb: ∀(xs:List Hnd) (a:Nat) {t:Stp1},t∈zba s xs a->∃k i,k<xs.length/\i<(xs.getD k ⟨0,[]⟩).rs.length/\t = .act (a+k) i
 | [],_,_,h=>(Q0 h).elim
 | x::xs,a,t,h=>by
   rw[zba] at h;rcases Q6.mp h with h|h
   .obtain⟨k,hk,rfl⟩:=zf0 x.rs 0 h;exact⟨0,k,by simp,hk,by congr 1;lia⟩
   .obtain⟨k,i,hk,hi,rfl⟩:=zeb xs (a+1) h;exact⟨k+1,i,by rw[Qj];lia,hi,by congr 1;lia⟩
theorem zwm{h:Hou}(ht:t∈zbr h s):SpOk h s t:=by
 obtain⟨k,i,hk,hi,rfl⟩:=zeb h.hands 0 ht;rw[ZH];exact⟨hk,hi⟩
theorem ze2:∀(ws:List (List Nat)) (l:Nat) {t:Stp1},t∈zau ws l->∃k p,k<ws.length/\p<(ws.getD k []).length/\t = .lose (l+k) p
 | [],_,_,h=>(Q0 h).elim
 | w::ws,l,t,h=>by
   rw[zau] at h;rcases Q6.mp h with h|h
   .obtain⟨p,hp,rfl⟩:=QS.mp h;exact⟨0,p,by simp,Yj.mp hp,rfl⟩
   .obtain⟨k,i,hk,hi,rfl⟩:=ze2 ws (l+1) h;exact⟨k+1,i,by rw[Qj];lia,hi,by congr 1;lia⟩
theorem z0r{h:Hou}{n:Nat}(hs:StOk h n s)(ht:t∈zau s.words 0):SpOk h s t:=by
 obtain⟨k,p,hk,hp,rfl⟩:=ze2 s.words 0 ht;rw[ZH];exact⟨by rw[<- hs.words];exact hk,hp⟩
theorem zoq{h:Hou}{n:Nat}(hh:HoOk h)(hs:StOk h n s)(hn:n<=1000):(zau s.words 0).length<=100000:=by
 have h1:=zdk s.words 0 λw hw=>Q5 (hs.short w hw) hn;have h2:=hh.lines;have h3:=hs.words;lia
theorem zpv(h:Hou):flat (za2 h)=true:=by
 show(true && (true && (true && (flats (h.hands.map zbz) && true))))=true;rw[zao zhh];rfl
theorem z3b{h:Hou}{n:Nat}(hs:StOk h n s)(ht:t∈zbr h s++zau s.words 0):SpOk h s t:=by
 rcases Q6.mp ht with ht|ht
 .exact zwm ht
 .exact z0r hs ht
theorem StOk.up{h:Hou}{n m:Nat}(hs:StOk h n s)(hm:n<=m):StOk h m s:=⟨hs.rooms,hs.flags,hs.words,λw hw=>Q5 (hs.short w hw) hm,hs.low⟩
def parS(i j:Nat)(g:DA):DS:=λDd ρ=>g ρ λds=>∃d e,ds = [d,e]/\flat d=true/\flat e=true/\Dd.nx ((ρ.set i (some (.im d))).set j (some (.im e)))
theorem z2j{K:Qa}{O:Ob}{i j:Nat}{ta:TA}{g:DA}(h:AD K O ta g):SD K O (tPar i j ta) (parS i j g):=λH₀ A σ H ρ D Dd r q P=>by
 refine h σ H ρ _ _ r.seen q λvs H1 ds s1 is zz=>?_;obtain⟨d,e,ed,f1,f2,q1⟩:=zz;subst ed
 cases is with
 | cons i0 is=>
   cases is with
   | cons i1 is=>
     cases is;refine⟨_,_,rfl,?_⟩;have r1:=(r.stp s1).setIm (i:=i) (Is.flat (TupStay.refl H1) i0 f1);have r2:=r1.setIm (i:=j) (Is.flat (TupStay.refl H1) i1 f2);exact P.nx _ _ H1 _ r2 ((Frm.setIm (i:=i) s1).trans (Frm.setIm (i:=j) (.refl _ _))) q1
theorem zlv{ι κ:Type}{P:Uy}{w:U0}{K:Qa}{mg:Str->Option Ut}{base:Heap}{k:Nat}{X:ι->Cx}{O:κ->Ob}{a b:Expr}{ga:DA}{pos px py pt pt2:Pos}{kt k2:Nat}(n m:Nat){x y:Str}(C:Ctx3 P w K mg base k X)(ha:A3 K X O [a,b] ga)(hnm:n≠m:=by decide)
 (hN:∀i,(X i).N.Nodup:=by intro i;exact Tz (by kernel_rfl)) (hi:∀i,(X i).N[n]? = some x:=by intro i;rfl) (hj:∀i,(X i).N[m]? = some y:=by intro i;rfl) (hx:∀i,(X i).env.scope.names.lookup x=some .local:=by intro i;rfl) (hy:∀i,(X i).env.scope.names.lookup y=some .local:=by intro i;rfl)
 (hw:∀i,UO [.Tuple [.Name x px,.Name y py] kt pt] (.Tuple [a,b] k2 pt2) (X i).env=pure (some [x,y]):=by intro i;rfl) (hs:∀i,UP [.Tuple [.Name x px,.Name y py] kt pt] (.Tuple [a,b] k2 pt2) pos.line (X i).env=pure false:=by intro i;rfl) :
 S3 K X O (.Assign [.Tuple [.Name x px,.Name y py] kt pt] (.Tuple [a,b] k2 pt2) pos) (parS n m ga) :=
 let ⟨_,p,d⟩:=ha
 ⟨_,λi=>znx (C.calm i) (hN i) (hi i) (hj i) hnm (hx i) (hy i) (p i) (hw i) (hs i),λj=>z2j (d j)⟩
theorem zwo{α:Type}{enc:α->Uu}{i h:Nat}{ft:DT}{fe:DE}{ρ:DSt}{Q:List Uu->Prop}{as:List α}{p:α->Bool}{e:α->Uu}
 (step:∀a∈as,∀(Pn:Prop) (Py:R->Prop),(p a=false->Pn)->(p a=true->∀r,r.d=e a->Py r)->ft ((Qv h none++ρ).set i (some (.im (enc a)))) λt=>if t=true then fe ((Qv h none++ρ).set i (some (.im (enc a)))) Py else Pn)
 (hz:as.length<=sizeLine) (q:Q ((as.filter p).map e)):zbg h (gN i) ft fe ρ Q (as.map enc) []:=by
 have key:∀(l:List α) (acc:List Uu),(∀a∈l,a∈as)->acc.length+l.length<=sizeLine->Q (acc++(l.filter p).map e)->zbg h (gN i) ft fe ρ Q (l.map enc) acc:=by
  intro l
  induction l with
  | nil=>intro acc _ _ q;show Q acc;simpa using q
  | cons a l ih=>
    intro acc hs hz q;rw[Qj] at hz;refine step a (hs a Qw) (zbg h (gN i) ft fe ρ Q (l.map enc) acc) (λr=>acc.length<sizeLine/\zbg h (gN i) ft fe ρ Q (l.map enc) (acc ++ [r.d])) (λhp=>?_) (λhp r hr=>⟨by lia,?_⟩)
    .refine ih acc (λb hb=>hs b (Qq _ hb)) (by lia) ?_;rw[Y4,hp] at q;exact q
    .refine ih _ (λb hb=>hs b (Qq _ hb)) (by rw[Qf,Qz];lia) ?_;rw[Y4,hp,T0 rfl,QD] at q;rw[hr,Zy];exact q
 exact key as [] (λ_ h=>h) (by simpa using hz) (by simpa using q)
theorem zcz{neg:Bool}(h:QR x=true):eqF neg (.str x) (.str x)=some (.o (.bool (!neg))):=by
 have:=zyu (neg:=neg) (zmn h (Qm _)) (zmn h (Qm _)) (q:=true) (hq:=⟨λ_=>rfl,λ_=>rfl⟩);rw[this];cases neg <;> rfl
end L3
namespace L3
open PySem PySem.Spec
open PyProof.Rows hiding St
open L2 L6
theorem zj6(w:List Nat)(v:Nat):(tx w).cps.getD v 0=w.getD v 0:=by
 simp[tx,Array.getD,VG]
 split
 .rename_i h
  rw[Qi h];rfl
 .rename_i h
  rw[QV (by lia)];rfl
theorem zmo(n s:Nat)(h:s<=n):fromIndex n (s:Int)=s:=by
 unfold fromIndex
 first|lia|(simp;lia)|(split <;> lia)
def zhi(c:Nat)(more:List Nat)(start:Nat):Int:=match zbw c more start with|none=>-1|some p=>(p:Int)
theorem zz3{more:List Nat}{c start:Nat}(h:start<=more.length):Uo (tx more) (sg c) (start:Int)=zhi c more start:=by
 unfold zhi;have hl:(tx more).length=more.length:=zfn more;rcases StrLaws.find3_spec (tx more) c (start:Int) with ⟨h1,h2⟩|⟨k,h1,h2,h3,h4,h5⟩
 .rw[show sg c=⟨#[c]⟩ from rfl,h1]
  cases hf:zbw c more start with
  | none=>rfl
  | some p=>
    obtain⟨a,b,_⟩:=zew hf;obtain⟨b1,b2⟩:=Qk.mp b;have:=h2 p (by rw[hl,zmo _ _ h];exact a) (by rw[hl];exact b1);rw[zj6,VG,b] at this;exact absurd rfl this
 .rw[show sg c=⟨#[c]⟩ from rfl,h1];rw[hl,zmo _ _ h] at h2 h5;rw[hl] at h3
  have hk:more[k]? = some c:=by
   rw[zj6,VG,Qi h3] at h4;rw[Qi h3];exact congrArg some h4
  cases hf:zbw c more start with
  | none=>exact absurd hk (zkv hf k h2)
  | some p=>
    obtain⟨a,b,d⟩:=zew hf
    have e:k=p:=by
     rcases Nat.lt_trichotomy k p with z|z|z
     .exact absurd hk (d k h2 z)
     .exact z
     .have:=h5 p a z;rw[zj6,VG,b] at this;exact absurd rfl this
    rw[e]
def zow:List Uu->(R->Prop)->Prop:=λds Q=>∃less more:List Nat,ds = [tS less,tS more]/\Sml less/\Sml more/\((plc less more 0 []=none->Q (.o .none))/\∀ps:List Nat,plc less more 0 []=some ps->Q (.n (ps.map λp=>.int (p:Nat))))
def zf3:List Uu->(R->Prop)->Prop:=λds Q=>∃less more:List Nat,ds = [tS less,tS more]/\Sml less/\Sml more/\Q (.o (.bool (under less more)))
abbrev zpy:=zf3
section
variable {ι κ:Type}{P:Uy}{w:U0}{K:Qa}{mg:Str->Option Ut}{base:Heap}{k:Nat}{X:ι->Cx}{O:κ->Ob}{a b:Expr}{fa fb:DE}{pos p:Pos}
def zt7(fa fb fi:DE):DE:=λρ Q=>fa ρ λr0=>fb ρ λr1=>fi ρ λri=>(ri.d = .int 0/\Q r0)\/(ri.d = .int 1/\Q r1)
theorem zz8{O:Ob}{ta tb ti:TE}{fa fb fi:DE}(ha:ED K O ta fa)(hb:ED K O tb fb)(hi:ED K O ti fi):ED K O (tOp (rIx K) (tLst (za1 ta (za1 tb tNil))) ti) (zt7 fa fb fi):=λσ H ρ Q Qd S hf k=>by
 refine ha σ H ρ _ _ S hf λv H1 r0 s1 o1 q1=>?_;refine hb σ H1 ρ _ _ (S.stp s1) q1 λu H2 r1 s2 o2 q2=>?_;have p1:=s1.p S.p;have p2:=s2.p p1;refine⟨by rw[Uz];simp,λl hl=>?_⟩;have s3:Stp O H2 (upd H2 l (.lst [v,u])):=.new S.ok hl _;refine hi σ _ ρ _ _ (((S.stp s1).stp s2).stp s3) q2 λz H4 ri s4 o4 q4=>?_;have iz:=o4.is S.ok (s3.p p2);have m:¬O.M l:=λm=>by obtain⟨o,z⟩:=S.ok.here H2 l p2 m;rw[hl] at z;cases z
 have hl4:H4 l=some (.lst [v,u]):=s4.s l _ zaj m;have st:=((s1.trans s2).trans s3).trans s4;rcases q4 with ⟨e,q⟩|⟨e,q⟩
 .rw[e] at iz;cases iz;refine .inl ⟨_,_,_,v,rfl,rfl,.of hl4,rfl,k v H4 r0 st ?_ q⟩;exact Out.stp S.ok S.p s1 ((s2.trans s3).trans s4) o1
 .rw[e] at iz;cases iz;refine .inl ⟨_,_,_,u,rfl,rfl,.of hl4,rfl,k u H4 r1 st ?_ q⟩;exact(Out.stp S.ok p1 s2 (s3.trans s4) o2).ahead S.ok S.p s1
theorem z3h(C:Ctx3 P w K mg base k X)(ha:E3 K X O a fa)(hb:E3 K X O b fb)(hc:E3 K X O c fc)(hs:zke c:=by intro _ _;rfl)(h1:∀i,Uw [a,b] (X i).env=(false,eval a (X i).env)::Uw [b] (X i).env:=by intro i;rfl)(h2:∀i,Uw [b] (X i).env=(false,eval b (X i).env)::Uw [] (X i).env:=by intro i;rfl):
 E3 K X O (.Subscript (.List [a,b] lp) c pos) (zt7 fa fb fc) :=
 let ⟨_,p1,d1⟩:=ha;let ⟨_,p2,d2⟩:=hb;let ⟨_,p3,d3⟩:=hc
 ⟨tOp (rIx K) _ _,λi=>by have h:=zl0 (pos:=pos) (zit (X:=X i)) (zt4 (pos:=lp) (zaw (p1 i) (zaw (p2 i) zbk (h2 i)) (h1 i))) (p3 i) hs;rw[C.hK] at h;exact h,λj=>zz8 (d1 j) (d2 j) (d3 j)⟩
end
end L3
namespace HK
open PySem PySem.Spec PyProof.Rows
mutual
def hk:Uu->Bool
 | .int _=>true
 | .str _=>true
 | .tuple ds=>hks ds
 | _=>false
def hks:List Uu->Bool
 | []=>true
 | d::ds=>hk d && hks ds
end
mutual
def hD(w:U0):Uu->Int
 | .int i=>hashInt i
 | .str x=>hashStr w x
 | .tuple ds=>reduceHash (Builtin.Tuple.tupleHashOf (hDs w ds))
 | _=>0
def hDs(w:U0):List Uu->List Int
 | []=>[]
 | d::ds=>hD w d::hDs w ds
end
mutual
def bv:Uu->Bool
 | .int _=>true
 | .tuple ds=>bvs ds
 | _=>false
def bvs:List Uu->Bool
 | []=>true
 | d::ds=>bv d && bvs ds
end
mutual
def dr:Uu->Nat
 | .tuple ds=>drs ds+1
 | _=>1
def drs:List Uu->Nat
 | []=>0
 | d::ds=>dr d+drs ds
end
end HK
namespace HK
open PySem PySem.Spec PyProof.Rows PySem.W
mutual
def dlt:Uu->Uu->Bool
 | .int i,.int j=>decide (i<j)
 | .str x,.str y=>decide (x.cps.toList<y.cps.toList)
 | .tuple xs,.tuple ys=>dlts xs ys
 | _,_=>false
def dlts:List Uu->List Uu->Bool
 | [],[]=>false
 | [],_::_=>true
 | _::_,[]=>false
 | x::xs,y::ys=>if QA x y then dlts xs ys else dlt x y
end
inductive Sh where
 | n
 | t
 | arr (s:Sh)
 | fnil
 | fcons (a r:Sh)
def zjr:Sh->Uu->Prop
 | .n,d=>∃i,d = .int i
 | .t,d=>∃x,d = .str x
 | .arr s,d=>∃xs,d = .tuple xs/\∀x∈xs,zjr s x
 | .fnil,d=>d = .tuple []
 | .fcons a r,d=>∃x xs,d = .tuple (x::xs)/\zjr a x/\zjr r (.tuple xs)
theorem zs6:∀{ds:List Uu},(∀d∈ds,hk d=true)->hks ds=true
 | [],_=>rfl
 | d::ds,h=>by rw[hks,h d (by simp),zs6 λe z=>h e (Qq _ z)];rfl
theorem zlu:∀(σ:Sh) (d:Uu),zjr σ d->hk d=true
 | .n,_,⟨_,e⟩=>by subst e;rfl
 | .t,_,⟨_,e⟩=>by subst e;rfl
 | .arr s,_,⟨xs,e,h⟩=>by subst e;rw[hk];exact zs6 λd z=>zlu s d (h d z)
 | .fnil,_,e=>by subst e;rfl
 | .fcons a r,_,⟨x,xs,e,h1,h2⟩=>by
   subst e;have:=zlu r _ h2;rw[hk] at this;rw[hk,hks,zlu a x h1,this];rfl
end HK
namespace L3
open PySem PySem.Spec
open PyProof.Rows hiding St
open L2
section
variable {K:Qa}{O:Ob}
def putS(n:Nat)(fv fi:DE):DS:=λDd ρ=>fv ρ λr=>∃ds:List Uu,ρ[n]? = some (some (.own ds))/\fi ρ λri=>∃k:Nat,ri.d = .int (k:Nat)/\k<ds.length/\flat r.d=true/\Dd.nx (ρ.set n (some (.own (ds.set k r.d))))
theorem zfi{n k:Nat}(h:k<n):ixN n (k:Int)=some k:=by
 unfold ixN;simp;lia
theorem zes: ∀{xs:List V} {ds:List Uu} (k:Nat) {v:V} {d:Uu},IsAll K F H xs ds->Is K F H v d->IsAll K F H (xs.set k v) (ds.set k d)
 | [],_,k,_,_,.nil,_=>.nil
 | _::_,_,0,_,_,.cons _ t,i=>.cons i t
 | _::_,_,k+1,_,_,.cons r t,i=>.cons r (zes k t i)
theorem z1p{n:Nat}(hv:ED K O tv fv)(hi:ED K O ti fi):SD K O (tAsg tv (gSub (tVar n) ti zi4)) (putS n fv fi):=λH₀ A σ H ρ D Dd r q P=>by
 refine hv σ H ρ _ _ r.seen q λw H1 x s1 o1 zz=>?_;obtain⟨ds,e,q1⟩:=zz;have r1:=r.stp s1;obtain⟨v,hv',a,xs,rfl,ha,hl,hs⟩:=r1.at_ n _ e;refine⟨_,hv',?_⟩;refine hi σ H1 ρ _ _ r1.seen q1 λz H2 y s2 o2 zz=>?_;obtain⟨k,ek,hk,fl,q2⟩:=zz;have r2:=r1.stp s2;obtain⟨v2,hv2,a2,xs2,e2,ha2,hl2,hs2⟩:=r2.at_ n _ e;rw[hv'] at hv2;cases hv2;cases e2;have iz:=o2.is r1.ok r1.p;rw[ek] at iz;cases iz;refine⟨a,xs2,k,k,rfl,rfl,hl2,zfi (by rw[hs2.length];exact hk),?_⟩;have iw:Is K (unO O A) H2 w x.d:=Is.flat s2.t (o1.is r.ok r.p) fl;exact P.nx A σ _ _ (r2.change e hv' ha (zes k hs2 iw)) ((Frm.stp (s1.trans s2)).trans (.change ha)) q2
def zwu(n a b:Nat):DS:=λDd ρ=>∃(ds:List Uu) (i j:Nat) (x y:Uu),ρ[n]? = some (some (.own ds))/\ρ[a]? = some (some (.im (.int (i:Nat))))/\ρ[b]? = some (some (.im (.int (j:Nat))))/\ds[i]? = some x/\ds[j]? = some y/\Dd.nx (ρ.set n (some (.own ((ds.set i y).set j x))))
theorem zx6{n a b:Nat}:SD K O (tAsg (tTup (za1 (tOp (rIx K) (tVar n) (tVar b)) (za1 (tOp (rIx K) (tVar n) (tVar a)) tNil))) (gTup K 2 (zey (gSub (tVar n) (tVar a) zi4) (zey (gSub (tVar n) (tVar b) zi4) gNil)))) (zwu n a b):=λH₀ A σ H ρ D Dd r q P=>by
 obtain⟨ds,i,j,x,y,e,ea,eb,hx,hy,q⟩:=q;obtain⟨v,hv,p,xs,rfl,ha,hl,hs⟩:=r.at_ n _ e;obtain⟨va,hva,ia⟩:=r.at_ a _ ea;obtain⟨vb,hvb,ib⟩:=r.at_ b _ eb;cases ia;cases ib;obtain⟨vx,hvx,ix⟩:=hs.get hx;obtain⟨vy,hvy,iy⟩:=hs.get hy;have li:i<xs.length:=(Qk.mp hvx).1;have lj:j<xs.length:=(Qk.mp hvy).1;refine⟨_,hv,_,hvb,.inl ⟨_,_,_,vy,rfl,rfl,.of hl,?_,?_⟩⟩
 .unfold atI;rw[zfi lj];exact hvy
 refine⟨_,hv,_,hva,.inl ⟨_,_,_,vx,rfl,rfl,.of hl,?_,?_⟩⟩
 .unfold atI;rw[zfi li];exact hvx
 refine⟨by rw[Uz];simp,λt ht=>?_⟩;have s1:Stp O H (upd H t (.tup [vy,vx])):=.new r.ok ht _;have r1:=r.stp s1;obtain⟨v1,hv1,p1,xs1,e1,ha1,hl1,hs1⟩:=r1.at_ n _ e;rw[hv] at hv1;cases hv1;cases e1
 have hxs:xs1=xs:=by
  have:=s1.s p _ hl (r.own n p ha).2.2;rw[hl1] at this;cases this;rfl
 subst hxs;refine⟨t,[vy,vx],rfl,.of zaj,rfl,?_⟩;refine⟨vy,[vx],rfl,_,hv,_,hva,p,xs1,i,i,rfl,rfl,hl1,zfi li,?_⟩;have ix1:=Is.stp s1 (λ_ z=>z) (λ_ z=>z.1) ix;have iy1:=Is.stp s1 (λ_ z=>z) (λ_ z=>z.1) iy;refine⟨vx,[],rfl,_,hv,_,hvb,p,xs1.set i vy,j,j,rfl,rfl,zaj,zfi (by rw[QC];exact lj),rfl,?_⟩;have r2:=r1.change e hv ha (zes i hs1 iy1)
 have hn:n<ρ.length:=by
  rcases J5 n ρ.length with z|z
  .exact z
  .rw[QV (by simpa using z)] at e;cases e
 have e2:(ρ.set n (some (.own (ds.set i y))))[n]? = some (some (.own (ds.set i y))):=QE hn;obtain⟨v2,hv2,p2,xs2,e3,ha2,hl2,hs2⟩:=r2.at_ n _ e2;rw[hv] at hv2;cases hv2;cases e3;have ux:(upd (upd H t (.tup [vy,vx])) p (.lst (xs1.set i vy))) p=some (.lst (xs1.set i vy)):=zaj;rw[ux] at hl2;cases hl2
 have ix2:Is K (unO O A) (upd (upd H t (.tup [vy,vx])) p (.lst (xs1.set i vy))) vx x:=by
  have ts:TupStay (upd H t (.tup [vy,vx])) (upd (upd H t (.tup [vy,vx])) p (.lst (xs1.set i vy))):=λb u hu hb=>by
   rw[zae λz=>?_]
   .exact hb
   .rw[z,hl1] at hb;cases hb;obtain⟨us,e1|⟨o',e1⟩⟩:=hu <;> cases e1
  exact ix1.to (λb us f q=>⟨f,by rw[zae (show b≠p from λw=>f.2 n (by rw[w];exact ha))];exact q⟩) λb us q=>SqT.stay (h:=q) ts
 have r3:=r2.change e2 hv ha (zes j hs2 ix2);rw[List.set_set] at r3;exact P.nx A σ _ _ r3 (((Frm.stp s1).trans (.change ha)).trans (.change ha)) q
end
section
variable {ι κ:Type}{P:Uy}{w:U0}{K:Qa}{mg:Str->Option Ut}{base:Heap}{k:Nat}{X:ι->Cx}{O:κ->Ob}{a b:Expr}{fa fb:DE}{pos p:Pos}
theorem zrk(n:Nat)(C:Ctx3 P w K mg base k X)(hv:E3 K X O a fa)(hi:E3 K X O b fb)(hN:∀i,(X i).N[n]? = some x:=by intro i;rfl)(hvx:∀i,Vis (X i).env.scope x:=by intro i;first|exact Or.inl rfl|exact Or.inr (Or.inl rfl)|exact Or.inr (Or.inr rfl))(hd:(x == ("__debug__" : Str))=false:=by decide)(hcd:(x == ("__classdict__" : Str))=false:=by decide)
 (has:∀i v,Ge (.Subscript (.Name x px) b tp) (X i).env v=(do
  let ov <- holding [v] (eval (.Name x px) (X i).env)
  let iv <- holding [v,ov] (eval b (X i).env)
  standAt tp
  holding [v,ov,iv] (Ti ov iv v)
  release [v,ov,iv] []):=by intro _ _;rfl)
 (hs:∀i,UP [.Subscript (.Name x px) b tp] a pos.line (X i).env=pure false:=by intro i;rfl) (hw:∀i,UO [.Subscript (.Name x px) b tp] a (X i).env=pure none:=by intro i;rfl) (h1:∀i,(U3 [.Subscript (.Name x px) b tp] (X i).env).map (·.2) = [Ge (.Subscript (.Name x px) b tp) (X i).env]:=by intro i;rfl) :
 S3 K X O (.Assign [.Subscript (.Name x px) b tp] a pos) (putS n fa fb):=let ⟨_,p1,d1⟩:=hv;let ⟨_,p2,d2⟩:=hi;
 ⟨tAsg _ (gSub (tVar n) _ zi4),λi=>ziv (p1 i) (zn5 (zal (pos:=px) (hN i) (hvx i) hd hcd) (p2 i) zhy (has i)) (hs i) (hw i) (h1 i),λj=>z1p (d1 j) (d2 j)⟩
theorem z2u(n m l:Nat)(C:Ctx3 P w K mg base k X)
 (hN:∀i,(X i).N[n]? = some x:=by intro i;rfl) (hvx:∀i,Vis (X i).env.scope x:=by intro i;first|exact Or.inl rfl|exact Or.inr (Or.inl rfl)|exact Or.inr (Or.inr rfl)) (hd:(x == ("__debug__" : Str))=false:=by decide) (hcd:(x == ("__classdict__" : Str))=false:=by decide)
 (hM:∀i,(X i).N[m]? = some y:=by intro i;rfl) (hvy:∀i,Vis (X i).env.scope y:=by intro i;first|exact Or.inl rfl|exact Or.inr (Or.inl rfl)|exact Or.inr (Or.inr rfl)) (hdy:(y == ("__debug__" : Str))=false:=by decide) (hcdy:(y == ("__classdict__" : Str))=false:=by decide)
 (hL:∀i,(X i).N[l]? = some z:=by intro i;rfl) (hvz:∀i,Vis (X i).env.scope z:=by intro i;first|exact Or.inl rfl|exact Or.inr (Or.inl rfl)|exact Or.inr (Or.inr rfl)) (hdz:(z == ("__debug__" : Str))=false:=by decide) (hcdz:(z == ("__classdict__" : Str))=false:=by decide)
 (hs1:∀i,Uw [.Subscript (.Name x px) (.Name z pz) t1,.Subscript (.Name x px2) (.Name y py) t2] (X i).env=(false,eval (.Subscript (.Name x px) (.Name z pz) t1) (X i).env)::Uw [.Subscript (.Name x px2) (.Name y py) t2] (X i).env:=by intro i;rfl)
 (hs2:∀i,Uw [.Subscript (.Name x px2) (.Name y py) t2] (X i).env=(false,eval (.Subscript (.Name x px2) (.Name y py) t2) (X i).env)::Uw [] (X i).env:=by intro i;rfl)
 (ha1:∀i v,Ge (.Subscript (.Name x px3) (.Name y py2) t3) (X i).env v=(do
  let ov <- holding [v] (eval (.Name x px3) (X i).env)
  let iv <- holding [v,ov] (eval (.Name y py2) (X i).env)
  standAt t3
  holding [v,ov,iv] (Ti ov iv v)
  release [v,ov,iv] []):=by intro _ _;rfl)
 (ha2:∀i v,Ge (.Subscript (.Name x px4) (.Name z pz2) t4) (X i).env v=(do
  let ov <- holding [v] (eval (.Name x px4) (X i).env)
  let iv <- holding [v,ov] (eval (.Name z pz2) (X i).env)
  standAt t4
  holding [v,ov,iv] (Ti ov iv v)
  release [v,ov,iv] []):=by intro _ _;rfl)
 (hg1:∀i,(U3 [.Subscript (.Name x px3) (.Name y py2) t3,.Subscript (.Name x px4) (.Name z pz2) t4] (X i).env).map (·.2)=Ge (.Subscript (.Name x px3) (.Name y py2) t3) (X i).env::(U3 [.Subscript (.Name x px4) (.Name z pz2) t4] (X i).env).map (·.2):=by intro i;rfl)
 (hg2:∀i,(U3 [.Subscript (.Name x px4) (.Name z pz2) t4] (X i).env).map (·.2)=Ge (.Subscript (.Name x px4) (.Name z pz2) t4) (X i).env::(U3 [] (X i).env).map (·.2):=by intro i;rfl)
 (hn2:∀i,(U3 [.Subscript (.Name x px3) (.Name y py2) t3,.Subscript (.Name x px4) (.Name z pz2) t4] (X i).env).length=2:=by intro i;rfl) (hst:∀i,(U3 [.Subscript (.Name x px3) (.Name y py2) t3,.Subscript (.Name x px4) (.Name z pz2) t4] (X i).env).findIdx? (·.1)=none:=by intro i;rfl)
 (hs:∀i,UP [.Tuple [.Subscript (.Name x px3) (.Name y py2) t3,.Subscript (.Name x px4) (.Name z pz2) t4] c1 tt] (.Tuple [.Subscript (.Name x px) (.Name z pz) t1,.Subscript (.Name x px2) (.Name y py) t2] c2 tv) pos.line (X i).env=pure false:=by intro i;rfl)
 (hw:∀i,UO [.Tuple [.Subscript (.Name x px3) (.Name y py2) t3,.Subscript (.Name x px4) (.Name z pz2) t4] c1 tt] (.Tuple [.Subscript (.Name x px) (.Name z pz) t1,.Subscript (.Name x px2) (.Name y py) t2] c2 tv) (X i).env=pure none:=by intro i;rfl)
 (h1:∀i,(U3 [.Tuple [.Subscript (.Name x px3) (.Name y py2) t3,.Subscript (.Name x px4) (.Name z pz2) t4] c1 tt] (X i).env).map (·.2) = [Ge (.Tuple [.Subscript (.Name x px3) (.Name y py2) t3,.Subscript (.Name x px4) (.Name z pz2) t4] c1 tt) (X i).env]:=by intro i;rfl) :
 S3 K X O (.Assign [.Tuple [.Subscript (.Name x px3) (.Name y py2) t3,.Subscript (.Name x px4) (.Name z pz2) t4] c1 tt] (.Tuple [.Subscript (.Name x px) (.Name z pz) t1,.Subscript (.Name x px2) (.Name y py) t2] c2 tv) pos) (zwu n m l) :=
 ⟨_,λi=>by
  have vx:=λq:Pos=>zal (X:=X i) (pos:=q) (hN i) (hvx i) hd hcd;have vy:=λq:Pos=>zal (X:=X i) (pos:=q) (hM i) (hvy i) hdy hcdy;have vz:=λq:Pos=>zal (X:=X i) (pos:=q) (hL i) (hvz i) hdz hcdz;have i1:=zl0 (pos:=t1) (zit (X:=X i)) (vx px) (vz pz) (by intro _ _;rfl);have i2:=zl0 (pos:=t2) (zit (X:=X i)) (vx px2) (vy py) (by intro _ _;rfl);have tg:=zjk (pos:=tt) (k:=c1) (C.calm i) (zge (zn5 (vx px3) (vy py2) zhy (ha1 i)) (zge (zn5 (vx px4) (vz pz2) zhy (ha2 i)) zkl (hg2 i)) (hg1 i)) (hn2 i) (hst i);rw[C.hK] at i1 i2 tg
  exact ziv (zmp (pos:=tv) (x1:=c2) (zaw i1 (zaw i2 zbk (hs2 i)) (hs1 i))) tg (hs i) (hw i) (h1 i),λj=>zx6⟩
end
section
variable {K:Qa}{O:Ob}{H₀ H H1:Hp}{A:Nat->Addr->Prop}{σ:St}{ρ:DSt}
def GRsn(K:Qa)(O:Ob)(t:TGs)(is:List Nat):Prop :=
 ∀(H₀:Hp) (A:Nat->Addr->Prop) (σ:St) (H:Hp) (ρ:DSt) (vs:List V) (ds:List Uu) (Q:St->Hp->Prop) (Qd:DSt->Prop),Rep K O H₀ A H σ ρ->IsAll K (unO O A) H vs ds->gTD is ds ρ Qd ->
   (∀A' σ' ρ',Rep K O H₀ A' H σ' ρ'->Frm O A H A' H->Qd ρ'->Q σ' H)->t vs σ H Q
theorem zv0:GRsn K O gNil []:=λH₀ A σ H ρ vs ds Q Qd r i h k=>by
 cases i with
 | nil=>exact⟨rfl,k A σ ρ r .refl h⟩
 | cons _ _=>exact h.elim
theorem zr9{i:Nat}{is:List Nat}(ht:GRsn K O t is):GRsn K O (zey (za9 i) t) (i::is):=λH₀ A σ H ρ vs ds Q Qd r h q k=>by
 cases h with
 | nil=>exact q.elim
 | cons h1 h2=>
   have f1:Frm O A H (λj a=>j≠i/\A j a) H:=.setIm (.refl _ _);refine⟨_,_,rfl,ht _ _ _ H _ _ _ _ _ (r.setIm h1) (h2.weak λb u=>⟨u.1,λj z=>u.2 j z.2⟩) q λA' σ' ρ' r' f q'=>k A' σ' ρ' r' (f1.trans f) q'⟩
end
def Gsn3{ι:Type}(K:Qa)(X:ι->Cx)(es:List Expr)(is:List Nat):Prop:=∃t,(∀i,PGs (X i) es t)/\∀O:Ob,GRsn K O t is
section
variable {ι κ:Type}{P:Uy}{w:U0}{K:Qa}{mg:Str->Option Ut}{base:Heap}{k:Nat}{X:ι->Cx}{O:κ->Ob}{a b tg:Expr}{fa fb:DE}{pos p:Pos}{g1:DS}
theorem z1o:Gsn3 K X [] []:=⟨_,λi=>zkl,λ_=>zv0⟩
theorem zpr{is:List Nat}(n:Nat)(hr:Gsn3 K X es is)(hN:∀i,(X i).N.Nodup:=by intro i;exact Tz (by kernel_rfl))(hi:∀i,(X i).N[n]? = some x:=by intro i;rfl)(hx:∀i,Loc (X i).env.scope x:=by intro i;first|exact Or.inl rfl|exact Or.inr rfl)
 (hf:∀i,(X i).fn x=true\/(X i).env.scope.names.lookup x=some .local:=by intro i;first|exact .inl rfl|exact .inr rfl) (hs:∀i,(U3 (.Name x pos::es) (X i).env).map (·.2)=Ge (.Name x pos) (X i).env::(U3 es (X i).env).map (·.2):=by intro i;rfl):Gsn3 K X (.Name x pos::es) (n::is) :=
 let ⟨_,p,d1⟩:=hr;⟨_,λi=>zge (zdi (hN i) (hi i) (hx i) (hf i)) (p i) (hs i),λO=>zr9 (d1 O)⟩
end
mutual
def solL:Uu->Bool
 | .none=>true
 | .int _=>true
 | .str _=>true
 | .tuple ds=>zcs ds
 | .list ds=>zcs ds
 | _=>false
def zcs:List Uu->Bool
 | []=>true
 | d::ds=>solL d && zcs ds
end
mutual
theorem zgd:∀d e:Uu,solL d=true->solL e=true->(QA d e=true↔d=e)
 | .none,e,_,h=>by cases e <;> simp[QA,solL] at *
 | .int i,e,_,h=>by cases e <;> simp[QA,solL] at *
 | .str x,e,_,h=>by cases e <;> simp[QA,solL] at *
 | .tuple ds,e,h0,h=>by
   cases e with
   | tuple es=>
     have:=zgv ds es (by simpa[solL] using h0) (by simpa[solL] using h);simp only[QA];rw[this];exact⟨λz=>by rw[z],λz=>by cases z;rfl⟩
   | none=>simp[QA]
   | int _=>simp[QA]
   | str _=>simp[QA]
   | bool _=>simp[solL] at h
   | list _=>simp[QA]
   | dict _=>simp[solL] at h
 | .list ds,e,h0,h=>by
   cases e with
   | list es=>
     have:=zgv ds es (by simpa[solL] using h0) (by simpa[solL] using h);simp only[QA];rw[this];exact⟨λz=>by rw[z],λz=>by cases z;rfl⟩
   | none=>simp[QA]
   | int _=>simp[QA]
   | str _=>simp[QA]
   | bool _=>simp[solL] at h
   | tuple _=>simp[QA]
   | dict _=>simp[solL] at h
 | .bool _,_,h,_=>by simp[solL] at h
 | .dict _,_,h,_=>by simp[solL] at h
theorem zgv:∀ds es:List Uu,zcs ds=true->zcs es=true->(ZK ds es=true↔ds=es)
 | [],[],_,_=>by simp[ZK]
 | [],_::_,_,_=>by simp[ZK]
 | _::_,[],_,_=>by simp[ZK]
 | d::ds,e::es,h,h'=>by
   simp only[zcs,Qu] at h h';simp only[ZK,Qu];rw[zgd d e h.1 h'.1,zgv ds es h.2 h'.2];simp
end
structure Sl(n:Nat)(d:Uu):Prop where
 lay:d.canLay0=true
 dep:d.depth<=n
 sol:solL d=true
theorem zc4(i:Int):Sl 0 (.int i):=⟨rfl,Qm _,rfl⟩
theorem zjs(h:QR x=true):Sl 0 (.str x):=⟨h,Qm _,rfl⟩
theorem zku{α:Type}{f:α->Uu}:∀{l:List α},(∀a∈l,solL (f a)=true)->zcs (l.map f)=true
 | [],_=>rfl
 | a::l,h=>by rw[QD,zcs,h a Qw,zku λx hx=>h x (Qq _ hx)];rfl
theorem zmb{α:Type}{f:α->Uu}{l:List α}{n:Nat}(h:∀a∈l,Sl n (f a)):Sl (n+1) (.tuple (l.map f)):=by
 refine⟨zgj λa ha=>(h a ha).lay,?_,?_⟩
 .rw[J7];have:=zgo (f:=f) (n:=n) (l:=l) λa ha=>(h a ha).dep;lia
 .rw[solL];exact zku λa ha=>(h a ha).sol
theorem Sl.list{n:Nat}(h:Sl n (.tuple ds)):Sl n (.list ds):=by
 obtain⟨a,b,c⟩:=h;exact⟨by simpa[ZE] using a,by simpa[J7] using b,by simpa[solL] using c⟩
theorem zfs(n:Nat):Sl (n+1) (.tuple []):=⟨rfl,by simp[J7,JH],rfl⟩
theorem zbs{n:Nat}{d:Uu}(h:Sl n d)(h':Sl (n+1) (.tuple ds)):Sl (n+1) (.tuple (d::ds)):=by
 obtain⟨a1,a2,a3⟩:=h;obtain⟨b1,b2,b3⟩:=h';simp only[ZE,J7,solL] at b1 b2 b3;refine⟨?_,?_,?_⟩
 .simp only[ZE,Zx,a1,b1];rfl
 .simp only[J7,JH];lia
 .simp only[solL,zcs,a3,b3];rfl
theorem Sl.okD{n:Nat}{d:Uu}(h:Sl n d)(hn:n<=60:=by decide):L3.okD d=true:=by
 unfold L3.okD;rw[h.lay];have:=h.dep;simp;lia
theorem zxl{n n':Nat}{neg:Bool}{d:Uu}(h:Sl n d)(h':Sl n' e)(hn:n<=60:=by decide){q:Bool}(hq:q=true↔d=e):eqF neg d e=some (.o (.bool (if neg then !q else q))):=by
 unfold eqF;rw[T0 (by rw[h.okD hn,h'.lay];rfl)]
 have e1:QA d e=q:=by
  have:=(zgd d e h.sol h'.sol).trans hq.symm;cases h1:QA d e <;> cases q <;> simp_all
 rw[e1]
theorem zlf:∀{l:List Uu},zcs l=true->∀y∈l,solL y=true
 | [],_,y,hy=>(Q0 hy).elim
 | a::l,hl,y,hy=>by
   simp only[zcs,Qu] at hl;rcases Q3.mp hy with z|z
   .rw[z];exact hl.1
   .exact zlf hl.2 y z
theorem z3w{n:Nat}{d:Uu}(h:Sl n d)(hs:zcs es=true){q:Bool}(hq:q=true↔d∈es):(es.any λy=>QA y d)=q:=by
 have:(es.any λy=>QA y d)=true↔q=true:=by
  rw[hq,List.any_eq_true];constructor
  .rintro⟨y,hy,e⟩;rw[<- (zgd y d (zlf hs y hy) h.sol).mp e];exact hy
  .intro hd;exact⟨d,hd,(zgd d d h.sol h.sol).mpr rfl⟩
 exact ZP.mpr this
theorem z5i{n n':Nat}{neg:Bool}{d:Uu}(h:Sl n d)(h':Sl n' (.tuple es))(hn:n<=60:=by decide){q:Bool}(hq:q=true↔d∈es):inF neg d (.list es)=some (.o (.bool (if neg then !q else q))):=by
 have e1:=z3w h (by simpa[solL] using h'.sol) hq;have l1:Zx es=true:=by simpa[ZE] using h'.lay
 have e2:inF neg d (.list es)=if(L3.okD d && Zx es)=true then some (.o (.bool (if neg then !es.any (λy=>QA y d) else es.any λy=>QA y d))) else none:=by
  cases d <;> rfl
 rw[e2,T0 (by rw[h.okD hn,l1];rfl),e1]
section
variable {ι κ:Type}{P:Uy}{w:U0}{K:Qa}{mg:Str->Option Ut}{base:Heap}{k:Nat}{X:ι->Cx}{O:κ->Ob}{a b c:Expr}{fa fb fc:DE}{pos p:Pos}
theorem z6d(ha:E3 K X O a fa)(hb:E3 K X O b fb)(hc:E3 K X O c fc)(hm:GY [.LtE,.Lt] [b,c]=false:=by with_unfolding_all rfl):E3 K X O (.Compare a [.LtE,.Lt] [b,c] pos) (chD (fn2 (intF λi j=>.bool (decide (i<=j)))) (fn2 (intF λi j=>.bool (decide (i<j)))) fa fb fc) :=
 zx9 (λi=>zws) (λi=>zqm) (λ_=>zud) (λ_=>zmy) ha hb hc hm
end
def zqj:Option DV->Bool
 | some (.own _)=>true
 | some (.dct _)=>true
 | some (.gen _ _)=>true
 | some (.thg _)=>true
 | _=>false
theorem zrw(h:∀o∈ρ,zqj o=false):zlx ρ:=by
 refine⟨λi ds e=>?_,λi ks e=>?_,λi f ds e=>?_,λi T e=>?_⟩ <;>
 .have:=h _ (Zm e);cases this
def NoA:DSt->Prop
 | []=>True
 | o::r=>zqj o=false/\NoA r
theorem zvs:∀{ρ:DSt},NoA ρ->zlx ρ:=λ{ρ} h=>zrw (by
 have go:∀l:DSt,NoA l->∀o∈l,zqj o=false:=by
  intro l
  induction l with
  | nil=>intro _ o ho;exact(Q0 ho).elim
  | cons a l ih=>
    intro hl o ho;rcases Q3.mp ho with rfl|ho
    .exact hl.1
    .exact ih hl.2 o ho
 exact go ρ h)
def zsh:List Uu->(R->Prop)->Prop:=λds Q=>∃i n:Int,ds = [.int i,.int n]/\Q (.o (.bool (decide (0<=i) && decide (i<n))))
theorem zxq(t:Stp1):Sl 1 (zaz t):=by
 cases t with
 | act a i=>exact zbs (zjs (by decide +kernel)) (zbs (zc4 _) (zbs (zc4 _) (zfs 0)))
 | lose a i=>exact zbs (zjs (by decide +kernel)) (zbs (zc4 _) (zbs (zc4 _) (zfs 0)))
def May(h:Hou)(s:Sta)(t:Stp1):Prop:=t∈zbr h s++zau s.words 0
def zc9(h:Hou):Sta->List Stp1->Prop
 | _,[]=>True
 | s,t::ts=>May h s t/\zc9 h (zce h s t) ts
def zbd(h:Hou):Sta->List Stp1->List Sta
 | _,[]=>[]
 | s,t::ts=>zce h s t::zbd h (zce h s t) ts
def endS(h:Hou):Sta->List Stp1->Sta
 | s,[]=>s
 | s,t::ts=>endS h (zce h s t) ts
theorem zh2(h:Hou):∀(r:List Stp1) (s:Sta),(zbd h s r).length=r.length
 | [],_=>rfl
 | t::r,s=>by rw[zbd,Qj,zh2 h r,Qj]
theorem zne(h:Hou):∀(r:List Stp1) (s:Sta) (q:List Stp1),zbd h s (r++q)=zbd h s r++zbd h (endS h s r) q
 | [],_,_=>rfl
 | t::r,s,q=>by rw[ZT,zbd,zne h r,zbd,ZT,endS]
theorem zps(h:Hou):∀(r:List Stp1) (s:Sta) (q:List Stp1),zc9 h s (r++q)↔zc9 h s r/\zc9 h (endS h s r) q
 | [],_,_=>by simp[zc9,endS]
 | t::r,s,q=>by rw[ZT,zc9,zps h r,zc9,endS,and_assoc]
theorem zfo{h:Hou}{n:Nat}(hs:StOk h n s)(ht:May h s t):SpOk h s t:=z3b hs ht
theorem zpj{h:Hou}(hh:HoOk h):∀(r:List Stp1) {n:Nat} {s:Sta},StOk h n s->zc9 h s r->∀x∈zbd h s r,StOk h (n+r.length) x
 | [],_,_,_,_,x,hx=>(Q0 hx).elim
 | t::r,n,s,hs,hr,x,hx=>by
   have h1:=zfb hh hs (zfo hs hr.1);rw[Qj];rcases Q3.mp hx with rfl|hx
   .exact h1.up (by lia)
   .exact(zpj hh r h1 hr.2 x hx).up (by lia)
theorem znw{h:Hou}(hh:HoOk h):∀(r:List Stp1) {n:Nat} {s:Sta},StOk h n s->zc9 h s r->StOk h (n+r.length) (endS h s r)
 | [],_,_,hs,_=>hs
 | t::r,n,s,hs,hr=>by
   have h1:=zfb hh hs (zfo hs hr.1);rw[Qj,show n+(r.length+1)=n+1+r.length by lia];exact znw hh r h1 hr.2
def zl1:Stp1->Bool
 | .act _ _=>true
 | .lose _ _=>false
theorem zeu{α:Type}{f:α->Uu}{us:List α}{u:α}:idxF (.list ((us ++ [u]).map f)) (.int (-1))=some (.o (f u)):=by
 have hix:ixN (us.length+1) (-1)=some us.length:=by
  unfold ixN;simp;lia
 show(atI _ _).map R.o=_;unfold atI;rw[Qb,Qf,Qz,hix];simp
theorem zm6{α:Type}{f:α->Uu}(xs:List α)(c:Nat):slcF none (some (c:Int)) (.tuple (xs.map f))=some (.o (.tuple ((xs.take c).map f))):=by
 rw[sl_tup,zdq,Ve]
theorem zni{α:Type}{f:α->Uu}(xs:List α)(c:Nat):slcF (some (c:Int)) none (.tuple (xs.map f))=some (.o (.tuple ((xs.drop c).map f))):=by
 rw[sl_tup,zcx,Vf]
end L3
namespace L3
open PySem PySem.Spec PySem.Calls
open PyProof.Rows hiding St
open L2
structure XGet(K:Qa)(C:Addr):Prop where
 ga:QY K (.ref C) "__getattribute__" = some (some (.builtin "BaseException.__getattribute__"))
 gn:QY K (.ref C) "__getattr__" = some none
 base:QG K C (.type "BaseException")=some true
 obj:QG K C (.type "object")=some true
 dict:V2 K C=true
 cls:QY K (.ref C) "__class__" = some (some (.builtin "object.__class__"))
 cget:V3 K (.builtin "object.__class__") "__get__" = some (some (.builtin "getset_descriptor.__get__"))
 ctk:VR K (.builtin "object.__class__")=some true
section
variable {prog:Uy}{w:U0}{A:U9}{E:Ut->Ux->Prop}{K:Qa}{C x:Addr}{s:Ux}{f:Str}{v:Ut}{ox od:Obj}{Q:Ut->Ux->Prop}{fill expr:Bool}{tk:Tok}
theorem zpd(X:K.In s.heap)(c:XGet K C)(I:JS s.heap x ox C (some od))
 (h:wpAny (model prog w) A.in1 (Builtin.«object.__getattribute__» ⟨[.ref x,.str f tk],[]⟩) (λfin s'=>match fin with | .done (.ret v)=>wpAny (model prog w) A (handedOut v) Q E s'|_=>False) (λ_ _=>False) s) :
 wpAny (model prog w) A (getAttrBy (.ref x) (.str f tk) fill expr) Q E s:=by
 have FB:=PySem.F.attr_ValueError;have b0:=FB.ga.bind (.ref x);have L0:=I.type (M:=model prog w);have L1:=Jd (M:=model prog w) X c.ga;have L2:=Jd (M:=model prog w) X c.gn;have sb:ZB (model prog w) s.heap (isInstance (.ref x) (.type "BaseException")) true:=L0.andThen (Jh X c.base);unfold getAttrBy;refine UA (Us (L0.here (Us (L1.here ?_))));dsimp only;rw[TB (by rw[Qu];rintro⟨_,z⟩;revert z;decide +kernel)];unfold getAttrByItsOwn hookBefore;rw[T0 (show onTheHeap (Q9 C)=true from rfl)];refine Us (L2.here (Us (Gk (UA ?_))));unfold callGetattribute;rw[TB (by cases expr <;> decide)];unfold boundAndCalled;rw[b0];refine Us (Uv ?_);refine Gs (GV FB.ga.plain PySem.F.entry_bexc_ga (@Vm (model prog w) _ _ s "BaseException.__getattribute__" "BaseException" "__getattribute__" (.ref x) [.str f tk] [] _ (by decide +kernel) (by decide +kernel) sb (PySem.F.args_bexc_ga (.ref x) (.str f tk)) (U2 h (λfin s' z=>?_) λ_ _ z=>z.elim)));rcases fin with (_|_|_|u)|c'
 .exact z.elim
 .exact z.elim
 .exact z.elim
 .exact z
 .exact z.elim
theorem z5c(X:K.In s.heap)(c:XGet K C)(I:JS s.heap x ox C (some od))(no:QY K (.ref C) f=some none)(hl:Ym f od=some (some v))(hv:VH v=true)(h:Q v { s with toks:=s.toks+1 }):
 wpAny (model prog w) A (getAttr (.ref x) f expr) Q E s:=by
 unfold getAttr;refine Us (Tj (zpd (s:={ s with toks:=s.toks+1 }) X c I ?_));have hf:=PySem.W.findObj_own c.dict no rfl hl;have L0:=I.type (M:=model prog w);have L1:=Vp (M:=model prog w) X I hf;unfold Builtin.«object.__getattribute__»;refine Us (Uv (Us (Uv (Us (Z8 (s:={ s with toks:=s.toks+1 }) L0 (Us (Z8 (s:={ s with toks:=s.toks+1 }) L1 ?_)))))));refine Uv ?_;show wpAny _ _ (handedOut v) _ _ _;rw[PySem.W.handedOut_of hv];exact Uv h
theorem z0y{Q:Option Ut->Ux->Prop}(X:K.In s.heap)(c:XGet K C)(I:JS s.heap x ox C (some od))(h:Q (some (.ref C)) { s with toks:=s.toks+1 }):wpAny (model prog w) A (getAttr? (.ref x) "__class__") Q E s:=by
 unfold getAttr? getAttrBy?;refine Us (Tj (Us (Gk (zpd (s:={ s with toks:=s.toks+1 }) X c I ?_))));have hf:PySem.W.findObj K C (some od) "__class__" = some (.bind (.builtin "getset_descriptor.__get__") (.builtin "object.__class__")):=PySem.W.findObj_data (by obtain⟨cd,hc,_⟩:=VI c.dict;rw[hc];rfl) c.cls c.cget c.ctk;have L0:=I.type (M:=model prog w);have L1:=Vp (M:=model prog w) X I hf;unfold Builtin.«object.__getattribute__»;refine Us (Uv (Us (Uv (Us (Z8 (s:={ s with toks:=s.toks+1 }) L0 (Us (Z8 (s:={ s with toks:=s.toks+1 }) L1 ?_)))))));show wpAny _ _ (Yw _ _ _ _) _ _ _;unfold Yw;refine Us (UA (Gs (PySem.W.class_get (s:={ s with toks:=s.toks+1 }) X I c.obj ?_)));refine Uv ?_;show wpAny _ _ (handedOut (.ref C)) _ _ _;exact Uv (Uv h)
end
theorem zst{K:Qa}{x C:Addr}{ox od:Obj}(c:XGet K C):PySem.W.KitX K (.ref x) (.ref C) (λh=>JS h x ox C (some od)):=by
 obtain⟨cd,hc,_⟩:=VI c.dict
 have hl:∃oc dd sl,K.lookup C=some ⟨oc,dd,.cls cd,sl⟩:=by
  unfold JD at hc
  split at hc
  .rename_i oc dd cd' sl ho
   cases hc;exact⟨oc,dd,sl,ho⟩
  .cases hc
 obtain⟨oc,dd,sl,hl⟩:=hl;refine⟨λ_ _ _ I=>I.type,λM h X _=>?_,λh tp dd' its n sl' X htp=>?_,λX I k=>z0y X c I k⟩
 .intro A1 Q1 E1 s1 k1 z1;exact Us (G7 (k1 _ _ (X _ _ hl)) (Uv z1))
 .refine Bool.eq_false_iff.mpr λq=>?_;have e:C=tp:=Ul (beq_iff_eq.mp q);rw[<- e,X _ _ hl] at htp;cases htp
section
variable {X:Cx}{pins:List (Addr×Obj)}{σ:St}{H:Hp}{s:Ux}
theorem zrq{fs:List (Str×V)}(I:Inv X pins σ H s)(ha:H a=some (XR a C dx))(hd:H dx=some (.xd fs)):
 ∃ox od,JS s.heap a ox C (some od)/\∀f,∃u,Ym f od=some u/\RelO (fs.lookup f) u:=by
 obtain⟨o,vs,g,c,d,t,_⟩:=(I.hok a _ ha).1;obtain⟨mA,m,rl⟩:=I.hok dx _ hd;obtain⟨od,ho,hl⟩:=zt2 m;refine⟨o,od,⟨g,c,by unfold PySem.W.notCls;rw[t],by rw[d];exact ho⟩,λf=>⟨_,hl f,rl f⟩⟩
def zry:V->Prop
 | .int _=>True
 | .str _=>True
 | _=>False
def zw2(K:Qa)(f:Str)(te:TE):TE:=λσ H Q=>te σ H λv H1=>∃a C dx fs y,v = .ref a/\H1 a=some (XR a C dx)/\H1 dx=some (.xd fs)/\XGet K C/\QY K (.ref C) f=some none/\fs.lookup f=some y/\zry y/\Q y H1
theorem zz0(he:PE X e te)(hb:UJ e f X.env (eval e X.env)=eval e X.env):PE X (.Attribute e f pos) (zw2 X.K f te):=by
 intro pins s σ H Q I h;refine zzj hb (thn (he pins s σ H _ I h) λu s1 zz=>?_);obtain⟨v,H1,I1,rv,a,C,dx,fs,y,ev,ha,hd,c,no,hl,py,q⟩:=zz;subst ev;obtain rfl:u=Q9 a:=rv;obtain⟨ox,od,J,lk⟩:=zrq I1 ha hd;obtain⟨u,l1,l2⟩:=lk f;rw[hl] at l2
 cases u with
 | none=>exact l2.elim
 | some u=>
   have hv:VH u=true:=by
    cases y with
    | int i=>obtain⟨t,rfl⟩:=(show ∃t,u=V6 i t from l2);rfl
    | str x=>obtain⟨t,rfl⟩:=(show ∃t,u=V7 x t from l2);rfl
    | _=>exact py.elim
   exact z5c I1.kIn c J no l1 hv ⟨y,H1,I1.tok _,l2,q⟩
def Ldc(X:Cx)(x:Str)(cv:Ut):Prop:=∀(E:Ut->Ux->Prop) (pins:List (Addr×Obj)) (s:Ux) (σ:St) (H:Hp) (pos:Pos) (Q:Ut->Ux->Prop),Inv X pins σ H s->Q cv s->wpAny (model X.prog X.w) X.A (eval (.Name x pos) X.env) Q E s
theorem zy4(hg:Gl X x)(hm:X.mg x=some cv)(hd:(x == ("__debug__" : Str))=false:=by decide):Ldc X x cv:=λE pins s σ H pos Q I q=>zcn I hg hm q hd
theorem z0k(hg:Gl X x)(hm:X.mg x=none)(hv:U5 x=some cv)(hn:x ≠ "__name__" := by decide)(hd:(x == ("__debug__" : Str))=false:=by decide):Ldc X x cv:=λE pins s σ H pos Q I q=>zcp I hg hm hv q hn hd
def tIsX(K:Qa)(cv:Ut)(te:TE):TE:=λσ H Q=>te σ H λv H1=>∃a C dx fs b,v = .ref a/\H1 a=some (XR a C dx)/\H1 dx=some (.xd fs)/\XGet K C/\Zs K (.ref C) cv=some b/\Q (.bl b) H1
theorem ztw(gi:Gl X "isinstance")(mi:X.mg "isinstance" = none)(l:Ldc X x cv)(he:PE X e te)
 (s1:Uw [e,.Name x p2] X.env=(false,eval e X.env)::(false,eval (.Name x p2) X.env)::Uw [] X.env:=by rfl) (s2:Uw [e,.Name x p2] X.env=(false,eval e X.env)::Uw [.Name x p2] X.env:=by rfl) (s3:(UD p3 (Uw [.Name x p2] X.env)).any (·.1)=false:=by rfl) :
 PE X (.Call (.Name "isinstance" p1) [e,.Name x p2] [] p3) (tIsX X.K cv te):=by
 intro pins s σ H Q I h;refine U4 (zcp I gi mi (u:=.builtin "isinstance") (by decide +kernel) ?_);refine Jj ?_ s2 s3;rw[s1];show wpAny _ _ (GG ((false,eval e X.env)::(false,eval (.Name x p2) X.env) :: [])) _ _ s;refine Z7 (thn (he pins s σ H _ I h) λu s' zz=>?_);obtain⟨y,H1,I1,r1,a,C,dx,fs,b,ev,ha,hd,c,ek,q⟩:=zz;subst ev;obtain rfl:u=Q9 a:=r1;refine Z7 (l _ _ _ _ _ _ _ I1 (Jc ?_));obtain⟨ox,od,J,lk⟩:=zrq I1 ha hd;exact PySem.W.kia_one (zst c) I1.kIn J ek (λz=>nomatch z) λtk=>⟨.bl b,H1,I1.tok _,rfl,q⟩
def zxr(K:Qa)(te tt:TE):TE:=λσ H Q=>te σ H λv H1=>tt σ H1 λv2 H2=>∃(a C dx:Addr) (fs:List (Str×V)) (b:Bool) (p:Addr) (cs:List Addr),v = .ref a/\v2 = .ref p/\SqT K H2 p (cs.map V.ref)/\H2 a=some (XR a C dx)/\H2 dx=some (.xd fs)/\XGet K C/\Yv K (.ref C) (cs.map Q9)=some b/\Q (.bl b) H2
theorem zjp:∀{cs:List Addr} {us:List Ut},Vals (cs.map V.ref) us->us=cs.map Q9
 | [],_,h=>by cases h;rfl
 | c::cs,_,h=>by
   cases h with
   | cons h1 h2=>rw[zjp h2];cases h1;rfl
theorem zx5(gi:Gl X "isinstance")(mi:X.mg "isinstance" = none)(he:PE X e te)(ht:PE X e2 tt)
 (s1:Uw [e,e2] X.env=(false,eval e X.env)::(false,eval e2 X.env)::Uw [] X.env:=by rfl) (s2:Uw [e,e2] X.env=(false,eval e X.env)::Uw [e2] X.env:=by rfl) (s3:(UD p3 (Uw [e2] X.env)).any (·.1)=false:=by rfl) :
 PE X (.Call (.Name "isinstance" p1) [e,e2] [] p3) (zxr X.K te tt):=by
 intro pins s σ H Q I h;refine U4 (zcp I gi mi (u:=.builtin "isinstance") (by decide +kernel) ?_);refine Jj ?_ s2 s3;rw[s1];show wpAny _ _ (GG ((false,eval e X.env)::(false,eval e2 X.env) :: [])) _ _ s;refine Z7 (thn (he pins s σ H _ I h) λu s' zz=>?_);obtain⟨y,H1,I1,r1,q1⟩:=zz;refine Z7 (thn (ht pins s' σ H1 _ I1 q1) λu2 s2 ⟨y2,H2,I2,r2,a,C,dx,fs,b,p,cs,ev,ev2,sq,ha,hd,c,ek,q⟩=>Jc ?_);subst ev ev2;obtain rfl:u=Q9 a:=r1;obtain rfl:u2=Q9 p:=r2;obtain⟨ox,od,J,lk⟩:=zrq I2 ha hd;obtain⟨its,rv,⟨o,h1,h2,n,h3⟩,_⟩:=I2.tuple sq;obtain rfl:=zjp rv;obtain⟨oc,oo,od2,osl⟩:=o;cases h2;cases h3;exact PySem.W.kia_tup (zst c) I2.kIn J h1 ek (λz=>nomatch z) λtk=>⟨.bl b,H2,I2.tok _,rfl,q⟩
theorem z4b(hg:Gl X x)(hm:X.mg x=some (.ref C))(hd:(x == ("__debug__" : Str))=false:=by decide):PE X (.Name x pos) (tC (.ref C)):=λpins s σ H Q I h=>zcn I hg hm ⟨.ref C,H,I,rfl,h⟩ hd
end
def excD(c:Str)(ns:List Str)(ds:List Uu):Uu:=.dict [(.str c,.tuple (ns.map .str)),(.none,.tuple ds)]
theorem zn1(h:excD c ns ds=excD c' ns' ds'):c=c'/\ns=ns'/\ds=ds':=by
 unfold excD at h;simp only[PyData.dict.injEq,VS,Prod.mk.injEq,PyData.str.injEq,Vq,and_true,true_and] at h;obtain⟨⟨h1,h2⟩,h3⟩:=h;refine⟨h1,?_,h3⟩
 have key:∀(l m:List Str),l.map Uc=m.map Uc->l=m:=by
  intro l
  induction l with
  | nil=>intro m e;cases m with|nil=>rfl|cons _ _=>cases e
  | cons a l ih=>intro m e;cases m with|nil=>cases e|cons b m=>rw[QD,QD] at e;injection e with e1 e2;cases e1;rw[ih m e2]
 exact key ns ns' h2
def XOut(K:Qa)(mg:Str->Option Ut)(O:Ob)(H H':Hp)(C dx:Addr)(d:Uu):Prop:=∃(c:Str) (ns:List Str) (xs:List V) (ds:List Uu),d=excD c ns ds/\mg c=some (.ref C)/\H dx=none/\H' dx=some (.xd (ns.zip xs))/\xs.length=ns.length/\IsAll K (unM O) H' xs ds
def zq8(K:Qa)(mg:Str->Option Ut)(O:Ob)(H₀:Hp)(E:XK)(Qr:R->Prop):Prop:=∀H' C dx d,Stp O H₀ H'->XOut K mg O H₀ H' C dx d->Qr (.o d)->E (.ref C) (some dx) H'
def SDx(K:Qa)(mg:Str->Option Ut)(O:Ob)(E:XK)(t:TS)(g:DS):Prop :=
 ∀(H₀:Hp) (A:Nat->Addr->Prop) (σ:St) (H:Hp) (ρ:DSt) (D:Ends) (Dd:DEnds),Rep K O H₀ A H σ ρ->g Dd ρ->Post K O H₀ A H D Dd->zq8 K mg O H₀ E Dd.rt->t D σ H
section
variable {K:Qa}{mg:Str->Option Ut}{O:Ob}{E:XK}
theorem XOut.ahead{d:Uu}(ok:O.Ok)(p:O.P H)(s:Stp O H H1)(h:XOut K mg O H1 H2 C dx d):XOut K mg O H H2 C dx d:=by
 obtain⟨c,ns,xs,ds,e,m,n,q,l,i⟩:=h;have nm:¬O.M dx:=λz=>by obtain⟨o,w⟩:=ok.here H1 dx (s.p p) z;rw[n] at w;cases w
 exact⟨c,ns,xs,ds,e,m,s.s.free nm n,q,l,i⟩
theorem zru(h:SD K O t g):SDx K mg O E t g:=λH₀ A σ H ρ D Dd r q P _=>h H₀ A σ H ρ D Dd r q P
theorem z0u(h:SDx K mg O E t g)(h':SDx K mg O E u k):SDx K mg O E (tSeq t u) (seqD g k):=λH₀ A σ H ρ D Dd r q P XP=>
 h H₀ A σ H ρ _ _ r q ⟨λA' σ' H' ρ' r' f q'=>h' H₀ A' σ' H' ρ' D Dd r' q' (P.frm f) XP,P.bk,P.ct,P.rt⟩ XP
theorem z1g(hc:TD K O c fc)(h:SDx K mg O E t g)(h':SDx K mg O E u k):SDx K mg O E (tIfS c t u) (ifS fc g k):=λH₀ A σ H ρ D Dd r q P XP=>by
 refine hc σ H ρ _ _ r.seen q λb H1 s1 q1=>?_
 cases b with
 | true=>exact h H₀ A σ H1 ρ D Dd (r.stp s1) q1 (P.frm (.stp s1)) XP
 | false=>exact h' H₀ A σ H1 ρ D Dd (r.stp s1) q1 (P.frm (.stp s1)) XP
theorem zzt(hs:SrcR K O wi f)(hg:GR K O tg g)(hb:SDx K mg O E tb gb):SDx K mg O E (tFor wi tg tb) (forS f g gb):=λH₀ A σ H ρ D Dd r q P XP=>by
 refine hs H₀ A σ H ρ _ _ r q λJ H1 ds B W uB go=>?_;have r1:=r.stp W.st;have f1:Frm O A H A H1:=.stp W.st;refine⟨λi m σ2 H2=>m=ds.length-i/\i<=ds.length/\∃A2 ρ2,Rep K O H₀ A2 H2 σ2 ρ2/\Frm O A H1 A2 H2/\zd4 g gb Dd (ds.drop i) ρ2,⟨ds.length,rfl,QL _,A,ρ,r1,.refl,by simpa using go⟩,?_⟩;rintro i m σ2 H2 ⟨rfl,hi,A2,ρ2,r2,f2,go2⟩;have kB:∀a o,B a->H1 a=some o->H2 a=some o:=λa o b e=>(f2 a o e (uB a b)).1;have ts:TupStay H1 H2:=r1.tupStay f2
 by_cases hlt:i<ds.length
 .right;have hd:ds[i]? = some ds[i]:=Qi hlt;rw[QX hlt] at go2;obtain⟨fl,go2⟩:=go2;obtain⟨hgo,hy⟩:=W.item H2 i ds[i] kB ts hd (.inl fl);refine⟨hgo,λσ' H'=>∃A' ρ',Rep K O H₀ A' H' σ' ρ'/\Frm O A H1 A' H'/\zd4 g gb Dd (ds.drop (i+1)) ρ',λσ' H' ⟨A',ρ',x1,x2,x3⟩=>⟨ds.length-(i+1),by lia,rfl,hlt,A',ρ',x1,x2,x3⟩,λx H3 y=>?_⟩;obtain⟨sm,ix⟩:=hy x H3 y;have st3:Stp O H2 H3:=.same r2.ok sm;have r3:=r2.stp st3;refine hg H₀ A2 σ2 H3 ρ2 x ds[i] _ _ r3 fl (Is.flat (TupStay.refl H3) ix fl) go2 λA3 σ3 ρ3 r3' f3 q3=>?_;have f13:Frm O A H1 A3 H3:=(f2.trans (.stp st3)).trans f3;exact hb H₀ A3 σ3 H3 ρ3 _ _ r3' q3 ⟨λA' σ' H' ρ' r' f' q'=>⟨A',ρ',r',f13.trans f',q'⟩,λA' σ' H' ρ' r' f' q'=>P.nx A' σ' H' ρ' r' (f1.trans (f13.trans f')) q',λA' σ' H' ρ' r' f' q'=>⟨A',ρ',r',f13.trans f',q'⟩,P.rt⟩ XP
 .left;have e:i=ds.length:=by lia
  subst e;rw[ZR] at go2;exact⟨W.stop H2 _ kB ts (Qm _),P.nx A2 σ2 H2 ρ2 r2 (f1.trans f2) go2⟩
def zms(c:Str)(ns:List Str)(f:DA):DS:=λDd ρ=>f ρ λds=>ds.length=ns.length/\Dd.rt (.o (excD c ns ds))
theorem zsg(hm:mg c=some (.ref C))(h:AD K O t f):SDx K mg O E (zs4 C ns E t) (zms c ns f):=λH₀ A σ H ρ D Dd r q P XP=>by
 refine h σ H ρ _ _ r.seen q λvs H1 ds s1 is ⟨hl,q1⟩=>⟨by rw[is.length];exact hl,λd hd=>?_⟩;have s2:Stp O H1 (upd H1 d (.xd (ns.zip vs))):=.new r.ok hd _;have st:=r.st.trans s1;have nm:¬O.M d:=λz=>by obtain⟨o,w⟩:=r.ok.here H1 d (s1.p r.p) z;rw[hd] at w;cases w
 exact XP _ C d _ (st.trans s2) ⟨c,ns,vs,ds,rfl,hm,st.s.free nm hd,zaj,by rw[is.length];exact hl,is.stp s2 (λ_ f=>f) (λ_ f=>f)⟩ q1
def spX(K:Qa)(mg:Str->Option Ut)(φ:Ob->Prop)(n:Nat)(f:List Uu->(R->Prop)->Prop):Sp:=λvs H Q E=>
 ∃(O:Ob) (ds:List Uu) (Qr:R->Prop),O.Ok/\φ O/\O.P H/\ds.length=n/\IsAll K (unM O) H vs ds/\f ds Qr/\(∀r,Qr r->∀v H',Stp O H H'->Out K O H H' v r->Q v H')/\zq8 K mg O H E Qr
theorem zzq{φ:Ob->Prop}{n:Nat}{f:List Uu->(R->Prop)->Prop}{ps:List Str}(hn:ps.length=n):∀vs H Q E,spX K mg φ n f vs H Q E->vs.length=ps.length:=λvs H Q E zz=>by obtain⟨O,ds,_,_,_,_,h,is,_⟩:=zz;rw[is.length,h,hn]
theorem z3d(h:SDx K mg O E t g)(ok:O.Ok)(p:O.P H)(ia:IsAll K (unM O) H vs ds)
 (hg:g { nx:=λ_=>Qr (.o .none),rt:=Qr } (zb0 N (ds.map .im))) (hQ:∀r,Qr r->∀v H',Stp O H H'->Out K O H H' v r->Q v H') (hX:zq8 K mg O H E Qr):t { nx:=λ_ H'=>Q .non H',rt:=Q } (L2.start N vs) H:=by
 refine h H _ _ H _ _ _ (zgu ok p (by rw[Qb];exact ia.length) λi r e=>?_) hg ⟨λA' σ' H' ρ' r' _ q=>hQ _ q .non H' r'.st Is.none,λA' σ' H' ρ' r' _ q=>q.elim,λA' σ' H' ρ' r' _ q=>q.elim,λH' v r s o q=>hQ r q v H' s o⟩ hX;rw[Qs] at e;obtain⟨d,hd,rfl⟩:=Q4.mp e;obtain⟨v,hv,iv⟩:=ia.get hd;exact⟨v,hv,.inl ⟨d,rfl,iv⟩⟩
end
structure Def3x(P:Uy)(w:U0)(K:Qa)(mg:Str->Option Ut)(base:Heap)(k:Nat)(x:Str)(ps:List Str)(sp:Sp):Prop where
 ex:∃f fd,FnOk P w K mg base (CX1 P w) k f fd ps sp/\mg x=some (.ref f)/\Zt K (.ref f)=true/\Binds K fd ps []
def Sx3(K:Qa)(mg:Str->Option Ut)(Y:Cx)(E:XK)(O:Ob)(s:Stmt)(g:DS):Prop:=∃t,PS Y s t/\SDx K mg O E t g
def Ssx3(K:Qa)(mg:Str->Option Ut)(Y:Cx)(E:XK)(O:Ob)(s:List Stmt)(g:DS):Prop:=∃t,PSs Y s t/\SDx K mg O E t g
theorem PS.nox{X:Cx}{st:Stmt}{t:TS}(h:PS X.nox st t):PS X st t:=λpins s σ H D I hw=>
 U2 (h pins s σ H D (I.wish _) hw) (λ_ _ q=>q.unwish) λ_ _ z=>QZ z
theorem PA.nox(h:PA X.nox es t):PA X es t:=λpos pins s σ H Q I hw=>
 U2 (h pos pins s σ H Q (I.wish _) hw) (λ_ _ ⟨v,H',I',r,q⟩=>⟨v,H',I'.unwish,r,q⟩) λ_ _ z=>QZ z
theorem PG.nox(h:PG X.nox tg t):PG X tg t:=λpins s σ H v u Q I r hw=>
 U2 (h pins s σ H v u Q (I.wish _) r hw) (λ_ _ ⟨σ',H',I',q⟩=>⟨σ',H',I'.unwish,q⟩) λ_ _ z=>QZ z
theorem PI.nox{iter:Expr}(h:PI X.nox tg iter t):PI X tg iter t:=λpins s σ H R I hw=>
 U2 (h pins s σ H R (I.wish _) hw) (λ_ _ q=>U2 q (λ_ _ ⟨it,fp,tn,J,H2,e,I2,rest⟩=>⟨it,fp,tn,J,H2,e,I2.unwish,rest⟩) λ_ _ z=>QZ z) λ_ _ z=>QZ z
section
variable {P:Uy}{w:U0}{K:Qa}{mg:Str->Option Ut}{base:Heap}{k:Nat}{Y:Cx}{E:XK}{O:Ob}{c iter tg:Expr}{ft:DT}{st:Stmt}{sts sa sb body:List Stmt}{g1 g2:DS}{pos:Pos}{fj:DJ}{g:DG}{hh:Nat}
theorem x_of(h:S3 K (λ_:Unit=>Y.nox) (λ_:Unit=>O) st g1):Sx3 K mg Y E O st g1:=let ⟨t,p,d⟩:=h;⟨t,PS.nox (p ()),zru (d ())⟩
theorem zje(h:Ss3 K (λ_:Unit=>Y.nox) (λ_:Unit=>O) sts g1):Ssx3 K mg Y E O sts g1:=let ⟨t,p,d⟩:=h;⟨t,PSs.nox (p ()),zru (d ())⟩
theorem zs8(h:Sx3 K mg Y E O st g1):Ssx3 K mg Y E O [st] g1:=let ⟨_,p,d⟩:=h;⟨_,zch p,d⟩
theorem zdc(h:Sx3 K mg Y E O st g1)(h':Ssx3 K mg Y E O sts g2):Ssx3 K mg Y E O (st::sts) (seqD g1 g2):=let ⟨_,p,d⟩:=h;let ⟨_,p2,d2⟩:=h';⟨_,zbp p p2,z0u d d2⟩
theorem x_if(hc:T3 K (λ_:Unit=>Y.nox) (λ_:Unit=>O) c ft)(h:Ssx3 K mg Y E O sa g1)(h':Ssx3 K mg Y E O sb g2):Sx3 K mg Y E O (.If c sa sb pos) (ifS ft g1 g2):=let ⟨_,p,d⟩:=hc;let ⟨_,p1,d1⟩:=h;let ⟨_,p2,d2⟩:=h';⟨_,zp3 (PT.nox (p ())) p1 p2,z1g (d ()) d1 d2⟩
theorem z4y(B:Bdy P w Y E)(hc:Y.calm=true)(hi:J3 K (λ_:Unit=>Y.nox) (λ_:Unit=>O) tg iter fj)(hg:G3 K (λ_:Unit=>Y.nox) hh tg g)(hb:Ssx3 K mg Y E O body g1)(hs:∀x,UF iter Y.env x=pure x:=by intro _;rfl):Sx3 K mg Y E O (.For tg iter body [] pos) (forS fj g g1):=by
 obtain⟨ti,p1,d1⟩:=hi;obtain⟨tg',p2,_,d2,_⟩:=hg;obtain⟨tb,p3,d3⟩:=hb;have po:Tn (model Y.prog Y.w) Y.A Y.env Y.xe:=by rw[B.xe,B.prog,B.wld];exact PassesOwn.leaving
 exact⟨_,zm4 po hc (PI.nox (p1 ())) (PG.nox (p2 ())) p3 hs,zzt (d1 ()) (d2 O) d3⟩
theorem zph{cpos:Pos}(B:Bdy P w Y E)(hc:Y.calm=true)(hP:Y.prog=P)(hw:Y.w=w)(hK:Y.K=K)(hmg:Y.mg=mg)(hbs:Y.base=base)(M:XMk K C f ns)(F:FnOk P w K mg base CX0 k f fd ps (zdr K ns))(hr:Room (k+1) Y.A)(hb:Binds K fd ps [])(hz:ns.length<=1000)(hm:mg x=some (.ref C))
 (ha:A3 K (λ_:Unit=>Y.nox) (λ_:Unit=>O) (e::es) fa) (hg:Gl Y x:=by rfl) (hdb:(x == ("__debug__" : Str))=false:=by decide) (he:Uw (e::es) Y.env=(false,eval e Y.env)::Uw es Y.env:=by rfl) (hpl:(UD cpos (Uw es Y.env)).any (·.1)=false:=by rfl) :
 Sx3 K mg Y E O (.Raise (some (.Call (.Name x np) (e::es) [] cpos)) none pos) (zms x ns fa):=by
 obtain⟨t,p,d⟩:=ha;subst hP hw hK hmg hbs;exact⟨_,zwb B hc M F hr hb hz hg hm (PA.nox (p ())) hdb he hpl,zsg hm (d ())⟩
theorem zxs{n:Nat}(T:Top3 K mg x st)(S:FnScope N ps (zah st))(hb:∀(kV doc pm:Ut) (an:Option Addr) (cdv ct:Ut) (us:List Ut),us.length=ps.length->UK (Zq x x (zb8 st) (zbi st) (zah st) .none kV doc pm an cdv ct) ⟨us,[]⟩=pure (ps.zip us))(hn:ps.length=n)
 (body:∀(f:Addr) (cdv:Ut) (A:U9) (outer:List Env) (s:Ux) (H:Hp) (E:XK) (O:Ob),φ O->Bdy P w (cxOf (CX1 P w) P w K mg base N x (zah st) f cdv A outer s H E) E->Ctx3 P w K mg base k (λ_:Unit=>(cxOf (CX1 P w) P w K mg base N x (zah st) f cdv A outer s H E).nox) ->
  ∃g,Ssx3 K mg (cxOf (CX1 P w) P w K mg base N x (zah st) f cdv A outer s H E) E O (zbi st) g/\∀ds Qr,ds.length=n->F ds Qr->g { nx:=λ_=>Qr (.o .none),rt:=Qr } (zb0 N (ds.map .im))):Def3x P w K mg base (k+1) x ps (spX K mg φ n F):=by
 obtain⟨f,fd,Fu,m⟩:=T.ex;obtain⟨oc,od,kV,doc,pm,an,cdv,ct,osl,rfl,lk,hcd⟩:=id Fu.ex;refine⟨f,_,zqr lk hcd S (zzq hn) λA outer s H vs Q E hr h=>?_,m,Fu.kp,Fu.binds hb⟩;obtain⟨O,ds,Qr,ok,hφ,p,hl,is,q,kk,kx⟩:=h;obtain⟨g,⟨t,h1,h2⟩,h3⟩:=body f cdv A outer s H E O hφ ⟨rfl,rfl,rfl,rfl,rfl,rfl⟩ ⟨λ_=>rfl,λ_=>rfl,λ_=>rfl,λ_=>rfl,λ_=>rfl,λ_=>rfl,λ_=>hr,λ_=>rfl⟩;exact⟨t,h1,z3d h2 ok p is (h3 ds Qr hl q) kk kx⟩
end
theorem zi9{X:Cx}{W:Ut->Ux->Prop}(h:X.xe=λ_ _=>False):(X.wish W).nox=X:=by
 obtain⟨⟩:=X;cases h;rfl
def PEf(X:Cx)(pins:List (Addr×Obj))(σ:St)(e:Expr)(t:TE):Prop:=∀(s:Ux) (H:Hp) (Q:VK),Inv X pins σ H s->t σ H Q->wpAny (model X.prog X.w) X.A (eval e X.env) (EP X pins σ Q) X.xe s
def PAf(X:Cx)(pins:List (Addr×Obj))(σ:St)(es:List Expr)(t:TA):Prop:=∀(pos:Pos) (s:Ux) (H:Hp) (Q:List V->Hp->Prop),Inv X pins σ H s->t σ H Q->wpAny (model X.prog X.w) X.A (GG (UD pos (Uw es X.env))) (AP X pins σ Q) X.xe s
section
variable {X:Cx}{pins:List (Addr×Obj)}{σ:St}{e:Expr}{es:List Expr}{te:TE}{t:TA}{pos p:Pos}{k:Nat}{f:Addr}{fd:UM}{ps:List Str}{sp:Sp}{E:XK}{x:Str}
theorem zpo(F:FnOk X.prog X.w X.K X.mg X.base (CX1 X.prog X.w) k f fd ps sp)(hr:Room k X.A)(hb:Binds X.K fd ps [])(hx:zde X pins σ E)
 (I:Inv X pins σ H s) (r:Vals vs us) (h:sp vs H Q E):wpAny (model X.prog X.w) X.A (call (.ref f) us) (EP X pins σ Q) X.xe s:=by
 have hl:us.length=ps.length:=by rw[<- r.length];exact F.len _ _ _ _ h
 have hbb:=hb s us I.kIn (by rw[QF];exact hl);rw[QF] at hbb;refine Gs (Gq (F.run X.A X.stack s H ⟨us,[]⟩ us vs Q E hr I.env0 hbb r h) λr s' hq=>?_)
 cases r with
 | error e=>exact hx H s e s' I hq
 | ok fl=>
   cases fl with
   | ret u=>exact I.after hq
   | next=>exact QZ hq
   | brk=>exact QZ hq
   | cont=>exact QZ hq
theorem zu8(F:FnOk X.prog X.w X.K X.mg X.base (CX1 X.prog X.w) k f fd ps sp)(hr:Room k X.A)(hg:Gl X x)(hm:X.mg x=some (.ref f))(hk:Zt X.K (.ref f)=true)(hb:Binds X.K fd ps [])(hx:zde X pins σ E)
 (ha:PAf X pins σ (e::es) t) (hdb:(x == ("__debug__" : Str))=false:=by decide) (he:Uw (e::es) X.env=(false,eval e X.env)::Uw es X.env:=by rfl) (hpl:(UD pos (Uw es X.env)).any (·.1)=false:=by rfl) :
 PEf X pins σ (.Call (.Name x p) (e::es) [] pos) (zcf sp [] E t):=by
 intro s H Q I h;refine U4 (zcn I hg hm ?_ hdb);refine Jo (h₀:=X.base) I.ok.mod.kin hk (thn (ha pos s H _ I h) λus s1 ⟨vs,H1,I1,r,q⟩=>⟨I1.kIn,?_⟩) he hpl
 replace q:sp (vs ++ []) H1 Q E:=q
 rw[QF] at q;exact zpo F hr hb hx I1 r q
end
def DEf:Type:=DSt->(R->Prop)->(R->Prop)->Prop
def DSf:Type:=DEnds->DSt->(R->Prop)->Prop
def ziq(N X:R->Prop):R->Prop
 | .o (.dict d)=>X (.o (.dict d))
 | .o .none=>N (.o .none)
 | .o (.bool b)=>N (.o (.bool b))
 | .o (.int i)=>N (.o (.int i))
 | .o (.str x)=>N (.o (.str x))
 | .o (.list l)=>N (.o (.list l))
 | .o (.tuple l)=>N (.o (.tuple l))
 | .n l=>N (.n l)
theorem zrf{K:Qa}{O:Ob}{H H':Hp}{v:V}{N X:R->Prop}:∀{r:R},Out K O H H' v r->ziq N X r->N r
 | .o (.dict d),o,h=>nomatch (show Is K (unM O) H' v (.dict d) from o)
 | .o .none,_,h=>h
 | .o (.bool b),_,h=>h
 | .o (.int b),_,h=>h
 | .o (.str b),_,h=>h
 | .o (.list b),_,h=>h
 | .o (.tuple b),_,h=>h
 | .n b,_,h=>h
def EX(K:Qa)(mg:Str->Option Ut)(O:Ob)(H:Hp)(E:XK)(X:R->Prop):Prop:=∀H' C dx d,Stp O H H'->XOut K mg O H H' C dx d->X (.o d)->E (.ref C) (some dx) H'
def EDf(K:Qa)(mg:Str->Option Ut)(O:Ob)(t:XK->TE)(f:DEf):Prop :=
 ∀(E:XK) (σ:St) (H:Hp) (ρ:DSt) (Q:VK) (N X:R->Prop),Seen K O H σ ρ->f ρ N X->(∀v H' r,Stp O H H'->Out K O H H' v r->N r->Q v H')->EX K mg O H E X->t E σ H Q
def SDf(K:Qa)(mg:Str->Option Ut)(O:Ob)(t:XK->TS)(g:DSf):Prop :=
 ∀(E:XK) (H₀:Hp) (A:Nat->Addr->Prop) (σ:St) (H:Hp) (ρ:DSt) (D:Ends) (Dd:DEnds) (X:R->Prop),Rep K O H₀ A H σ ρ->g Dd ρ X->Post K O H₀ A H D Dd->EX K mg O H E X->t E D σ H
def calX(n:Nat)(F:List Uu->(R->Prop)->Prop)(g:DA):DEf:=λρ N X=>g ρ λds=>ds.length=n/\F ds (ziq N X)
def asgF(i:Nat)(f:DEf):DSf:=λDd ρ X=>f ρ (λr=>match r with
 | .o d=>flat d=true/\Dd.nx (ρ.set i (some (.im d)))
 | .n ds=>flats ds=true/\Dd.nx (ρ.set i (some (.own ds)))) X
section
variable {K:Qa}{mg:Str->Option Ut}{O:Ob}{H₀ H H':Hp}{A:Nat->Addr->Prop}{σ:St}{ρ:DSt}{E:XK}{X:R->Prop}
theorem zm1{n:Nat}(hφ:φ O)(h:AD K O t g):EDf K mg O (λE=>zcf (spX K mg φ n F) [] E t) (calX n F g):=λE σ H ρ Q N X S q k kx=>by
 refine h σ H ρ _ _ S q λvs H1 ds s1 is zz=>?_;obtain⟨hn,q1⟩:=zz;rw[QF];refine⟨O,ds,ziq N X,S.ok,hφ,s1.p S.p,hn,is,q1,λr qr v H' s2 o2=>k v H' r (s1.trans s2) (o2.ahead S.ok S.p s1) (zrf o2 qr),λH' C dx d s2 o2 q2=>kx H' C dx d (s1.trans s2) (o2.ahead S.ok S.p s1) ?_⟩;obtain⟨c,ns,xs,es,rfl,_⟩:=o2;exact q2
theorem z0j{i:Nat}(h:EDf K mg O t f):SDf K mg O (λE=>tAsg (t E) (za9 i)) (asgF i f):=λE H₀ A σ H ρ D Dd X r q P kx=>by
 refine h E σ H ρ _ _ _ r.seen q (λv H1 x s1 o1 q1=>?_) kx
 cases x with
 | o d=>
   obtain⟨fl,q1⟩:=q1;exact P.nx _ _ H1 _ ((r.stp s1).setIm (Is.flat (TupStay.refl H1) o1 fl)) (.setIm s1) q1
 | n ds=>
   obtain⟨fl,q1⟩:=q1;obtain⟨a,xs,rfl,hn,hl,hs⟩:=o1;exact P.nx _ _ H1 _ (r.setOwn s1 hn hl hs fl) (.setOwn s1 hn) q1
theorem Rep.setExc{i:Nat}(r:Rep K O H₀ A H σ ρ)(h:ExAt (unO O A) H v C ns xs)(hi:IsAll K (unO O A) H xs ds):Rep K O H₀ (λj a=>j≠i/\A j a) H (σ.set i (some v)) (ρ.set i (some (.exc C ns ds))):=by
 have un:∀a,unO O A a->unO O (λj a=>j≠i/\A j a) a:=λa u=>⟨u.1,λj z=>u.2 j z.2⟩;have r0:=r.setIm (i:=i) (v:=.non) (d:=.none) .none;refine⟨r0.ok,r0.p,r0.p0,r0.st,r0.dis,r0.own,λj x e=>?_,by rw[QC,QC];exact r.len⟩
 by_cases hj:i=j
 .subst hj
  have hi':i<ρ.length:=by
   rcases J5 i ρ.length with z|z
   .exact z
   .rw[QV (by simpa using z)] at e;cases e
  rw[QE hi'] at e;cases e;exact⟨v,QE (by have:=r.len;lia),xs,h.to λa u f q=>⟨un a f,q⟩,hi.weak un⟩
 .have q:=r0.at_ j x (by rw[QK hj] at e ⊢;exact e);rw[QK hj] at q ⊢;exact q
theorem Rep.setNone{i:Nat}(r:Rep K O H₀ A H σ ρ):Rep K O H₀ (λj a=>j≠i/\A j a) H (σ.set i J1) (ρ.set i J1):=by
 have r0:=r.setIm (i:=i) (v:=.non) (d:=.none) .none;refine⟨r0.ok,r0.p,r0.p0,r0.st,r0.dis,r0.own,λj x e=>?_,by rw[QC,QC];exact r.len⟩
 by_cases hj:i=j
 .subst hj;rcases J5 i ρ.length with z|z
  .rw[QE z] at e;cases e
  .rw[QV (by simpa using z)] at e;cases e
 .have q:=r0.at_ j x (by rw[QK hj] at e ⊢;exact e);rw[QK hj] at q ⊢;exact q
def offD(i:Nat)(Dd:DEnds):DEnds:={ nx:=λρ=>Dd.nx (ρ.set i none),rt:=Dd.rt,bk:=λρ=>Dd.bk (ρ.set i none),ct:=λρ=>Dd.ct (ρ.set i none) }
def tryS(K:Qa)(mg:Str->Option Ut)(CL:Addr)(i:Nat)(gb:DSf)(gs:DS):DS:=λDd ρ=>gb Dd ρ λr=>∃c ns ds C,r = .o (excD c ns ds)/\mg c=some (.ref C)/\QG K C (.ref CL)=some true/\flats ds=true/\gs (offD i Dd) (ρ.set i (some (.exc C ns ds)))
theorem z1j{i:Nat}(hb:SDf K mg O tb gb)(hs:SD K O ts gs):SD K O (zn8 K CL i tb ts) (tryS K mg CL i gb gs):=λH₀ A σ H ρ D Dd r q P=>by
 refine hb _ H₀ A σ H ρ D Dd _ r q P λH' C dx d s1 o1 q1=>?_;obtain⟨c,ns,xs,ds,rfl,m,n,hd,l,is⟩:=o1;obtain⟨c',ns',ds',C',e,m',mr,fl,q1⟩:=q1;obtain⟨rfl,rfl,rfl⟩:=zn1 (R.o.inj e);rw[m] at m';cases m';refine⟨C,dx,rfl,rfl,mr,λa ha=>?_⟩;have s2:Stp O H' (upd H' a (XR a C dx)):=.new r.ok ha _;have r1:=r.stp s1;have r2:=r1.stp s2;have p1:=s1.p r.p;have nm:∀b,H' b=none->¬O.M b:=λb hb z=>by obtain⟨o,w⟩:=r.ok.here H' b p1 z;rw[hb] at w;cases w
 have nA:∀j,¬A j a:=λj z=>by obtain⟨_,⟨o,w,_⟩,_⟩:=r1.own j a z;rw[ha] at w;cases w
 have nD:∀j,¬A j dx:=λj z=>by obtain⟨_,⟨o,w,_⟩,_⟩:=r.own j dx z;rw[n] at w;cases w
 have md:¬O.M dx:=λz=>by obtain⟨o,w⟩:=r.ok.here H dx r.p z;rw[n] at w;cases w
 have ne:dx≠a:=λz=>by rw[z,ha] at hd;cases hd
 have ex:ExAt (unO O A) (upd H' a (XR a C dx)) (.ref a) C ns xs:=⟨a,dx,rfl,⟨nm a ha,nA⟩,⟨md,nD⟩,zaj,by rw[zae ne];exact hd,l⟩;have is2:IsAll K (unO O A) (upd H' a (XR a C dx)) xs ds:=IsAll.flats (TupStay.refl _) (is.stp s2 (λ_ f=>f) (λ_ f=>f)) fl;have r3:=r2.setExc (i:=i) ex is2;have fr:Frm O A H (λj a=>j≠i/\A j a) (upd H' a (XR a C dx)):=Frm.setIm (s1.trans s2);have off:∀{A':Nat->Addr->Prop} {H2:Hp},Frm O A' H2 (λj a=>j≠i/\A' j a) H2:=Frm.setIm (.refl _ _);exact hs H₀ _ _ _ _ _ _ r3 q1 ⟨λA' σ' H2 ρ' r' f' q'=>P.nx _ _ _ _ r'.setNone ((fr.trans f').trans off) q',λA' σ' H2 ρ' r' f' q'=>P.bk _ _ _ _ r'.setNone ((fr.trans f').trans off) q',λA' σ' H2 ρ' r' f' q'=>P.ct _ _ _ _ r'.setNone ((fr.trans f').trans off) q',P.rt⟩
def isXD(K:Qa)(i:Nat)(cv:Ut):DE:=λρ Q=>∃C ns ds b,ρ[i]? = some (some (.exc C ns ds))/\XGet K C/\Zs K (.ref C) cv=some b/\Q (.o (.bool b))
theorem zth{i:Nat}: ED K O (tIsX K cv (tVar i)) (isXD K i cv):=λσ H ρ Q Qd S h k=>by
 obtain⟨C,ns,ds,b,e,xg,ek,q⟩:=h;obtain⟨v,hv,xs,⟨a,dx,rfl,fa,fx,ha,hd,l⟩,is⟩:=S.at_ i _ e;exact⟨_,hv,a,C,dx,ns.zip xs,b,rfl,ha,hd,xg,ek,k _ H (.o (.bool b)) (.refl _ _) (Is.bool b) q⟩
def tCs:List Addr->TA
 | []=>tNil
 | c::cs=>za1 (tC (.ref c)) (tCs cs)
theorem zui: ∀{cs:List Addr} {Q:List V->Hp->Prop},Q (cs.map V.ref) H->tCs cs σ H Q
 | [],Q,h=>h
 | c::cs,Q,h=>zui (cs:=cs) (Q:=λxs H2=>Q (.ref c::xs) H2) h
def zw6(K:Qa)(i:Nat)(cs:List Addr):DE:=λρ Q=>∃C ns ds b,ρ[i]? = some (some (.exc C ns ds))/\XGet K C/\cs.length<=sizeLine/\Yv K (.ref C) (cs.map Q9)=some b/\Q (.o (.bool b))
theorem zx3{i:Nat}: ED K O (zxr K (tVar i) (tTup (tCs cs))) (zw6 K i cs):=λσ H ρ Q Qd S h k=>by
 obtain⟨C,ns,ds,b,e,xg,ln,ek,q⟩:=h;obtain⟨v,hv,xs,⟨a,dx,rfl,fa,fx,ha,hd,l⟩,is⟩:=S.at_ i _ e;refine⟨_,hv,zui ⟨by rw[Qb];exact ln,λp hp=>?_⟩⟩;have na:a≠p:=λz=>by rw[z,hp] at ha;cases ha
 have nd:dx≠p:=λz=>by rw[z,hp] at hd;cases hd
 exact⟨a,C,dx,ns.zip xs,b,p,cs,rfl,rfl,.of zaj,by rw[zae na];exact ha,by rw[zae nd];exact hd,xg,ek,k _ _ (.o (.bool b)) (.new S.ok hp _) (Is.bool b) q⟩
def z4i:Uu->Bool
 | .int _=>true
 | .str _=>true
 | _=>false
theorem zs1{d:Uu}:∀{ns:List Str} {xs:List V} {ds:List Uu},IsAll K F H xs ds->(ns.zip ds).lookup f=some d->∃y,(ns.zip xs).lookup f=some y/\Is K F H y d
 | [],_,_,_,h=>by cases h
 | n::ns,_,_,.nil,h=>by cases h
 | n::ns,v::xs,e::ds,.cons i is,h=>by
   rw[List.zip_cons_cons,Zu] at h ⊢
   cases z:f == n with
   | true=>rw[z] at h;cases h;exact⟨v,rfl,i⟩
   | false=>rw[z] at h;exact zs1 is h
def zxo(K:Qa)(i:Nat)(f:Str):DE:=λρ Q=>∃C ns ds d,ρ[i]? = some (some (.exc C ns ds))/\XGet K C/\QY K (.ref C) f=some none/\(ns.zip ds).lookup f=some d/\z4i d=true/\Q (.o d)
theorem z0p{i:Nat}: ED K O (zw2 K f (tVar i)) (zxo K i f):=λσ H ρ Q Qd S h k=>by
 obtain⟨C,ns,ds,d,e,xg,nf,hl,pd,q⟩:=h;obtain⟨v,hv,xs,⟨a,dx,rfl,fa,fx,ha,hd,l⟩,is⟩:=S.at_ i _ e;obtain⟨y,hy,iy⟩:=zs1 is hl
 have pv:zry y:=by
  cases iy with
  | int i=>trivial
  | str x=>trivial
  | none=>cases pd
  | bool b=>cases pd
  | list _ _ _=>cases pd
  | tuple _ _=>cases pd
 exact⟨_,hv,a,C,dx,ns.zip xs,y,rfl,ha,hd,xg,nf,hy,pv,k y H (.o d) (.refl _ _) iy q⟩
end
def Ef3{ι κ:Type}(K:Qa)(mg:Str->Option Ut)(X:ι->Cx)(O:κ->Ob)(e:Expr)(f:DEf):Prop:=∃t:XK->TE,(∀i W pins σ E,zde ((X i).wish W) pins σ E->PEf ((X i).wish W) pins σ e (t E))/\∀j,EDf K mg (O j) t f
def Bf3{ι κ:Type}(K:Qa)(mg:Str->Option Ut)(X:ι->Cx)(O:κ->Ob)(ss:List Stmt)(f:DSf):Prop:=∃t:XK->TS,(∀i W pins σ E,zde ((X i).wish W) pins σ E->PSsf ((X i).wish W) pins σ ss (t E))/\∀j,SDf K mg (O j) t f
def znb{ι:Type}(X:ι->Cx):ι×Addr->Cx:=λp=>zct (X p.1) p.2
section
variable {ι κ:Type}{P:Uy}{w:U0}{K:Qa}{mg:Str->Option Ut}{base:Heap}{k:Nat}{X:ι->Cx}{O:κ->Ob}{a b c:Expr}{fa:DE}{ff:DEf}{gf:DAf}{ga:DA}{pos p:Pos}{es:List Expr}
theorem zyf{k' n:Nat}(C:Ctx3 P w K mg base k X)(D:Def3x P w K mg base k' x ps (spX K mg φ n F))(hφ:∀j,φ (O j))(ha:A3 K X O (a::es) ga)(hk:k'<=k:=by decide)(hg:∀i,Gl (X i) x:=by intro i;rfl)
 (hdb:(x == ("__debug__" : Str))=false:=by decide) (he:∀i,Uw (a::es) (X i).env=(false,eval a (X i).env)::Uw es (X i).env:=by intro i;rfl) (hpl:∀i,(UD pos (Uw es (X i).env)).any (·.1)=false:=by intro i;rfl):Ef3 K mg X O (.Call (.Name x p) (a::es) [] pos) (calX n F ga):=by
 obtain⟨f,fd,G,m,kp,bn⟩:=D.ex;obtain⟨t,q,d⟩:=ha;refine⟨λE=>zcf (spX K mg φ n F) [] E t,λi W pins σ E hp=>?_,λj=>zm1 (hφ j) (d j)⟩
 have G':FnOk ((X i).wish W).prog ((X i).wish W).w ((X i).wish W).K ((X i).wish W).mg ((X i).wish W).base (CX1 ((X i).wish W).prog ((X i).wish W).w) k f fd ps (spX K mg φ n F):=by
  show FnOk (X i).prog (X i).w (X i).K (X i).mg (X i).base (CX1 (X i).prog (X i).w) k f fd ps _;rw[C.hP,C.hw,C.hK,C.hmg,C.hb];exact G.mono hk
 exact zu8 G' (C.room i) (hg i) (show(X i).mg x=_ by rw[C.hmg];exact m) (show Zt (X i).K _=_ by rw[C.hK];exact kp) (show L2.Binds (X i).K fd ps [] by rw[C.hK];exact bn) hp (λpos s H Q I q'=>PA.nox (X:=(X i).wish W) (by rw[zi9 (C.xe i)];exact q i) pos pins s σ H Q I q') hdb (he i) (hpl i)
theorem z4u{hpos:Pos}{body:List Stmt}{suite:List Stmt}(i:Nat)(C:Ctx3 P w K mg base k X)(hm:mg cx=some (.ref CL))(cc:CatchC K CL)(hb:Bf3 K mg X O body gb)(hs:Ss3 K (znb X) O (s0::suite) gs)
 (hst:∀i,(X i).stack=(X i).env::(X i).outer:=by intro i;rfl) (hfr:∀i,(X i).env.frame=some (X i).env.locals:=by intro i;rfl) (hg:∀i,Gl (X i) cx:=by intro i;rfl)
 (hN:∀i,(X i).N.Nodup:=by intro i;exact Tz (by kernel_rfl)) (hi:∀j,(X j).N[i]? = some n:=by intro j;rfl) (hk:∀i,(X i).env.scope.names.lookup n=some .local:=by intro i;rfl) (hdb:(cx == ("__debug__" : Str))=false:=by decide) :
 S3 K X O (.Try body [.ExceptHandler (some (.Name cx np)) (some n) (s0::suite) hpos] [] [] pos) (tryS K mg CL i gb gs):=by
 obtain⟨tb,p,d⟩:=hb;obtain⟨ts,p',d'⟩:=hs;refine⟨zn8 K CL i tb ts,λj=>?_,λj=>z1j (d j) (d' j)⟩;have:=zsd (X:=X j) (np:=np) (hpos:=hpos) (pos:=pos) (i:=i) (hst j) (hfr j) (hg j) (by rw[C.hmg];exact hm) (by rw[C.hK];exact cc) (hN j) (hi j) (hk j) (λpins σ E W hp=>p j W pins σ E hp) (λa=>p' (j,a)) hdb;rw[C.hK] at this;exact this
def Acl3{ι:Type}(X:ι->Cx)(es:List Expr)(cs:List Addr):Prop:=∀i,PA (X i) es (tCs cs)
theorem zz2:Acl3 X [] []:=λ_=>zbk
end
structure EA where
 le:Addr
 nt:Addr
 nh:Addr
 ns:Addr
 tm:Addr
 np:Addr
 ng:Addr
 nr:Addr
structure ErrC(K:Qa)(mg:Str->Option Ut)(ea:EA):Prop where
 le:mg "LostError" = some (.ref ea.le)
 nt:mg "NoText" = some (.ref ea.nt)
 nh:mg "NoHouse" = some (.ref ea.nh)
 ns:mg "NoStep" = some (.ref ea.ns)
 tm:mg "TooMany" = some (.ref ea.tm)
 np:mg "NoPaper" = some (.ref ea.np)
 ng:mg "NoGrammar" = some (.ref ea.ng)
 nr:mg "NoRow" = some (.ref ea.nr)
 vb:mg "ValueError" = none
 cc:CatchC K ea.le
 ch:chA (.ref ea.np)
 nc:¬chA (.ref ea.ns)
abbrev bmV:List Ut:=[.type "ValueError",.type "Exception",.type "BaseException",.type "object"]
theorem z5r(v:Ut):refuseLoop v "__setattr__" bmV=pure ():=by kernel_rfl
structure Init1(K:Qa)(f:Addr)(fl:Str):Prop where
 ex:∃(qual an0:Str) (params:Tk) (scope:UN) (oc kV doc pm cdv ct:Ut) (od an:Option Addr) (osl:Array (Option Ut)) (p1 p2 p3 p4:Pos),
  K.lookup f=some ⟨oc,od,.func (Zq "__init__" qual params [.Assign [.Attribute (.Name "self" p1) fl p2] (.Name an0 p3) p4] scope .none kV doc pm an cdv ct),osl⟩/\Ji K cdv qual=true /\
  FnScope [("self" : Str),an0] [("self" : Str),an0] scope/\Vis scope "self" /\ Vis scope an0/\(an0 == ("__debug__" : Str))=false/\(an0 == ("__classdict__" : Str))=false /\
  ∀us:List Ut,us.length=2->UK (Zq "__init__" qual params [.Assign [.Attribute (.Name "self" p1) fl p2] (.Name an0 p3) p4] scope .none kV doc pm an cdv ct) ⟨us,[]⟩=pure (([("self" : Str),an0]:List Str).zip us)
structure Raise1(K:Qa)(LE C:Addr)(os:List Addr)(fl:Str):Prop where
 get:XGet K C
 lost:QG K C (.ref LE)=some true
 val:Zs K (.ref C) (.type "ValueError")=some true
 oth:∀D∈os,Zs K (.ref C) (.ref D)=some false
 nof:QY K (.ref C) fl=some none
 init:∃f,XMk K C f [fl]/\Init1 K f fl
section
variable {P:Uy}{w:U0}{K:Qa}{mg:Str->Option Ut}{base:Heap}{C D LE f:Addr}{os:List Addr}{fl:Str}
def z3q:Ut->Bool
 | .str _ _=>true
 | _=>false
theorem strKeys_of(h:(es.toList.all λe=>z3q e.key)=true):StrKeys es:=λe he=>by
 have:=J4.mp h e (YR.mpr he)
 cases z:e.key with
 | str n t=>exact⟨n,t,rfl⟩
 | _=>rw[z] at this;cases this
theorem zwj:Zs K (.ref C) (.ref C)=some true:=T0 (by simp)
theorem zy9{b:Bool}(ne:(C == D)=false)(hc:JD K D=some cd)(ht:ZM K (.ref D)=some (.type "type"))(hm:QG K C (.ref D)=some b):Zs K (.ref C) (.ref D)=some b:=by
 unfold Zs;rw[TB (λz=>by have:=Ul (beq_iff_eq.mp z);rw[this] at ne;simp at ne)];unfold Ud;simp only[hc,ht,Yp,TK,Bool.and_self,TL];exact hm
theorem zxy{b:Bool}(hm:QG K C (.type "ValueError")=some b):Zs K (.ref C) (.type "ValueError")=some b:=by
 unfold Zs;rw[TB (show ¬(Q9 C == J0 "ValueError")=true from λz=>nomatch beq_iff_eq.mp z)];unfold Ud;simp only[show PySem.W.kitMeta "ValueError" = true by decide +kernel,TL];exact hm
theorem zo2:∀{os:List Addr},(∀D∈os,Zs K (.ref C) (.ref D)=some false)->Yv K (.ref C) (os.map Q9)=some false
 | [],_=>rfl
 | D::os,h=>by
   rw[QD,Yv,h D Qw];exact zo2 λE hE=>h E (Qq _ hE)
theorem znq(I:Init1 K f fl):∃fd ps,FnOk P w K mg base CX0 1 f fd ps (zdr K [fl])/\Binds K fd ps []:=by
 obtain⟨qual,an0,params,scope,oc,kV,doc,pm,cdv,ct,od,an,osl,p1,p2,p3,p4,lk,hcd,S,v0,v1,d1,d2,hb⟩:=I.ex;refine⟨_,[("self" : Str),an0],zqr lk hcd S (zi5 rfl) λA outer s H vs Q E hr h=>?_,.all hb⟩;obtain⟨x,C,ys,rfl,hl,hc,hx,hq⟩:=h
 match ys,hl with
 | [y],_=>
 refine⟨_,zch (zo4 (zal (i:=0) rfl v0 (by decide) (by decide)) (zal (i:=1) rfl v1 d1 d2) rfl),?_⟩;exact⟨y,rfl,.ref x,rfl,x,C,rfl,hc fl Qw,.inl ⟨hx,λd hd hdx=>hq d hd hdx⟩⟩
theorem raise1_mk{bs:List Ut}{ab:Bool}{oslN:Array (Option Ut)}{ep:Nat}
 (h1:QY K (.ref C) "__getattribute__" = some (some (.builtin "BaseException.__getattribute__"))) (h2:QY K (.ref C) "__getattr__" = some none) (h3:QG K C (.type "BaseException")=some true) (h4:QG K C (.type "object")=some true)
 (h5:V2 K C=true) (h6:QY K (.ref C) "__class__" = some (some (.builtin "object.__class__"))) (h7:V3 K (.builtin "object.__class__") "__get__" = some (some (.builtin "getset_descriptor.__get__"))) (h8:VR K (.builtin "object.__class__")=some true)
 (h9:QG K C (.ref LE)=some true) (h10:QG K C (.type "ValueError")=some true) (h11:QY K (.ref C) fl=some none)
 (h12:K.lookup C=some (Gm nm q C N bs (.ref LE::bmV) true sn sub ab col dd k0 k1 k2 k3 k5 "ValueError.__new__"))
 (h13:K.lookup LE=some ⟨c0,ddL,.cls cdL,slL⟩) (h14:K.lookup cdL.ns=some ⟨ocN,odN,.dict es ep,oslN⟩) (h15:StrKeys es) (h16:nsFind es "__init__" = none)
 (h17:QY K (.ref C) "__init__" = some (some (.ref f))) (h18:ZM K (.ref f)=some (.type "function")) (h19:Zt K (.ref C)=true) (h20:QY K (.ref C) "__setattr__" = some (some (.builtin "object.__setattr__")))
 (h21:∀D∈os,Zs K (.ref C) (.ref D)=some false) (h22:Init1 K f fl):Raise1 K LE C os fl:=by
 refine⟨⟨h1,h2,h3,h4,h5,h6,h7,h8⟩,h9,zxy h10,h21,h11,f,⟨⟨nm,q,N,bs,_,bmV,sn,sub,ab,col,dd,k0,k1,k2,k3,k5, "ValueError", "ValueError.__new__", "ValueError.__init__",h12,λh x=>zqv x h13 h14 h15 h16 .base,PySem.F.excBase_ValueError⟩,h17,h18,h19,λn hn=>?_⟩,h22⟩;rw[Qn.mp hn];refine⟨⟨_,by unfold JD;rw[h12],rfl,rfl,?_,λv=>?_⟩,h20,h11⟩
 .simp[Yr]
 .rw[refuseLoop_ref,refuseLoop_ref];exact z5r v
structure ErrIn(K:Qa)(ea:EA):Prop where
 le:Qy K mainGlobals "LostError" = some (some (.ref ea.le))
 nt:Qy K mainGlobals "NoText" = some (some (.ref ea.nt))
 nh:Qy K mainGlobals "NoHouse" = some (some (.ref ea.nh))
 ns:Qy K mainGlobals "NoStep" = some (some (.ref ea.ns))
 tm:Qy K mainGlobals "TooMany" = some (some (.ref ea.tm))
 np:Qy K mainGlobals "NoPaper" = some (some (.ref ea.np))
 ng:Qy K mainGlobals "NoGrammar" = some (some (.ref ea.ng))
 nr:Qy K mainGlobals "NoRow" = some (some (.ref ea.nr))
 vb:Qy K mainGlobals "ValueError" = some none
 cc:CatchC K ea.le
 ch:chA (.ref ea.np)
 nc:¬chA (.ref ea.ns)
theorem errIn_mk(e1:Qy K mainGlobals "LostError" = some (some (.ref le)))(e2:Qy K mainGlobals "NoText" = some (some (.ref nt)))(e3:Qy K mainGlobals "NoHouse" = some (some (.ref nh)))(e4:Qy K mainGlobals "NoStep" = some (some (.ref ns)))
 (e5:Qy K mainGlobals "TooMany" = some (some (.ref tm))) (e6:Qy K mainGlobals "NoPaper" = some (some (.ref np))) (e7:Qy K mainGlobals "NoGrammar" = some (some (.ref ng))) (e8:Qy K mainGlobals "NoRow" = some (some (.ref nr))) (e9:Qy K mainGlobals "ValueError" = some none)
 (e10:ZM K (.ref le)=some (.type "type")) (e11:K.lookup le=some ⟨oc,od,.cls cd,sl⟩) (e12:QG K le (.type "BaseException")=some true) (e13:chA (.ref np)) (e14:¬chA (.ref ns)):ErrIn K ⟨le,nt,nh,ns,tm,np,ng,nr⟩:=⟨e1,e2,e3,e4,e5,e6,e7,e8,e9,⟨e10,⟨_,_,_,_,e11⟩,e12⟩,e13,e14⟩
theorem ErrIn.errC{h:Heap}(X:K.In h)(G:h.Ns mainGlobals mg)(E:ErrIn K ea):ErrC K mg ea :=
 ⟨ZL X G E.le,ZL X G E.nt,ZL X G E.nh,ZL X G E.ns,ZL X G E.tm,ZL X G E.np,ZL X G E.ng,ZL X G E.nr,Q8 X G E.vb,E.cc,E.ch,E.nc⟩
theorem init1_mk{qual:Str}{params:Tk}{scope:UN}{kV:Ut}   
 (i1:K.lookup f=some ⟨oc,od,.func (Zq "__init__" qual params [.Assign [.Attribute (.Name "self" p1) fl p2] (.Name an0 p3) p4] scope .none kV doc pm an cdv ct),osl⟩) (i2:Ji K cdv qual=true)
 (i3:FnScope [("self" : Str),an0] [("self" : Str),an0] scope) (i4:Vis scope "self" /\ Vis scope an0) (i5:(an0 == ("__debug__" : Str))=false/\(an0 == ("__classdict__" : Str))=false)
 (i6:∀us:List Ut,us.length=2->UK (Zq "__init__" qual params [.Assign [.Attribute (.Name "self" p1) fl p2] (.Name an0 p3) p4] scope .none kV doc pm an cdv ct) ⟨us,[]⟩=pure (([("self" : Str),an0]:List Str).zip us)):Init1 K f fl :=
 ⟨qual,an0,params,scope,oc,kV,doc,pm,cdv,ct,od,an,osl,p1,p2,p3,p4,i1,i2,i3,i4.1,i4.2,i5.1,i5.2,i6⟩
theorem no_nil:∀D∈([]:List Addr),Zs K (.ref C) (.ref D)=some false:=λ_ h=>(Q0 h).elim
theorem no_cons(ne:(C == D)=false)(hc:JD K D=some cd)(ht:ZM K (.ref D)=some (.type "type"))(hm:QG K C (.ref D)=some false)(h:∀D∈os,Zs K (.ref C) (.ref D)=some false):∀E∈D::os,Zs K (.ref C) (.ref E)=some false:=λE hE=>by
 rcases Q3.mp hE with rfl|z
 .exact zy9 ne hc ht hm
 .exact h E z
end
abbrev zko(K:Qa)(ea:EA):Prop:=Raise1 K ea.le ea.ns [ea.ng,ea.nh,ea.np,ea.nr,ea.nt,ea.tm] "at"
abbrev zh0(K:Qa)(ea:EA):Prop:=Raise1 K ea.le ea.np [ea.ng,ea.nh,ea.nr,ea.ns,ea.nt,ea.tm] "at"
structure RSt where
 act:Bool
 i:Int
 j:Int
deriving DecidableEq
def kdR:Bool->Str
 | true=> "do"
 | false=> "lose"
def zan(t:RSt):Uu:=.tuple [.str (kdR t.act),.int t.i,.int t.j]
def rsOf:Stp1->RSt
 | .act a i=>⟨true,a,i⟩
 | .lose l p=>⟨false,l,p⟩
theorem z1c(i j:Int):zan ⟨true,i,j⟩ = .tuple [.str "do",.int i,.int j]:=rfl
theorem zv7(i j:Int):zan ⟨false,i,j⟩ = .tuple [.str "lose",.int i,.int j]:=rfl
theorem zm0(t:Stp1):zaz t=zan (rsOf t):=by cases t <;> rfl
theorem zpc(r:List Stp1):r.map zaz=(r.map rsOf).map zan:=by rw[Jt];exact YY λt _=>zm0 t
def toS(t:RSt):Stp1:=match t.act with
 | true=>.act t.i.toNat t.j.toNat
 | false=>.lose t.i.toNat t.j.toNat
theorem zik(u:Stp1):toS (rsOf u)=u:=by cases u <;> rfl
theorem z4n(h:rsOf u=rsOf v):u=v:=by rw[<- zik u,h,zik]
theorem zg6(t:RSt):flat (zan t)=true:=rfl
theorem zun(h:zan t=zan u):t=u:=by
 obtain⟨a,i,j⟩:=t;obtain⟨b,k,l⟩:=u;simp[zan] at h;obtain⟨h1,rfl,rfl⟩:=h;cases a <;> cases b
 .rfl
 .exact absurd h1 (by decide +kernel)
 .exact absurd h1 (by decide +kernel)
 .rfl
theorem z5k(t:RSt):Sl 1 (zan t):=by
 obtain⟨a,i,j⟩:=t
 cases a with
 | true=>exact zbs (zjs (show QR (kdR true)=true by decide +kernel)) (zbs (zc4 _) (zbs (zc4 _) (zfs 0)))
 | false=>exact zbs (zjs (show QR (kdR false)=true by decide +kernel)) (zbs (zc4 _) (zbs (zc4 _) (zfs 0)))
theorem z2y(neg:Bool)(t:RSt)(L:List Stp1):inF neg (zan t) (.list (L.map zaz))=some (.o (.bool (if neg then !decide (t∈L.map rsOf) else decide (t∈L.map rsOf)))):=z5i (z5k t) (zmb λu _=>zxq u) (hq:=by
 rw[TC,zpc]
 exact⟨λz=>QS.mpr ⟨t,z,rfl⟩,λz=>by obtain⟨u,hu,e⟩:=QS.mp z;rw[<- zun e];exact hu⟩)
def canR(h:Hou)(s:Sta)(t:RSt):Bool:=decide (t∈(zbr h s).map rsOf) || decide (t∈(zau s.words 0).map rsOf)
theorem zkn{h:Hou}(c:canR h s t=true):t=rsOf (toS t)/\May h s (toS t):=by
 unfold canR at c;rw[VT,TC,TC,<- Q6,<- QI] at c;obtain⟨u,hu,rfl⟩:=QS.mp c;rw[zik];exact⟨rfl,hu⟩
theorem zv4{h:Hou}(m:May h s t):canR h s (rsOf t)=true:=by
 unfold canR;rw[VT,TC,TC,<- Q6,<- QI];exact QS.mpr ⟨t,m,rfl⟩
theorem ziu:∀(ws:List (List Nat)) (l k p:Nat),k<ws.length->p<(ws.getD k []).length->Stp1.lose (l+k) p∈zau ws l
 | [],_,k,_,h,_=>absurd h (Nat.not_lt_zero _)
 | w::ws,l,0,p,_,h=>by
   rw[zau];exact Jb _ (QS.mpr ⟨p,Yj.mpr h,rfl⟩)
 | w::ws,l,k+1,p,hk,h=>by
   rw[zau];refine QT _ ?_;have:=ziu ws (l+1) k p (by rw[Qj] at hk;lia) (by simpa using h);rwa [show l+1+k=l+(k+1) by lia] at this
theorem zh8{h:Hou}{i j:Int}:canR h s ⟨false,i,j⟩=(decide (0<=i) && decide (i<s.words.length) && (decide (0<=j) && decide (j<(s.words.getD i.toNat []).length))):=by
 have e1:decide ((⟨false,i,j⟩:RSt)∈(zbr h s).map rsOf)=false:=TF λz=>by
  obtain⟨u,hu,e⟩:=QS.mp z
  cases u with
  | act a b=>cases e
  | lose a b=>
    obtain⟨k,i,_,_,e⟩:=zeb h.hands 0 hu;cases e
 unfold canR;rw[e1,Uh];rw[ZP,Qu,Qu,Qu,TC,TC,TC,TC,TC];constructor
 .intro z;obtain⟨u,hu,e⟩:=QS.mp z;obtain⟨k,p,hk,hp,rfl⟩:=ze2 _ _ hu;rw[ZH] at e;cases e;rw[show(Int.toNat ((k:Nat):Int))=k from rfl];exact⟨⟨by lia,by lia⟩,by lia,by lia⟩
 .rintro⟨⟨h1,h2⟩,h3,h4⟩;have:=ziu s.words 0 i.toNat j.toNat (by lia) (by lia);rw[ZH] at this;refine QS.mpr ⟨_,this,?_⟩;show(⟨false,(i.toNat:Int),(j.toNat:Int)⟩:RSt)=⟨false,i,j⟩;rw[Va h1,Va h3]
theorem zoe{h:Hou}{i j:Int}:canR h s ⟨true,i,j⟩=decide ((⟨true,i,j⟩:RSt)∈(zbr h s).map rsOf):=by
 unfold canR
 have e2:decide ((⟨true,i,j⟩:RSt)∈(zau s.words 0).map rsOf)=false:=TF λz=>by
  obtain⟨u,hu,e⟩:=QS.mp z;obtain⟨k,p,_,_,rfl⟩:=ze2 _ _ hu;cases e
 rw[e2,Vc]
def zxt:List Uu->(R->Prop)->Prop:=λds Q=>∃(h:Hou) (n:Nat) (s:Sta) (t:RSt),ds = [za2 h,zak s,zan t]/\HoOk h/\StOk h n s/\n<=1000/\Q (.o (.bool (canR h s t)))
def resR(h:Hou):List RSt->Nat->List Sta->Sta->Nat ⊕ List Sta
 | [],_,acc,_=>.inr acc
 | t::ts,i,acc,s=>if canR h s t=true then resR h ts (i+1) (acc ++ [zce h s (toS t)]) (zce h s (toS t)) else .inl i
theorem zt9{h:Hou}(hh:HoOk h):∀(r:List RSt) {s:Sta} {n i:Nat} {acc L:List Sta},StOk h n s->(∀x∈acc,StOk h (n+r.length) x)->resR h r i acc s = .inr L->∀x∈L,StOk h (n+r.length) x
 | [],s,n,i,acc,L,hs,ha,e=>by cases e;exact ha
 | t::r,s,n,i,acc,L,hs,ha,e=>by
   rw[resR] at e
   split at e
   .rename_i c
    have h1:=zfb hh hs (zfo hs (zkn c).2);have:=zt9 hh r (n:=n+1) (i:=i+1) (L:=L) h1 (λx hx=>?_) e
    .rw[Qj,show n+(r.length+1)=n+1+r.length by lia];exact this
    .rw[show n+1+r.length=n+(t::r).length by rw[Qj];lia];rcases Q6.mp hx with hx|hx
     .exact ha x hx
     .rw[Qn.mp hx,Qj];exact h1.up (by lia)
   .cases e
def z5y:Nat ⊕ List Sta->R
 | .inl k=>.o (excD "NoStep" ["at"] [.int (k:Nat)])
 | .inr L=>.n (L.map zak)
def zs0:List Uu->(R->Prop)->Prop:=λds Q=>∃(h:Hou) (n:Nat) (s:Sta) (r:List RSt),ds = [za2 h,zak s,.tuple (r.map zan)]/\HoOk h/\StOk h n s/\n+r.length<=1000/\Q (z5y (resR h r 0 [] s))
theorem zy3{α:Type}{f:α->Uu}(xs:List α)(lo hi:Option Int):slcF lo hi (.tuple (xs.map f))=some (.o (.tuple ((cutL xs lo hi).map f))):=by
 rw[sl_tup];simp only[cutL,Qb,<- Vf,<- Ve]
theorem z4h{neg:Bool}:OpR X (U6 (if neg then .IsNot else .Is)) (λx y H Q=>∃b,y = .bl b/\Q (.bl (if neg then !decide (x = .bl b) else decide (x = .bl b))) H):=by
 intro pins s σ H x y v u Q I rx ry h;obtain⟨b,rfl,q⟩:=h;cases ry
 have key:plainIs v (.bool b)=true/\(v == ZC b)=decide (x=V.bl b):=by
  cases x <;> first
   | (rename_i c;cases rx;refine⟨rfl,?_⟩;cases b <;> cases c <;> rfl)
   | (cases rx;exact⟨rfl,by cases b <;> rfl⟩)
   | (obtain⟨t,rfl⟩:=rx;exact⟨rfl,by cases b <;> rfl⟩)
 cases neg with
 | false=>exact wpAny_is_plain key.1 (zbh I q (by rw[key.2];rfl))
 | true=>exact wpAny_isNot_plain key.1 (zbh I q (by rw[key.2];rfl))
section
variable {ι κ:Type}{P:Uy}{w:U0}{K:Qa}{mg:Str->Option Ut}{base:Heap}{k:Nat}{X:ι->Cx}{O:κ->Ob}{a b c:Expr}{fa fb:DE}{ff:DEf}{pos p:Pos}{es:List Expr}
theorem z1y(n:Nat)(h:Ef3 K mg X O a ff)(hN:∀i,(X i).N.Nodup:=by intro i;exact Tz (by kernel_rfl))(hi:∀i,(X i).N[n]? = some x:=by intro i;rfl)(hx:∀i,Loc (X i).env.scope x:=by intro i;first|exact Or.inl rfl|exact Or.inr rfl)
 (hs:∀i,UZ a (some (.Name x px)) pos.line (X i).env=pure false:=by intro i;rfl) (hf:∀i,(X i).fn x=true\/(X i).env.scope.names.lookup x=some .local:=by intro i;first|exact .inl rfl|exact .inr rfl):Bf3 K mg X O [.Assign [.Name x px] a pos] (asgF n ff):=by
 obtain⟨t,p,d⟩:=h;refine⟨λE=>tAsg (t E) (za9 n),λi W pins σ E hp s H D I q=>?_,λj=>z0j (d j)⟩;refine Gj (wpAny_Assign_Name (thn (p i W pins σ E hp s H _ I q) λv s1 zz=>?_) (hs i));obtain⟨y,H1,I1,r1,q1⟩:=zz;exact zcv I1 (hN i) (hi i) (hx i) r1 (λs2 I2=>UL ⟨_,H1,I2,q1⟩) (hf i)
end
structure Ctx2{ι:Type}(K:Qa)(mg:Str->Option Ut)(X:ι->Cx):Prop where
 hK:∀i,(X i).K=K
 hmg:∀i,(X i).mg=mg
section
variable {ι κ:Type}{P:Uy}{w:U0}{K:Qa}{mg:Str->Option Ut}{base:Heap}{k:Nat}{X:ι->Cx}{O:κ->Ob}{a b c:Expr}{fa:DE}{pos p p2:Pos}{es:List Expr}
theorem Ctx3.mk2(C:Ctx3 P w K mg base k X):Ctx2 K mg (znb X):=⟨λp=>C.hK p.1,λp=>C.hmg p.1⟩
theorem zyt(m:Nat){x y:Str}{c:Addr}{py p1 p2:Pos}(C:Ctx2 K mg X)(B:Blt mg)(hm:mg x=some (.ref c))(gi:∀i,Gl (X i) "isinstance" := by intro i;rfl)(gx:∀i,Gl (X i) x:=by intro i;rfl)
 (hN2:∀i,(X i).N[m]? = some y:=by intro i;rfl) (hv:∀i,Vis (X i).env.scope y:=by intro i;first|exact Or.inl rfl|exact Or.inr (Or.inl rfl)|exact Or.inr (Or.inr rfl)) (hd:(y == ("__debug__" : Str))=false:=by decide) (hcd:(y == ("__classdict__" : Str))=false:=by decide) (hd2:(x == ("__debug__" : Str))=false:=by decide) :
 E3 K X O (.Call (.Name "isinstance" p1) [.Name y py,.Name x p2] [] pos) (isXD K m (.ref c)) :=
 ⟨_,λi=>by
  have:=ztw (X:=X i) (p1:=p1) (p2:=p2) (p3:=pos) (x:=x) (cv:=.ref c) (gi i) (by rw[C.hmg];exact B.isinstance) (zy4 (gx i) (by rw[C.hmg];exact hm) hd2) (zal (pos:=py) (hN2 i) (hv i) hd hcd);rw[C.hK] at this
  exact this,λj=>zth⟩
theorem zzf(m:Nat)(C:Ctx2 K mg X)(B:Blt mg)(hm:mg x=none)(hb:U5 x=some cv:=by decide +kernel)(gi:∀i,Gl (X i) "isinstance" := by intro i;rfl)(gx:∀i,Gl (X i) x:=by intro i;rfl)
 (hN2:∀i,(X i).N[m]? = some y:=by intro i;rfl) (hv:∀i,Vis (X i).env.scope y:=by intro i;first|exact Or.inl rfl|exact Or.inr (Or.inl rfl)|exact Or.inr (Or.inr rfl)) (hd:(y == ("__debug__" : Str))=false:=by decide) (hcd:(y == ("__classdict__" : Str))=false:=by decide) (hn:x ≠ "__name__" := by decide) (hd2:(x == ("__debug__" : Str))=false:=by decide) :
 E3 K X O (.Call (.Name "isinstance" p1) [.Name y py,.Name x p2] [] pos) (isXD K m cv) :=
 ⟨_,λi=>by
  have:=ztw (X:=X i) (p1:=p1) (p2:=p2) (p3:=pos) (x:=x) (cv:=cv) (gi i) (by rw[C.hmg];exact B.isinstance) (z0k (gx i) (by rw[C.hmg];exact hm) hb hn hd2) (zal (pos:=py) (hN2 i) (hv i) hd hcd);rw[C.hK] at this
  exact this,λj=>zth⟩
theorem zc0{x:Str}{c:Addr}{cs:List Addr}{px:Pos}(C:Ctx2 K mg X)(hm:mg x=some (.ref c))(h:Acl3 X es cs)(hg:∀i,Gl (X i) x:=by intro i;rfl)(hd:(x == ("__debug__" : Str))=false:=by decide)(hs:∀i,Uw (.Name x px::es) (X i).env=(false,eval (.Name x px) (X i).env)::Uw es (X i).env:=by intro i;rfl):Acl3 X (.Name x px::es) (c::cs) :=
 λi=>zaw (z4b (hg i) (by rw[C.hmg];exact hm) hd) (h i) (hs i)
theorem zzv(m:Nat){x1}(C:Ctx2 K mg X)(B:Blt mg)(hc:Acl3 X es cs)(gi:∀i,Gl (X i) "isinstance" := by intro i;rfl)
 (hN2:∀i,(X i).N[m]? = some y:=by intro i;rfl) (hv:∀i,Vis (X i).env.scope y:=by intro i;first|exact Or.inl rfl|exact Or.inr (Or.inl rfl)|exact Or.inr (Or.inr rfl)) (hd:(y == ("__debug__" : Str))=false:=by decide) (hcd:(y == ("__classdict__" : Str))=false:=by decide) :
 E3 K X O (.Call (.Name "isinstance" p1) [.Name y py,.Tuple es x1 p2] [] pos) (zw6 K m cs) :=
 ⟨_,λi=>by
  have:=zx5 (X:=X i) (p1:=p1) (p3:=pos) (gi i) (by rw[C.hmg];exact B.isinstance) (zal (pos:=py) (hN2 i) (hv i) hd hcd) (zmp (x1:=x1) (pos:=p2) (hc i));rw[C.hK] at this
  exact this,λj=>zx3⟩
theorem zpw(m:Nat)(C:Ctx2 K mg X)(hN2:∀i,(X i).N[m]? = some y:=by intro i;rfl)(hv:∀i,Vis (X i).env.scope y:=by intro i;first|exact Or.inl rfl|exact Or.inr (Or.inl rfl)|exact Or.inr (Or.inr rfl))(hd:(y == ("__debug__" : Str))=false:=by decide)(hcd:(y == ("__classdict__" : Str))=false:=by decide)
 (hb:∀i,UJ (.Name y py) f (X i).env (eval (.Name y py) (X i).env)=eval (.Name y py) (X i).env:=by intro i;rfl):E3 K X O (.Attribute (.Name y py) f pos) (zxo K m f) :=
 ⟨_,λi=>by
  have:=zz0 (X:=X i) (pos:=pos) (f:=f) (zal (pos:=py) (hN2 i) (hv i) hd hcd) (hb i);rw[C.hK] at this
  exact this,λj=>z0p⟩
end
theorem iteB{b:Bool}{A B:Prop}(ht:b=true->A)(hf:b=false->B):if b=true then A else B:=by
 cases b with
 | true=>exact iteT (ht rfl)
 | false=>exact iteF (hf rfl)
theorem zuc{α:Type}(as:List α)(g:α->Bool):(if false=true then(as.map g).any id else(as.map g).all id)=as.all g:=by rw[TB Qo,List.all_map];rfl
theorem zsq{α:Type}(as:List α)(g:α->Bool):[VN (as.map λa=>.bool (g a))] = [VN ((as.map g).map VO)]:=by rw[Jt];rfl
theorem eqI{i j:Int}:eqF false (.int i) (.int j)=some (.o (.bool (decide (i=j)))):=by rw[zg9,TB Qo]
theorem neI{i j:Int}:eqF true (.int i) (.int j)=some (.o (.bool (!decide (i=j)))):=by rw[zg9,T0 rfl]
theorem z5a{b:Bool}(h:(!b)=true):b=false:=by cases b with|true=>cases h|false=>rfl
theorem z4w{b:Bool}(h:(!b)=false):b=true:=by cases b with|true=>rfl|false=>cases h
theorem z5t{neg:Bool}(h:QR x=true):eqF neg (.str x) (.str x)=some (.o (.bool (!neg))):=by
 rw[zbc h h,TK];cases neg <;> rfl
theorem z4v{neg:Bool}(h:(QR x && QR y)=true)(n:(x == y)=false):eqF neg (.str x) (.str y)=some (.o (.bool neg)):=by
 obtain⟨a,b⟩:=Bool.and_eq_true_iff.mp h;rw[zbc a b,n];cases neg <;> rfl
end L3
namespace HK
open PySem PySem.Spec PyProof.Rows PySem.SetTable
noncomputable instance:DecidableEq Uu:=λa b=>Classical.propDecidable (a=b)
end HK
namespace L3
open PySem PySem.Spec
open PyProof.Rows hiding St
open L2
section
variable {K:Qa}{O:Ob}{H₀ H H':Hp}{A:Nat->Addr->Prop}{σ:St}{ρ:DSt}
mutual
theorem zpq:∀d:Uu,HK.hk d=true->flat d=true
 | .int _,_=>rfl
 | .str _,_=>rfl
 | .tuple ds,h=>by rw[flat];exact zle ds (by simpa[HK.hk] using h)
 | .none,h=>by simp[HK.hk] at h
 | .bool _,h=>by simp[HK.hk] at h
 | .list _,h=>by simp[HK.hk] at h
 | .dict _,h=>by simp[HK.hk] at h
theorem zle:∀ds:List Uu,HK.hks ds=true->flats ds=true
 | [],_=>rfl
 | d::ds,h=>by
   simp only[HK.hks,Qu] at h;rw[flats,zpq d h.1,zle ds h.2];rfl
end
end
def ArgV(K:Qa)(O:Ob)(H:Hp)(v:V)(r:DV):Prop:=(∃d,r = .im d/\Is K (unM O) H v d)\/(∃f ds,r = .rd f ds/\SeenV K O H v (.rd f ds))\/(r = .ob/\v=O.v)\/∃T,r = .thr T/\SeenV K O H v (.thr T)
def Args(K:Qa)(O:Ob)(H:Hp):List V->List DV->Prop
 | [],[]=>True
 | v::vs,r::rs=>ArgV K O H v r/\Args K O H vs rs
 | _,_=>False
theorem Args.length{K:Qa}{O:Ob}{H:Hp}:∀{vs:List V} {rs:List DV},Args K O H vs rs->vs.length=rs.length
 | [],[],_=>rfl
 | _::_,_::_,h=>by rw[Qj,Qj,Args.length h.2]
theorem Args.get{K:Qa}{O:Ob}{H:Hp}:∀{vs:List V} {rs:List DV} {i:Nat} {r:DV},Args K O H vs rs->rs[i]? = some r->∃v,vs[i]? = some v/\ArgV K O H v r
 | [],[],_,_,_,e=>by simp at e
 | [],_::_,_,_,h,_=>h.elim
 | _::_,[],_,_,h,_=>h.elim
 | _::_,_::_,0,_,h,e=>by cases e;exact⟨_,rfl,h.1⟩
 | _::_,_::_,i+1,_,h,e=>by
   obtain⟨v,h1,h2⟩:=Args.get (i:=i) h.2 (by simpa using e);exact⟨v,by simpa using h1,h2⟩
def spG(K:Qa)(φ:Ob->Prop)(n:Nat)(f:List DV->(R->Prop)->Prop):Sp:=λvs H Q _=>
 ∃(O:Ob) (rs:List DV) (Qr:R->Prop),O.Ok/\φ O/\O.P H/\rs.length=n/\Args K O H vs rs/\f rs Qr/\∀r,Qr r->∀v H',Stp O H H'->Out K O H H' v r->Q v H'
theorem zzo{K:Qa}{φ:Ob->Prop}{n:Nat}{f:List DV->(R->Prop)->Prop}{ps:List Str}(hn:ps.length=n):∀vs H Q E,spG K φ n f vs H Q E->vs.length=ps.length:=λvs H Q E zz=>by obtain⟨O,rs,_,_,_,_,h,is,_⟩:=zz;rw[is.length,h,hn]
abbrev DGA:=DSt->(List DV->Prop)->Prop
def AG(K:Qa)(O:Ob)(t:TA)(f:DGA):Prop :=
 ∀(σ:St) (H:Hp) (ρ:DSt) (Q:List V->Hp->Prop) (Qd:List DV->Prop),Seen K O H σ ρ->f ρ Qd->(∀vs H' rs,Stp O H H'->Args K O H' vs rs->Qd rs->Q vs H')->t σ H Q
def zwv:DGA:=λ_ Q=>Q []
def gImA(f:DE)(g:DGA):DGA:=λρ Q=>f ρ λr=>g ρ λrs=>Q (.im r.d::rs)
section
variable {K:Qa}{O:Ob}
theorem z3g:AG K O tNil zwv:=λσ H ρ Q Qd S h k=>k [] H [] (.refl _ _) trivial h
theorem z6m(h:ED K O t f)(h':AG K O u g):AG K O (za1 t u) (gImA f g):=λσ H ρ Q Qd S hf k=>by
 refine h σ H ρ _ _ S hf λv H1 r s1 o1 q1=>?_;refine h' σ H1 ρ _ _ (S.stp s1) q1 λvs H2 rs s2 a2 q2=>?_;exact k (v::vs) H2 (.im r.d::rs) (s1.trans s2) ⟨.inl ⟨r.d,rfl,Is.stp s2 (λ_ f=>f) (λ_ f=>f) (o1.is S.ok S.p)⟩,a2⟩ q2
def calG(n:Nat)(f:List DV->(R->Prop)->Prop)(g:DGA):DE:=λρ Q=>g ρ λrs=>rs.length=n/\f rs Q
theorem zuq{n:Nat}(hφ:φ O)(h:AG K O t g):ED K O (zcf (spG K φ n f) [] E t) (calG n f g):=λσ H ρ Q Qd S q k=>by
 refine h σ H ρ _ _ S q λvs H1 rs s1 is zz=>?_;obtain⟨hn,q1⟩:=zz;rw[QF];exact⟨O,rs,Qd,S.ok,hφ,s1.p S.p,hn,is,q1,λr qr v H' s2 o2=>k v H' r (s1.trans s2) (o2.ahead S.ok S.p s1) qr⟩
theorem zre(ok:O.Ok)(p:O.P H)(h:Args K O H vs rs):Rep K O H (λ_ _=>False) H (L2.start N vs) (zb0 N rs):=by
 have hl:=h.length;refine⟨ok,p,p,.refl _ _,λ_ _ _ z=>z.elim,λ_ _ z=>z.elim,λi r e=>?_,?_⟩
 .unfold zb0 at e
  by_cases hi:i<rs.length
  .rw[QW (by simpa using hi),Qs] at e
   cases q:rs[i]? with
   | none=>rw[q] at e;cases e
   | some r'=>
     rw[q] at e;have e':r'=r:=Zl (Zl e);subst e';obtain⟨v,hv,hh⟩:=h.get q;refine⟨v,?_,?_⟩
     .unfold L2.start;rw[QW (by rw[Qb,hl];exact hi),Qs,hv];rfl
     .rcases hh with ⟨d,rfl,hd⟩|⟨f,ds,rfl,a,xs,e1,nm,q1,z⟩|⟨rfl,hd⟩|⟨T,rfl,W,hw,z⟩
      .exact hd.weak λa u=>⟨u,λj z=>z⟩
      .exact⟨a,xs,e1,⟨nm,λ_ z=>z⟩,q1,z.weak λa u=>⟨u,λj z=>z⟩⟩
      .exact hd
      .exact⟨W,λb w=>⟨⟨(hw b w).1,λ_ z=>z⟩,(hw b w).2⟩,T.to (λb u f q=>⟨⟨f,λ_ z=>z⟩,q⟩) (λb u w q=>⟨w,q⟩) (TupStay.refl _) z⟩
  .rw[Z1 (by simpa using hi),Zz] at e
   split at e <;> cases e
 .unfold zb0 L2.start;rw[Qf,Qf,Qb,Qb,QU,QU,hl]
theorem z5l(h:SD K O t g)(ok:O.Ok)(p:O.P H)(ia:Args K O H vs rs)
 (hg:g { nx:=λ_=>Qr (.o .none),rt:=Qr } (zb0 N rs)) (hQ:∀r,Qr r->∀v H',Stp O H H'->Out K O H H' v r->Q v H'):t { nx:=λ_ H'=>Q .non H',rt:=Q } (L2.start N vs) H :=
 h H _ _ H _ _ _ (zre ok p ia) hg ⟨λA' σ' H' ρ' r' _ q=>hQ _ q .non H' r'.st Is.none,λA' σ' H' ρ' r' _ q=>q.elim,λA' σ' H' ρ' r' _ q=>q.elim,λH' v r s o q=>hQ r q v H' s o⟩
end
def AG3{ι κ:Type}(K:Qa)(X:ι->Cx)(O:κ->Ob)(es:List Expr)(f:DGA):Prop:=∃t,(∀i,PA (X i) es t)/\∀j,AG K (O j) t f
section
variable {ι κ:Type}{P:Uy}{w:U0}{K:Qa}{mg:Str->Option Ut}{base:Heap}{k:Nat}{X:ι->Cx}{O:κ->Ob}{a:Expr}{es:List Expr}{fa:DE}{ga:DGA}{pos p:Pos}
theorem zro:AG3 K X O [] zwv:=⟨tNil,λi=>zbk,λj=>z3g⟩
theorem g_im(ha:E3 K X O a fa)(hs:AG3 K X O es ga)(he:∀i,Uw (a::es) (X i).env=(false,eval a (X i).env)::Uw es (X i).env:=by intro i;rfl):AG3 K X O (a::es) (gImA fa ga):=let ⟨_,p1,d1⟩:=ha;let ⟨_,p2,d2⟩:=hs;⟨_,λi=>zaw (p1 i) (p2 i) (he i),λj=>z6m (d1 j) (d2 j)⟩
theorem zkf{k' n:Nat}(C:Ctx3 P w K mg base k X)(D:Def3 P w K mg base k' x ps (spG K φ n F))(hφ:∀j,φ (O j))(ha:AG3 K X O (a::es) ga)(hk:k'<=k:=by decide)(hg:∀i,Gl (X i) x:=by intro i;rfl)
 (hdb:(x == ("__debug__" : Str))=false:=by decide) (he:∀i,Uw (a::es) (X i).env=(false,eval a (X i).env)::Uw es (X i).env:=by intro i;rfl) (hpl:∀i,(UD pos (Uw es (X i).env)).any (·.1)=false:=by intro i;rfl):E3 K X O (.Call (.Name x p) (a::es) [] pos) (calG n F ga):=by
 obtain⟨f,fd,G,m,kp,bn⟩:=D.ex;obtain⟨t,q,d⟩:=ha;refine⟨zcf (spG K φ n F) [] E0 t,λi=>?_,λj=>zuq (hφ j) (d j)⟩;have G':FnOk (X i).prog (X i).w (X i).K (X i).mg (X i).base CX0 k f fd ps (spG K φ n F):=by rw[C.hP,C.hw,C.hK,C.hmg,C.hb];exact G.mono hk
 exact zfq G' (C.room i) (hg i) (by rw[C.hmg];exact m) (by rw[C.hK];exact kp) (by rw[C.hK];exact bn) .nil zim (q i) hdb (he i) (hpl i)
end
section
variable {P:Uy}{w:U0}{K:Qa}{mg:Str->Option Ut}{base:Heap}{k n:Nat}{x:Str}{st:Stmt}{N ps:List Str}{φ:Ob->Prop}{F:List DV->(R->Prop)->Prop}
theorem mk_G(T:Top3 K mg x st)(S:FnScope N ps (zah st))(hb:∀(kV doc pm:Ut) (an:Option Addr) (cdv ct:Ut) (us:List Ut),us.length=ps.length->UK (Zq x x (zb8 st) (zbi st) (zah st) .none kV doc pm an cdv ct) ⟨us,[]⟩=pure (ps.zip us))(hn:ps.length=n)
 (body:∀(f:Addr) (cdv:Ut) (A:U9) (outer:List Env) (s:Ux) (H:Hp) (E:XK) (O:Ob),φ O->Ctx3 P w K mg base k (zc2 P w K mg base N x (zah st) f cdv A outer s H E) ->
  ∃g,Ss3 K (zc2 P w K mg base N x (zah st) f cdv A outer s H E) (λ_:Unit=>O) (zbi st) g/\∀rs Qr,rs.length=n->F rs Qr->g { nx:=λ_=>Qr (.o .none),rt:=Qr } (zb0 N rs)):Def3 P w K mg base (k+1) x ps (spG K φ n F):=by
 obtain⟨f,fd,Fu,m⟩:=T.ex;refine⟨f,fd,Fu.ok S (zzo hn) (λcdv A outer s H vs Q E hr h=>?_),m,Fu.kp,Fu.binds hb⟩;obtain⟨O,rs,Qr,ok,hφ,p,hl,is,q,kk⟩:=h;obtain⟨g,⟨t,h1,h2⟩,h3⟩:=body f cdv A outer s H E O hφ (zgf hr);exact⟨t,h1 (),z5l (h2 ()) ok p is (h3 rs Qr hl q) kk⟩
end
section
variable {ι κ:Type}{K:Qa}{X:ι->Cx}{O:κ->Ob}
theorem zly(ha:E3 K X O a fa)(hb:E3 K X O b fb)(hc:E3 K X O c fc)(hm:GY [.LtE,.Lt] [b,c]=false:=by with_unfolding_all rfl):T3 K X O (.Compare a [.LtE,.Lt] [b,c] pos) (bD (chD (fn2 (intF λi j=>.bool (decide (i<=j)))) (fn2 (intF λi j=>.bool (decide (i<j)))) fa fb fc)) :=
 let ⟨_,p1,d1⟩:=ha;let ⟨_,p2,d2⟩:=hb;let ⟨_,p3,d3⟩:=hc;⟨_,λi=>zuu zws zqm (p1 i) (p2 i) (p3 i) hm,λj=>zuj (zmi zud zmy (d1 j) (d2 j) (d3 j))⟩
end
mutual
inductive Ow(K:Qa)(H:Hp):V->Uu->List Addr->Prop
 | leaf {v d}:flat d=true->Is K (λ_=>False) H v d->Ow K H v d []
 | list {a xs ds as}:H a=some (.lst xs)->OwAll K H xs ds as->Ow K H (.ref a) (.list ds) (a::as)
 | tuple {a xs ds as}:H a=some (.tup xs)->OwAll K H xs ds as->Ow K H (.ref a) (.tuple ds) as
inductive OwAll(K:Qa)(H:Hp):List V->List Uu->List Addr->Prop
 | nil:OwAll K H [] [] []
 | cons {v vs d ds as bs}:Ow K H v d as->OwAll K H vs ds bs->OwAll K H (v::vs) (d::ds) (as++bs)
end
section
variable {prog:Uy}{w:U0}{A:U9}{E:Ut->Ux->Prop}{s:Ux}
theorem zo9{i:Nat}(st:s.heap.IsTupleIter it t i)(tp:s.heap.IsTuple t zs)(hv:zs[i]? = some x)(k:∀h',h'.IsTupleIter it t (i+1)->Z6 it s.heap h'->Q x { s with heap:=h' }):
 wpAny (model prog w) A (QJ (.ref it)) Q E s:=by
 obtain⟨o,eo,co,dv⟩:=id st;obtain⟨u,eu,_,m,du⟩:=tp;unfold QJ;refine Us (U8 (name:=QH "__next__") st.typeIs ZY (UH ZY st.typeIs Yi ?_ (Ya _)));refine Us (m:=GK (.ref it) 0) (U1 eo dv (x:=.ref t) rfl ?_);have ne:¬((Q9 t == Zr)=true):=Qo;show wpAny _ _ (if(Q9 t == Zr)=true then _ else _) _ _ s;rw[TB ne];refine Us (m:=GK (.ref it) 1) (U1 eo dv (x:=.int i 0) rfl ?_);refine Us (m:=seqItems? (.ref t)) (UR eu du ?_);simp only[ZI,hv];refine Us (UX eo dv (by simp) (Uv ⟨x,rfl,Uv (k _ ⟨_,QM _ eo (ZZ (Jr dv _)),(Vw ..).trans co,?_⟩ (Vb ..))⟩));rw[Jr dv];simp[rawInt]
theorem zoh(hh:A.in1.handled=none)(k:∀h' e,(∀c o,s.heap.get? c=some o->h'.get? c=some o)->(∃o,h'.get? e=some o/\o.cls = .type "StopIteration")->E (.ref e) { s with heap:=h' }):
 wpAny (model prog w) A.in1 (newExc (.type "StopIteration") []) (λa s'=>wpAny (model prog w) A.in1 (raiseNew a) Q E s') E s:=by
 simp only[newExc,newTuple];refine Us (UB ?_ (by size_fits));refine Us (m:=firstArgMember _ _) (wpAny_of_eq (a:=Zr) (by simp only[firstArgMember];rfl) (UB ?_ (by size_fits)));simp only[raiseNew];refine Us (wpAny_handled ?_);rw[hh];exact Us (Uv (Tv (k _ _ (λc o e=>Qc _ (Qc _ e)) ⟨_,Qt _ rfl,rfl⟩)))
theorem zr0{i:Nat}(hh:A.handled=none)(st:s.heap.IsTupleIter it t i)(tp:s.heap.IsTuple t zs)(hv:zs[i]? = none)
 (k:∀h' e,Heap.ExtBut it s.heap h'->(∃o,h'.get? e=some o/\o.cls = .type "StopIteration")->E (.ref e) { s with heap:=h' }):wpAny (model prog w) A (QJ (.ref it)) Q E s:=by
 obtain⟨o,eo,co,dv⟩:=id st;obtain⟨u,eu,_,m,du⟩:=tp;unfold QJ;refine Us (U8 (name:=QH "__next__") st.typeIs ZY (UH ZY st.typeIs Yi ?_ (Ya _)));refine Us (m:=GK (.ref it) 0) (U1 eo dv (x:=.ref t) rfl ?_);have ne:¬((Q9 t == Zr)=true):=Qo;show wpAny _ _ (if(Q9 t == Zr)=true then _ else _) _ _ s;rw[TB ne];refine Us (m:=GK (.ref it) 1) (U1 eo dv (x:=.int i 0) rfl ?_);refine Us (m:=seqItems? (.ref t)) (UR eu du ?_);simp only[ZI,hv];refine Us (G9 (Us (UX eo dv (by simp) ?_)));refine Us (zoh hh λh' e up ex=>?_);exact k h' e (λc o' cn q=>up c o' ((Vb ..).extBut c o' cn q)) ex
def SIt:Bool->Heap->Addr->Addr->Nat->Prop
 | true,h,it,l,k=>h.IsListIter it l k
 | false,h,it,l,k=>h.IsTupleIter it l k
def SSq:Bool->Heap->Addr->Array Ut->Prop
 | true,h,l,xs=>h.IsList l xs
 | false,h,l,xs=>h.IsTuple l xs
theorem SIt.at{b:Bool}{h:Heap}{k:Nat}(S:SIt b h it l k)(up:∀o,h.get? it=some o->h'.get? it=some o):SIt b h' it l k:=by
 cases b
 .exact Heap.IsTupleIter.at S up
 .exact Heap.IsListIter.at S up
theorem SSq.at{b:Bool}{h:Heap}(S:SSq b h l xs)(up:∀o,h.get? l=some o->h'.get? l=some o):SSq b h' l xs:=by
 cases b
 .exact Heap.IsTuple.at S up
 .exact Heap.IsList.at S up
theorem SIt.obj{b:Bool}{h:Heap}{k:Nat}(S:SIt b h it l k):∃o,h.get? it=some o/\o.data = .fields #[.ref l,.int k 0]:=by
 cases b
 .obtain⟨o,e,_,f⟩:=S;exact⟨o,e,f⟩
 .obtain⟨o,e,_,f⟩:=S;exact⟨o,e,f⟩
theorem zjz{b:Bool}{i:Nat}(st:SIt b s.heap it t i)(tp:SSq b s.heap t zs)(hv:zs[i]? = some x)(k:∀h',SIt b h' it t (i+1)->Z6 it s.heap h'->Q x { s with heap:=h' }):
 wpAny (model prog w) A (QJ (.ref it)) Q E s:=by
 cases b
 .exact zo9 st tp hv k
 .exact wpAny_nextOf_list_item st tp hv k
theorem ztf{b:Bool}{i:Nat}(hh:A.handled=none)(st:SIt b s.heap it t i)(tp:SSq b s.heap t zs)(hv:zs[i]? = none)
 (k:∀h' e,Heap.ExtBut it s.heap h'->(∃o,h'.get? e=some o/\o.cls = .type "StopIteration")->E (.ref e) { s with heap:=h' }):wpAny (model prog w) A (QJ (.ref it)) Q E s:=by
 cases b
 .exact zr0 hh st tp hv k
 .exact wpAny_nextOf_list_end hh st tp hv k
structure ZS(b1 b2:Bool)(h:Heap)(z p r i1 i2 l1 l2:Addr)(k:Nat)(xs ys:Array Ut)(out:Ut):Prop where
 zz:Tq h z p r out
 pp:Gy h p (.ref i1) (.ref i2)
 rr:∃a b,Gy h r a b
 a1:SIt b1 h i1 l1 k
 a2:SIt b2 h i2 l2 k
 t1:SSq b1 h l1 xs
 t2:SSq b2 h l2 ys
theorem z0t{b1 b2:Bool}{z p r i1 i2 l1 l2:Addr}{k:Nat}{xs ys:Array Ut}{x y:Ut}{Q:Ut->Ux->Prop}(D:GT z p r i1 i2 l1 l2)(S:ZS b1 b2 s.heap z p r i1 i2 l1 l2 k xs ys .none)(hx:xs[k]? = some x)(hy:ys[k]? = some y)
 (q:∀h',ZS b1 b2 h' z p r i1 i2 l1 l2 (k+1) xs ys (rawInt s.heap.objs.size)->Gy h' s.heap.objs.size x y->(∀c o,c≠z->c≠r->c≠i1->c≠i2->s.heap.get? c=some o->h'.get? c=some o)->Q (.ref s.heap.objs.size) { s with heap:=h' }) :
 wpAny (model prog w) A (Builtin.«zip.__next__» ⟨[.ref z],[]⟩) (λfin s'=>∃v,fin = .done (.ret v)/\Q v s') E s:=by
 obtain⟨Z,P,⟨a,b,R⟩,A1,A2,T1,T2⟩:=S;refine Us (m:=GK (.ref z) 2) (U1 Z rfl (x:=.bool false) rfl ?_);refine Us (m:=GK (.ref z) 3) (U1 Z rfl (x:=.ref p) rfl (Us (UR P rfl ?_)));refine Us (m:=Zh (.ref z)) ?_;unfold Zh;refine Us (U1 Z rfl (x:=.none) rfl (Uv ?_));simp only[TL];refine Us (G9 (Us (U1 Z rfl (x:=.ref r) rfl (Us (U7 Z (by simp) λha Za sa=>?_)))))
 replace Za:Tq ha z p r .ellipsis:=Za
 refine Us ?_;simp only[VJ,VU,JG,JO];have A1a:=A1.at λo e=>sa.extBut _ o D.i1z e;have A2a:=A2.at λo e=>sa.extBut _ o D.i2z e;refine Us (Us (Gv (Us (m:=QJ (.ref i1)) (zjz A1a (T1.at λo e=>sa.extBut _ o D.l1z e) hx λhb A1b sb=>Uv ?_))));have Rb:Gy hb r a b:=sb.extBut _ _ D.TOi1 (sa.extBut _ _ D.TOz R);refine Us (UR Rb rfl (Us (Gx Rb λhc Rc sc=>?_)))
 replace Rc:Gy hc r x b:=Rc
 refine Us (GX (Uv ?_));have A2c:=(A2a.at λo e=>sb.extBut _ o D.i12.symm e).at λo e=>sc.extBut _ o D.TOi2.symm e;have T2c:=((T2.at λo e=>sa.extBut _ o D.l2z e).at λo e=>sb.extBut _ o D.l2i1 e).at λo e=>sc.extBut _ o D.l2TO e;refine Us (Us (Gv (Us (m:=QJ (.ref i2)) (zjz A2c T2c hy λhd A2d sd=>Uv ?_))));have Rd:Gy hd r x b:=sd.extBut _ _ D.TOi2 Rc;refine Us (UR Rd rfl (Us (Gx Rd λhe Re se=>?_)))
 replace Re:Gy he r x y:=Re
 refine Us (GX (Uv (Uv (Us (UR Re rfl (Us (wpAny_newTuple ?_)))))));have sz5:he.objs.size=s.heap.objs.size:=by rw[se.1,sd.1,sc.1,sb.1,sa.1]
 have up:∀c o,c≠z->c≠r->c≠i1->c≠i2->s.heap.get? c=some o->he.get? c=some o:=λc o n1 n2 n3 n4 e=>se.extBut _ _ n2 (sd.extBut _ _ n4 (sc.extBut _ _ n2 (sb.extBut _ _ n3 (sa.extBut _ _ n1 e))));have Ze:Tq he z p r .ellipsis:=se.extBut _ _ D.TOz.symm (sd.extBut _ _ D.i2z.symm (sc.extBut _ _ D.TOz.symm (sb.extBut _ _ D.i1z.symm Za)));refine Us (m:=Z5 (.ref z) (.ref he.objs.size)) ?_;unfold Z5;have zl:=Qg Ze;refine Us (U7 (Qc _ Ze) (by simp) λhf Zf sf=>?_)
 replace Zf:Tq hf z p r (rawInt he.objs.size):=Zf
 refine U7 Zf (by simp) λhg Zg sg=>Uv ⟨_,rfl,?_⟩;have top:∀c o,c≠z->he.get? c=some o->hg.get? c=some o:=λc o n e=>sg.extBut _ _ n (sf.extBut _ _ n (Qc _ e));have pr:Gy hg he.objs.size x y:=sg.extBut _ _ (JM zl) (sf.extBut _ _ (JM zl) (Qt _ rfl));show Q (.ref he.objs.size) _;rw[sz5] at pr Zg ⊢;refine q hg ⟨Zg,top _ _ D.TIz (up _ _ D.TIz D.TITO D.TIi1 D.TIi2 P),⟨x,y,top _ _ D.TOz Re⟩,?_,?_,T1.at λo e=>top _ o D.l1z (up _ o D.l1z D.l1TO D.l1i1 D.l1i2 e),T2.at λo e=>top _ o D.l2z (up _ o D.l2z D.l2TO D.l2i1 D.l2i2 e)⟩ pr λc o n1 n2 n3 n4 e=>top c o n1 (up c o n1 n2 n3 n4 e)
 .exact(((A1b.at λo e=>sc.extBut _ o D.TOi1.symm e).at λo e=>sd.extBut _ o D.i12 e).at λo e=>se.extBut _ o D.TOi1.symm e).at λo e=>top _ o D.i1z e
 .exact(A2d.at λo e=>se.extBut _ o D.TOi2.symm e).at λo e=>top _ o D.i2z e
theorem z3r{b1 b2:Bool}{k:Nat}(hh:A.handled=none)(D:GT z p r i1 i2 l1 l2)(S:ZS b1 b2 s.heap z p r i1 i2 l1 l2 k xs ys .none)(he:xs[k]? = none\/ys[k]? = none)
 (q:∀h' e,(∀c o,c≠z->c≠r->c≠i1->c≠i2->s.heap.get? c=some o->h'.get? c=some o)->(∃o,h'.get? e=some o/\o.cls = .type "StopIteration")->E (.ref e) { s with heap:=h' }) :
 wpAny (model prog w) A (Builtin.«zip.__next__» ⟨[.ref z],[]⟩) Q E s:=by
 obtain⟨Z,P,⟨a,b,R⟩,A1,A2,T1,T2⟩:=S;refine Us (m:=GK (.ref z) 2) (U1 Z rfl (x:=.bool false) rfl ?_);refine Us (m:=GK (.ref z) 3) (U1 Z rfl (x:=.ref p) rfl (Us (UR P rfl ?_)));refine Us (m:=Zh (.ref z)) ?_;unfold Zh;refine Us (U1 Z rfl (x:=.none) rfl (Uv ?_));simp only[TL];refine Us (G9 (Us (U1 Z rfl (x:=.ref r) rfl (Us (U7 Z (by simp) λha Za sa=>?_)))))
 replace Za:Tq ha z p r .ellipsis:=Za
 refine Us ?_;simp only[VJ,VU,JG,JO];have A1a:=A1.at λo e=>sa.extBut _ o D.i1z e;have A2a:=A2.at λo e=>sa.extBut _ o D.i2z e;have T1a:=T1.at λo e=>sa.extBut _ o D.l1z e;have off:∀{hc:Heap} {e:Addr} {oe:Obj},Tq hc z p r .ellipsis->hc.get? e=some oe->oe.cls = .type "StopIteration" -> e≠z:=λZc g c x=>by subst x;rw[Zc] at g;cases g;simp at c
 cases hx:xs[k]? with
 | none=>
   refine Us (Us (Gv (Us (m:=QJ (.ref i1)) (ztf hh A1a T1a hx λhb e sb zz=>?_))));obtain⟨oe,ge,ce⟩:=zz;have Zb:Tq hb z p r .ellipsis:=sb _ _ D.i1z.symm Za;exact U7 Zb (by simp) λhc _ sc=>q hc e (λc o n1 _ n3 _ g=>sc.extBut _ _ n1 (sb _ _ n3 (sa.extBut _ _ n1 g))) ⟨oe,sc.extBut _ _ (off Zb ge ce) ge,ce⟩
 | some x=>
   have hy:ys[k]? = none:=he.resolve_left λz=>by rw[hx] at z;cases z
   refine Us (Us (Gv (Us (m:=QJ (.ref i1)) (zjz A1a T1a hx λhb A1b sb=>Uv ?_))));have Rb:Gy hb r a b:=sb.extBut _ _ D.TOi1 (sa.extBut _ _ D.TOz R);refine Us (UR Rb rfl (Us (Gx Rb λhc Rc sc=>?_)));refine Us (GX (Uv ?_));have A2c:=(A2a.at λo e=>sb.extBut _ o D.i12.symm e).at λo e=>sc.extBut _ o D.TOi2.symm e;have T2c:=((T2.at λo e=>sa.extBut _ o D.l2z e).at λo e=>sb.extBut _ o D.l2i1 e).at λo e=>sc.extBut _ o D.l2TO e;refine Us (Us (Gv (Us (m:=QJ (.ref i2)) (ztf hh A2c T2c hy λhd e sd zz=>?_))));obtain⟨oe,ge,ce⟩:=zz;have Zd:Tq hd z p r .ellipsis:=sd _ _ D.i2z.symm (sc.extBut _ _ D.TOz.symm (sb.extBut _ _ D.i1z.symm Za));exact U7 Zd (by simp) λhf _ sf=>q hf e (λc o n1 n2 n3 n4 g=>sf.extBut _ _ n1 (sd _ _ n4 (sc.extBut _ _ n2 (sb.extBut _ _ n3 (sa.extBut _ _ n1 g))))) ⟨oe,sf.extBut _ _ (off Zd ge ce) ge,ce⟩
theorem z0b{b1 b2:Bool}{k:Nat}(D:GT z p r i1 i2 l1 l2)(S:ZS b1 b2 s.heap z p r i1 i2 l1 l2 k xs ys .none)(hx:xs[k]? = some x)(hy:ys[k]? = some y)
 (q:∀h',ZS b1 b2 h' z p r i1 i2 l1 l2 (k+1) xs ys (rawInt s.heap.objs.size)->Gy h' s.heap.objs.size x y->(∀c o,c≠z->c≠r->c≠i1->c≠i2->s.heap.get? c=some o->h'.get? c=some o)->Q (some (.ref s.heap.objs.size)) { s with heap:=h' }):wpAny (model prog w) A (GB (.ref z)) Q E s:=by
 have T:s.TypeIs (.ref z) "zip" := ⟨_,S.zz,rfl⟩;unfold GB;exact Us (Gk (U8 (name:=QH "__next__") T Yb (UH Yb T VL (z0t D S hx hy λh' a b c=>Uv (q h' a b c)) (V4 _))))
theorem zz9{b1 b2:Bool}{k:Nat}(hh:A.handled=none)(D:GT z p r i1 i2 l1 l2)(S:ZS b1 b2 s.heap z p r i1 i2 l1 l2 k xs ys .none)(he:xs[k]? = none\/ys[k]? = none)
 (q:∀h',(∀c o,c≠z->c≠r->c≠i1->c≠i2->s.heap.get? c=some o->h'.get? c=some o)->Q none { s with heap:=h' }):wpAny (model prog w) A (GB (.ref z)) Q E s:=by
 have T:s.TypeIs (.ref z) "zip" := ⟨_,S.zz,rfl⟩;unfold GB;refine Us (Gk (U8 (name:=QH "__next__") T Yb (UH Yb T VL (z3r hh D S he λh' e up ⟨o,g,c⟩=>?_) (V4 _))));exact Us (GD (T := "StopIteration") (b:=true) ⟨o,g,c⟩ isSubtype_stop (Uv (q _ up)))
def itN:Bool->String
 | true=> "list_iterator"
 | false=> "tuple_iterator"
abbrev zq1(b1:Bool)(h:Heap)(l1:Addr):Heap:=h.push { cls:=.type (itN b1),data:=.fields #[.ref l1,.int 0 0] }
abbrev zq2(b1 b2:Bool)(h:Heap)(l1 l2:Addr):Heap:=(zq1 b1 h l1).push { cls:=.type (itN b2),data:=.fields #[.ref l2,.int 0 0] }
abbrev zq3(b1 b2:Bool)(h:Heap)(l1 l2:Addr):Heap:=(zq2 b1 b2 h l1 l2).push { cls:=.type "tuple",data:=.seq #[.ref h.objs.size,.ref (zq1 b1 h l1).objs.size] }
abbrev zq4(b1 b2:Bool)(h:Heap)(l1 l2:Addr):Heap:=(zq3 b1 b2 h l1 l2).push { cls:=.type "tuple",data:=.seq #[.none,.none] }
abbrev zq5(b1 b2:Bool)(h:Heap)(l1 l2:Addr):Heap:=(zq4 b1 b2 h l1 l2).push { cls:=.type "zip",data:=.fields #[.none,.bool false,.bool false,.ref (zq2 b1 b2 h l1 l2).objs.size,.ref (zq3 b1 b2 h l1 l2).objs.size] }
theorem zx8(b1 b2:Bool)(l1 l2:Addr)(xs ys:Array Ut):Meets (Builtin.«zip.__new__» ⟨[.type "zip",.ref l1,.ref l2],[]⟩) (λ_ R s=>SSq b1 s.heap l1 xs/\SSq b2 s.heap l2 ys/\R (.ok (.ret (.ref (zq4 b1 b2 s.heap l1 l2).objs.size))) { s with heap:=zq5 b1 b2 s.heap l1 l2 }) :=
 .of_wp λprog w A R s h=>by
  obtain⟨hp,g,d,tk,os⟩:=s;obtain⟨a1,a2,q⟩:=h;have sub:=sub_zip;have a3:SSq b2 (J2 ⟨zq1 b1 hp l1,g,d,tk,os⟩) l2 ys:=a2.at λo e=>Qc _ e;cases b1
  .replace a1:YC (J2 ⟨hp,g,d,tk,os⟩) l1 xs:=a1
   cases b2
   .replace a3:YC (J2 ⟨hp.push { cls:=.type "tuple_iterator",data:=.fields #[.ref l1,.int 0 0] },g,d,tk,os⟩) l2 ys:=a3
    wp_walk using UI a1,UI a3
    exact⟨_,rfl,q⟩
   .replace a3:VP (J2 ⟨hp.push { cls:=.type "tuple_iterator",data:=.fields #[.ref l1,.int 0 0] },g,d,tk,os⟩) l2 ys:=a3
    wp_walk using UI a1,UT a3
    exact⟨_,rfl,q⟩
  .replace a1:VP (J2 ⟨hp,g,d,tk,os⟩) l1 xs:=a1
   cases b2
   .replace a3:YC (J2 ⟨hp.push { cls:=.type "list_iterator",data:=.fields #[.ref l1,.int 0 0] },g,d,tk,os⟩) l2 ys:=a3
    wp_walk using UT a1,UI a3
    exact⟨_,rfl,q⟩
   .replace a3:VP (J2 ⟨hp.push { cls:=.type "list_iterator",data:=.fields #[.ref l1,.int 0 0] },g,d,tk,os⟩) l2 ys:=a3
    wp_walk using UT a1,UT a3
    exact⟨_,rfl,q⟩
theorem zyx{b1 b2:Bool}(h1:SSq b1 s.heap l1 xs)(h2:SSq b2 s.heap l2 ys)
 (q:∀h',ZS b1 b2 h' (s.heap.objs.size+4) (s.heap.objs.size+2) (s.heap.objs.size+3) s.heap.objs.size (s.heap.objs.size+1) l1 l2 0 xs ys .none->(∀c o,s.heap.get? c=some o->h'.get? c=some o)->Q (.ref (s.heap.objs.size+4)) { s with heap:=h' }):wpAny (model prog w) A (call (.type "zip") [.ref l1,.ref l2]) Q E s:=by
 refine callType_new F.called_zip (by decide) (F.typeCall_zip_2 _ _) (F.newCall_zip_2 _ _) (λobj=>F.args_object_init_3 obj _ _) F.entry_zip_new (zx8 b1 b2 l1 l2 xs ys) ⟨h1,h2,?_⟩;have n1:(zq1 b1 s.heap l1).objs.size=s.heap.objs.size+1:=Zi ..;have n2:(zq2 b1 b2 s.heap l1 l2).objs.size=s.heap.objs.size+2:=by rw[Zi,n1]
 have n3:(zq3 b1 b2 s.heap l1 l2).objs.size=s.heap.objs.size+3:=by rw[Zi,n2]
 have n4:(zq4 b1 b2 s.heap l1 l2).objs.size=s.heap.objs.size+4:=by rw[Zi,n3]
 have up:∀{h:Heap} {c:Addr} {o o':Obj},h.get? c=some o->(h.push o').get? c=some o:=λe=>Qc _ e;have e5:(zq5 b1 b2 s.heap l1 l2).get? (zq4 b1 b2 s.heap l1 l2).objs.size=some _:=Qt _ rfl;have e4:(zq5 b1 b2 s.heap l1 l2).get? (zq3 b1 b2 s.heap l1 l2).objs.size=some _:=up (Qt _ rfl);have e3:(zq5 b1 b2 s.heap l1 l2).get? (zq2 b1 b2 s.heap l1 l2).objs.size=some _:=up (up (Qt _ rfl));have e2:(zq5 b1 b2 s.heap l1 l2).get? (zq1 b1 s.heap l1).objs.size=some _:=up (up (up (Qt _ rfl)));have e1:(zq5 b1 b2 s.heap l1 l2).get? s.heap.objs.size=some _:=up (up (up (up (Qt _ rfl))));have all:∀c o,s.heap.get? c=some o->(zq5 b1 b2 s.heap l1 l2).get? c=some o:=λc o e=>up (up (up (up (up e))));show _/\_;rw[n2,n3,n4] at e5;rw[n1,n2] at e3;rw[n3] at e4;rw[n1] at e2;rw[n4];exact⟨⟨_,e5,rfl⟩,q _ ⟨e5,e3,⟨_,_,e4⟩,(by cases b1 <;> exact⟨_,e1,rfl,rfl⟩),(by cases b2 <;> exact⟨_,e2,rfl,rfl⟩),h1.at λo e=>all _ o e,h2.at λo e=>all _ o e⟩ all⟩
theorem zvc(n l1 l2:Nat)(h1:l1<n)(h2:l2<n):GT (n+4) (n+2) (n+3) n (n+1) l1 l2:=by
 have ne:∀{a b:Nat},a<b\/b<a->(a:Addr)≠b:=λh e=>by rcases h with h|h <;> exact Zj _ (e ▸ h)
 constructor <;> (refine ne ?_;lia)
end
section
variable {X:Cx}{pins:List (Addr×Obj)}{σ:L2.St}{H:Hp}{s:Ux}{h':Heap}{t':Nat}
theorem zkz{fp:List Addr}(I:Inv X pins σ H s)(hf:∀b∈fp,FpOk X pins H b)(k:∀b o,b ∉ fp->s.heap.get? b=some o->h'.get? b=some o):Inv X pins σ H { s with heap:=h',toks:=t' }:=by
 have nit:∀b u,H b=some u->b ∉ fp:=λb u e z=>by rw[(hf b z).1] at e;cases e
 refine I.step (g':=s.gens) (d':=s.drawn) (ch:=fp) (λb hb=>let ⟨_,a,_,b,c,d⟩:=hf b hb;⟨b,a,c,d⟩) (λb o _ _ hc e _=>k b o hc e) (λb o _ _ hc e _=>⟨o.slots,k b o hc e⟩) (λ_ _ _ _ n=>n) (λb o hc e=>⟨o,k b o hc e⟩) (λ_ _ e=>e) (λ_ _ _ e=>e) (λb ps e=>⟨#[],by rw[e];simp⟩)
  (λm ⟨o,es,ep,ho,r⟩=>⟨o,es,ep,k _ o (λz=>(hf _ z).2.1 rfl) ho,r⟩) (λb u e=>(I.hok b u e).stay (λc v hc q=>k c v ?_ q) (λ_ q=>q) λ_ _ q=>q) I.bare
 rcases hc with z|z
 .rw[z];exact nit b u e
 .exact nit c _ z
theorem zkq{fp:List Addr}{a:Addr}{o:HO}(I:Inv X pins σ H s)(hf:∀b∈fp,FpOk X pins H b)(k:∀b o,b ∉ fp->s.heap.get? b=some o->h'.get? b=some o)(hp:s.heap.objs.size<=a)(new:ObjOk X.prog X.w (upd H a o) h' a o):Inv X pins σ (upd H a o) { s with heap:=h',toks:=t' }:=by
 have nit:∀b u,H b=some u->b ∉ fp:=λb u e z=>by rw[(hf b z).1] at e;cases e
 have hn:=I.hok.fresh hp;have na:∀b u,H b=some u->b≠a:=λb u e z=>by rw[z,hn] at e;cases e
 have nb:∀b (o:Obj),s.heap.get? b=some o->b≠a:=λb o e z=>Zj _ (Q7 (Qg e) (z ▸ hp))
 refine I.step (g':=s.gens) (d':=s.drawn) (ch:=fp) (λb hb=>let ⟨_,a,_,b,c,d⟩:=hf b hb;⟨b,a,c,d⟩) (λb o _ _ hc e _=>k b o hc e) (λb o _ _ hc e _=>⟨o.slots,k b o hc e⟩) (λb o _ e n=>by rw[zae (nb b o e)];exact n) (λb o hc e=>⟨o,k b o hc e⟩) (λb _ e=>by rw[zae (na b _ e)];exact e) (λb _ _ e=>by rw[zae (na b _ e)];exact e) (λb ps e=>⟨#[],by rw[zae (na b _ e),e];simp⟩)
  (λm ⟨o,es,ep,ho,r⟩=>⟨o,es,ep,k _ o (λz=>(hf _ z).2.1 rfl) ho,r⟩) (λb u e=>?_) I.bare
 by_cases hb:b=a
 .subst hb;rw[zaj] at e;cases e;exact new
 .rw[zae hb] at e;refine(I.hok b u e).stay (λc v hc q=>k c v ?_ q) (λc q=>by rw[zae (na c _ q)];exact q) λc xs q=>by rw[zae (na c _ q)];exact q
  rcases hc with z|z
  .rw[z];exact nit b u e
  .exact nit c _ z
end
def SqS(K:Qa):Bool->Hp->Addr->List V->Prop
 | true,H,l,ys=>SqL K H l ys
 | false,H,l,ys=>SqT K H l ys
theorem Inv.sqs{pins:List (Addr×Obj)}{b:Bool}(I:Inv X pins σ H s)(h:SqS X.K b H l ys):∃vs:List Ut,Vals ys vs/\SSq b s.heap l vs.toArray/\ys.length<=sizeLine:=by
 cases b
 .obtain⟨vs,r,t,z⟩:=I.tuple h;exact⟨vs,r,t,z⟩
 .obtain⟨vs,r,t,z⟩:=I.list h;exact⟨vs,r,t.isList,z⟩
theorem Inv.sqs_inj{pins:List (Addr×Obj)}{b:Bool}(I:Inv X pins σ H s)(h:SqS X.K b H l xs)(h':SqS X.K b H l ys):xs=ys:=by
 cases b
 .exact I.tuple_inj h h'
 .exact I.list_inj h h'
def Itz(K:Qa)(b2:Bool)(l1 l2:Addr):It :=
 ⟨λi H=>∃xs ys x y,SqT K H l1 xs/\SqS K b2 H l2 ys/\xs[i]? = some x/\ys[i]? = some y,
  λi H x H'=>∃a u v,H a=none/\(∀xs,SqT K H l1 xs->xs[i]? = some u)/\(∀ys,SqS K b2 H l2 ys->ys[i]? = some v)/\x = .ref a/\H'=upd H a (.tup [u,v]),
  λi H=>∃xs ys,SqT K H l1 xs/\SqS K b2 H l2 ys/\(xs.length<=i\/ys.length<=i)⟩
structure ZO(b2:Bool)(h:Heap)(z p r i1 i2 l1 l2:Addr)(k:Nat):Prop where
 zz:Tq h z p r .none
 pp:Gy h p (.ref i1) (.ref i2)
 rr:∃a b,Gy h r a b
 a1:h.IsTupleIter i1 l1 k
 a2:SIt b2 h i2 l2 k
theorem zuz{P:Uy}{w:U0}{K:Qa}{elts:List Expr}{x1:Nat}{pos:Pos}(b2:Bool)(z p r i1 i2 l1 l2:Addr)(D:GT z p r i1 i2 l1 l2):
 Turn P w K (.Tuple elts x1 pos) (Itz K b2 l1 l2) [z,p,r,i1,i2] z (λi h=>ZO b2 h z p r i1 i2 l1 l2 i) where
 mem:=by simp
 obj:=λi h st b hb=>by
  obtain⟨a,c,⟨u,v,d⟩,⟨o1,e1,_,f1⟩,a2⟩:=st;obtain⟨o2,e2,f2⟩:=a2.obj;simp only[Q3,Q0,TM] at hb;rcases hb with rfl|rfl|rfl|rfl|rfl
  .exact⟨_,a,λv z=>by cases z⟩
  .exact⟨_,c,λv z=>by cases z⟩
  .exact⟨_,d,λv z=>by cases z⟩
  .exact⟨_,e1,λv z=>by rw[f1] at z;cases z⟩
  .exact⟨_,e2,λv z=>by rw[f2] at z;cases z⟩
 keep:=λi h h' st k=>by
  obtain⟨a,c,⟨u,v,d⟩,e,f⟩:=st;exact⟨k z (by simp) _ a,k p (by simp) _ c,⟨u,v,k r (by simp) _ d⟩,e.at λo g=>k i1 (by simp) o g,f.at λo g=>k i2 (by simp) o g⟩
 item:=by
  intro X hP hw hK hc i pins s σ H E I hf st hg;subst hP hw hK;obtain⟨xs,ys,x,y,q1,q2,hx,hy⟩:=hg;obtain⟨us,ru,tu,_⟩:=I.tuple q1;obtain⟨vs,rv,tv,_⟩:=Inv.sqs I q2;obtain⟨u,hu,ru⟩:=ru.get hx;obtain⟨v,hv,rv⟩:=rv.get hy;have S:ZS false b2 s.heap z p r i1 i2 l1 l2 i us.toArray vs.toArray .none:=⟨st.zz,st.pp,st.rr,st.a1,st.a2,tu,tv⟩
  have lt:∀b∈[z,p,r,i1,i2],b≠s.heap.objs.size:=λb hb e=>by
   have:b<s.heap.objs.size:=by
    obtain⟨o1,e1,_,_⟩:=st.a1;obtain⟨o2,e2,_⟩:=st.a2.obj;obtain⟨a,b',er⟩:=st.rr;simp only[Q3,Q0,TM] at hb;rcases hb with rfl|rfl|rfl|rfl|rfl
    .exact Qg st.zz
    .exact Qg st.pp
    .exact Qg er
    .exact Qg e1
    .exact Qg e2
   exact Zj _ (e ▸ this)
  refine z0b D S (x:=u) (y:=v) (by simpa using hu) (by simpa using hv) λh1 S1 hp up=>⟨_,rfl,?_⟩;refine wpAny_letOwnedTupleGo_zip S1.zz λh2 Z2 sb=>?_;have n0:=lt z (by simp)
  have up2:∀b o,b ∉ [z,p,r,i1,i2]->s.heap.get? b=some o->h2.get? b=some o:=λb o hb e=>by
   simp only[Q3,Q0,TM,not_or] at hb;exact(sb.2 b hb.1).trans (up b o hb.1 hb.2.2.1 hb.2.2.2.1 hb.2.2.2.2 e)
  have P2:Gy h2 s.heap.objs.size u v:=(sb.2 _ (QN n0)).trans hp;have sL:=Uz;refine⟨.ref s.heap.objs.size,_,zkq (s:=s) (t':=s.toks) I hf up2 (Qm _) (o:=.tup [x,y]) ⟨by show 2<=sizeLine;lia,[u,v],.cons ru (.cons rv .nil),⟨_,P2,rfl,_,rfl⟩⟩,rfl,⟨_,x,y,I.hok.fresh (Qm _),λzs hz=>by rw[I.tuple_inj hz q1];exact hx,λzs hz=>by rw[Inv.sqs_inj I hz q2];exact hy,rfl,rfl⟩,⟨Z2,(sb.2 p D.TIz).trans S1.pp,?_,S1.a1.at λo g=>(sb.2 i1 D.i1z).trans g,S1.a2.at λo g=>(sb.2 i2 D.i2z).trans g⟩,λb hb=>?_⟩
  .obtain⟨a,b,e⟩:=S1.rr;exact⟨a,b,(sb.2 r D.TOz).trans e⟩
  .rw[zae (lt b hb)];exact(hf b hb).1
 done:=by
  intro X hP hw hK hc i pins s σ H E I hf st hg;subst hP hw hK;obtain⟨xs,ys,q1,q2,hx⟩:=hg;obtain⟨us,ru,tu,_⟩:=I.tuple q1;obtain⟨vs,rv,tv,_⟩:=Inv.sqs I q2;have lu:=ru.length;have lv:=rv.length;have S:ZS false b2 s.heap z p r i1 i2 l1 l2 i us.toArray vs.toArray .none:=⟨st.zz,st.pp,st.rr,st.a1,st.a2,tu,tv⟩;refine zz9 (I.ok.hd hc) D S (hx.imp (λh=>by simp;lia) λh=>by simp;lia) λh1 up=>⟨rfl,zkz (t':=s.toks) I hf λb o hb e=>?_⟩;simp only[Q3,Q0,TM,not_or] at hb;exact up b o hb.1 hb.2.2.1 hb.2.2.2.1 hb.2.2.2.2 e
 self:=λ_ _ _ _ _ st h=>wpAny_pyIter_zip st.zz h
def iZip(K:Qa)(t:TA):TI:=λσ H R=>t σ H λvs H1=>∃a b b2,vs = [.ref a,.ref b]/\(∃xs,SqT K H1 a xs)/\(∃ys,SqS K b2 H1 b ys)/\R (Itz K b2 a b) H1
theorem z2a:U5 "zip" = some (.type "zip"):=by decide +kernel
theorem z3x{elts:List Expr}{x1:Nat}(gE:Gl X "zip")(mE:X.mg "zip" = none)(ha:PA X [a,b] ta)(hs:Uw [a,b] X.env=(false,eval a X.env)::Uw [b] X.env:=by rfl)(hp:(UD p2 (Uw [b] X.env)).any (·.1)=false:=by rfl):PI X (.Tuple elts x1 pos) (.Call (.Name "zip" p1) [a,b] [] p2) (iZip X.K ta):=by
 intro pins s σ H R I h;refine Call_ (zcp I gE mE z2a (Zw (thn (ha p2 pins s σ H _ I h) λus s1 zz=>?_) hs hp));obtain⟨vs,H1,I1,r1,q1⟩:=zz;obtain⟨a,b,b2,e,⟨xs,qa⟩,⟨ys,qb⟩,q⟩:=q1;subst e;obtain⟨u,v,rfl,ru,rv⟩:=Vals.two r1;obtain rfl:u=Q9 a:=ru;obtain rfl:v=Q9 b:=rv;obtain⟨us,ru,tu,_⟩:=I1.tuple qa;obtain⟨vs,rv,tv,_⟩:=Inv.sqs I1 qb;have la:a<s1.heap.objs.size:=by obtain⟨o,e,_⟩:=tu;exact Qg e
 have lb:b<s1.heap.objs.size:=by cases b2 <;> (obtain⟨o,e,_⟩:=tv;exact Qg e)
 refine zyx (b1:=false) tu tv λh' S up=>wpAny_pyIter_zip S.zz ?_;refine⟨_,[s1.heap.objs.size+4,s1.heap.objs.size+2,s1.heap.objs.size+3,s1.heap.objs.size,s1.heap.objs.size+1],_,Itz X.K b2 a b,H1,rfl,I1.kept (t':=s1.toks) up,zuz b2 _ _ _ _ _ a b (zvc _ _ _ la lb),⟨S.zz,S.pp,S.rr,S.a1,S.a2⟩,λc hc=>?_,q⟩
 have le:s1.heap.objs.size<=c:=by
  simp only[Q3,Q0,TM] at hc;rcases hc with rfl|rfl|rfl|rfl|rfl <;> first|exact Qm _|exact Y5 _ _
 exact I1.fpOk le (I1.hok.fresh le)
section
variable {K:Qa}{O:Ob}
def zipD:List Uu->List Uu->List Uu
 | d::ds,e::es=>.tuple [d,e]::zipD ds es
 | _,_=>[]
theorem zna:∀ds es:List Uu,(zipD ds es).length=min ds.length es.length
 | [],_=>by simp[zipD]
 | _::_,[]=>by simp[zipD]
 | _::ds,_::es=>by rw[zipD,Qj,zna ds es,Qj,Qj,Nat.succ_min_succ]
theorem znp:∀{ds es:List Uu} {i:Nat} {d:Uu},(zipD ds es)[i]? = some d->∃a b,ds[i]? = some a/\es[i]? = some b/\d = .tuple [a,b]
 | [],_,i,d,h=>by simp[zipD] at h
 | _::_,[],i,d,h=>by simp[zipD] at h
 | a::ds,b::es,0,d,h=>by
   rw[zipD,List.getElem?_cons_zero] at h;cases h;exact⟨a,b,rfl,rfl,rfl⟩
 | a::ds,b::es,i+1,d,h=>by
   rw[zipD,Z0] at h;obtain⟨x,y,h1,h2,h3⟩:=znp h;exact⟨x,y,h1,h2,h3⟩
theorem zia{i:Nat}{d:Uu}(h:flats ds=true)(e:ds[i]? = some d):flat d=true:=by
 induction ds generalizing i with
 | nil=>cases e
 | cons x ds ih=>
   rw[flats,Qu] at h
   cases i with
   | zero=>cases e;exact h.1
   | succ i=>exact ih h.2 e
theorem zvv{b2:Bool}{fs:List Uu}(st:Stp O H H1)(ha:SqT K H1 a xs)(hs:IsAll K (unM O) H1 xs es)(ht:IsAll K (unM O) H1 ys fs)(f1:flats es=true)(f2:flats fs=true)
 (hB:∀a,B a->¬O.M a/\∃o,H1 a=some o) (stay:∀H2,(∀a o,B a->H1 a=some o->H2 a=some o)->TupStay H1 H2->SqS K b2 H2 b ys):Walk K O H H1 (Itz K b2 a b) (zipD es fs) B:=by
 have l1:=hs.length;have l2:=ht.length;refine⟨st,hB,λH2 i kb t2 hi=>?_,λH2 i d kb t2 hd c=>?_⟩
 .rw[zna] at hi;exact⟨xs,ys,SqT.stay t2 ha,stay H2 kb t2,by lia⟩
 .obtain⟨x,y,h1,h2,rfl⟩:=znp hd;have fx:=zia f1 h1;have fy:=zia f2 h2;obtain⟨u,hu,iu⟩:=zfl (O:=O) hs h1 t2 (.inl fx);obtain⟨v,hv,iv⟩:=zfl (O:=O) ht h2 t2 (.inl fy);have q1:SqT K H2 a xs:=SqT.stay t2 ha;have q2:=stay H2 kb t2;refine⟨⟨xs,ys,u,v,q1,q2,hu,hv⟩,λw H3 zz=>?_⟩;obtain⟨c',u',v',hc',e1,e2,ex,e3⟩:=zz;have sm:Same H2 H3:=by rw[e3];exact L3.same_new hc' _
  subst ex;have e1:=e1 xs q1;have e2:=e2 ys q2;rw[hu] at e1;rw[hv] at e2;cases e1;cases e2;have fl:flat (.tuple [x,y])=true:=by show(flat x && (flat y && true))=true;rw[fx,fy];rfl
  have mv:∀{d:Uu} {z:V},Is K (λa=>¬O.M a/\(flat d=true\/∃o,H1 a=some o)) H2 z d->Is K (λa=>¬O.M a/\(flat (.tuple [x,y])=true\/∃o,H1 a=some o)) H3 z d:=λiz=>
   iz.to (λc zs f q=>⟨⟨f.1,.inl fl⟩,sm _ _ q⟩) λc zs q=>by
    rcases q with (q|⟨ob,q⟩)|q
    .exact .inl (.inl (sm _ _ q))
    .exact .inl (.inr ⟨ob,sm _ _ q⟩)
    .exact .inr q
  refine⟨sm,.tuple (xs:=[u,v]) (.inl (.inl ?_)) (.cons (mv iu) (.cons (mv iv) .nil))⟩;rw[e3];exact zaj
def srcZ(g:DA):DI:=λρ Q=>g ρ λvs=>∃ds es,vs = [.tuple ds,.tuple es]/\flats ds=true/\flats es=true/\Q true (zipD ds es)
theorem zzm(h:AD K O t g):SrcS K O (iZip K t) (srcZ g):=λσ H ρ R Qd S hf k=>by
 refine h σ H ρ _ _ S hf λvs H1 ds st is zz=>?_;obtain⟨es,fs,e,f1,f2,q⟩:=zz;subst e
 cases is with
 | cons i1 is=>
   cases is with
   | cons i2 is=>
     cases is
     cases i1 with
     | tuple ha hs=>
       cases i2 with
       | tuple hb ht=>exact⟨_,_,false,rfl,⟨_,ha⟩,⟨_,hb⟩,k _ H1 _ (λ_=>False) true (zvv st ha hs ht f1 f2 (λb hb=>hb.elim) λH2 _ t2=>SqT.stay t2 hb) (λz b hb=>hb.elim) q⟩
end
section
variable {ι κ:Type}{P:Uy}{w:U0}{K:Qa}{mg:Str->Option Ut}{base:Heap}{k:Nat}{X:ι->Cx}{O:κ->Ob}{a b:Expr}{ga:DA}{pos p1 p2:Pos}{elts:List Expr}{x1:Nat}
theorem zww(C:Ctx3 P w K mg base k X)(B:Blt mg)(ha:A3 K X O [a,b] ga)(hg:∀i,Gl (X i) "zip" := by intro i;rfl)(hs:∀i,Uw [a,b] (X i).env=(false,eval a (X i).env)::Uw [b] (X i).env:=by intro i;rfl)(hp:∀i,(UD p2 (Uw [b] (X i).env)).any (·.1)=false:=by intro i;rfl):I3 K X O (.Tuple elts x1 pos) (.Call (.Name "zip" p1) [a,b] [] p2) (srcZ ga) :=
 let ⟨_,q,d⟩:=ha;⟨iZip K _,λi=>by have h:=z3x (elts:=elts) (x1:=x1) (pos:=pos) (p1:=p1) (p2:=p2) (hg i) (by rw[C.hmg];exact B.zip) (q i) (hs i) (hp i);rw[C.hK] at h;exact h,λj=>zzm (d j)⟩
end
end L3
namespace L3
open PySem PySem.Spec
open PyProof.Rows hiding St
open L2 L6
theorem zhx{α β:Type}(f:α->Uu)(g:β->Uu):∀(xs:List α) (ys:List β),zipD (xs.map f) (ys.map g)=(xs.zip ys).map λp=>.tuple [f p.1,g p.2]
 | [],_=>rfl
 | _::_,[]=>rfl
 | x::xs,y::ys=>by rw[QD,QD,zipD,zhx f g xs ys];rfl
def abvB(a b:Sta):Bool:=decide (a.rooms=b.rooms) && (decide (a.flags=b.flags) && (b.words.zip a.words).all λp=>L6.under p.1 p.2)
def optS:Option Sta->Uu
 | none=>.none
 | some s=>zak s
structure StW(s:Sta):Prop where
 rooms:s.rooms.length<=20
 flags:s.flags.length<=20
 words:s.words.length<=20
 sml:∀w∈s.words,Sml w
def abvF:List Uu->(R->Prop)->Prop:=λds Q=>∃a b:Sta,ds = [zak a,zak b]/\StW a/\StW b/\a.words.length=b.words.length/\Q (.o (.bool (abvB a b)))
theorem zpi(xs:List Nat):Sl 1 (.tuple (xs.map nD)):=zmb λn _=>zc4 n
theorem zsk(s:Sta):Sl 2 (.tuple [.tuple (s.rooms.map nD),.tuple (s.flags.map nD)]):=zbs (zpi _) (zbs (zpi _) (zfs _))
theorem zsp{a b:List Nat}(h:a.map nD=b.map nD):a=b:=List.map_inj_right (λ_ _ z=>Int.ofNat_inj.mp (PyData.int.inj z)) |>.mp h
theorem ziw(a b:Sta){neg:Bool}:eqF neg (.tuple [.tuple (a.rooms.map nD),.tuple (a.flags.map nD)]) (.tuple [.tuple (b.rooms.map nD),.tuple (b.flags.map nD)])=some (.o (.bool (if neg then !(decide (a.rooms=b.rooms) && decide (a.flags=b.flags)) else(decide (a.rooms=b.rooms) && decide (a.flags=b.flags))))) :=
 zxl (zsk a) (zsk b) (by decide) (by
  rw[Qu,TC,TC];refine⟨λ⟨e,f⟩=>by rw[e,f],λe=>?_⟩;have e:=PyData.tuple.inj e;simp only[VS,Vq,and_true] at e
  exact⟨zsp e.1,zsp e.2⟩)
theorem zbt(s:Sta):slcF none (some 2) (zak s)=some (.o (.tuple [.tuple (s.rooms.map nD),.tuple (s.flags.map nD)])):=rfl
theorem zvk{α:Type}(f:α->Uu)(xs:List α):zez (xs.map f)=xs.zipIdx.map λp=>.tuple [.int (p.2:Nat),f p.1]:=by
 unfold zez;refine Yz λi=>?_;rw[YU,Qs,Qs,YV];cases xs[i]? <;> simp
theorem zyn{α:Type}(xs:List α)(a b:Nat):cutL xs (some (a:Int)) (some (b:Int))=(xs.take b).drop a:=by
 unfold cutL;rw[zhf,zhf,List.drop_take]
 by_cases h:a<=xs.length
 .rw[Jw h]
  by_cases hb:b<=xs.length
  .rw[Jw hb]
  .rw[VE (by lia),Js (by rw[QO];lia),Js (by rw[QO];lia)]
 .rw[Z4 (show xs.length<=min a xs.length by lia),Z4 (show xs.length<=a by lia)];simp
def zf6(s:Sta)(h:Nat)(r:Rul):Option Sta:=if s.rooms.getD h 0=r.p/\zd0 s r.d=true then some (zfy s h r) else none
section
variable {K:Qa}{O:Ob}
def zxp(i j:Nat)(fa fb:DE):DS:=λDd ρ=>fa ρ λr1=>fb ρ λr2=>∃ds es,r1 = .n ds/\r2 = .n es/\flats ds=true/\flats es=true/\Dd.nx ((ρ.set i (some (.own ds))).set j (some (.own es)))
theorem z0f{i j:Nat}(ha:ED K O ta fa)(hb:ED K O tb fb):SD K O (tPar i j (za1 ta (za1 tb tNil))) (zxp i j fa fb):=λH₀ A σ H ρ D Dd r q P=>by
 refine ha σ H ρ _ _ r.seen q λv H1 r1 s1 o1 q1=>?_;refine hb σ H1 ρ _ _ (r.seen.stp s1) q1 λu H2 r2 s2 o2 zz=>?_;obtain⟨ds,es,e1,e2,f1,f2,q2⟩:=zz;subst e1 e2;obtain⟨a1,x1,rfl,n1,l1,i1⟩:=o1;obtain⟨a2,x2,rfl,n2,l2,i2⟩:=o2;refine⟨_,_,rfl,?_⟩;have ra:=r.setOwn (i:=i) s1 n1 l1 i1 f1;have rb:=ra.setOwn (i:=j) s2 n2 l2 i2 f2;exact P.nx _ _ H2 _ rb ((Frm.setOwn (i:=i) s1 n1).trans (.setOwn (i:=j) s2 n2)) q2
end
section
variable {ι κ:Type}{P:Uy}{w:U0}{K:Qa}{mg:Str->Option Ut}{base:Heap}{k:Nat}{X:ι->Cx}{O:κ->Ob}{a b:Expr}{fa fb:DE}{pos px py pt pt2:Pos}{kt k2:Nat}
theorem z4m(n m:Nat)(C:Ctx3 P w K mg base k X)(ha:E3 K X O a fa)(hb:E3 K X O b fb)(hnm:n≠m:=by decide)
 (hN:∀i,(X i).N.Nodup:=by intro i;exact Tz (by kernel_rfl)) (hi:∀i,(X i).N[n]? = some x:=by intro i;rfl) (hj:∀i,(X i).N[m]? = some y:=by intro i;rfl) (hx:∀i,(X i).env.scope.names.lookup x=some .local:=by intro i;rfl) (hy:∀i,(X i).env.scope.names.lookup y=some .local:=by intro i;rfl)
 (hw:∀i,UO [.Tuple [.Name x px,.Name y py] kt pt] (.Tuple [a,b] k2 pt2) (X i).env=pure (some [x,y]):=by intro i;rfl) (hs:∀i,UP [.Tuple [.Name x px,.Name y py] kt pt] (.Tuple [a,b] k2 pt2) pos.line (X i).env=pure false:=by intro i;rfl)
 (h1:∀i,Uw [a,b] (X i).env=(false,eval a (X i).env)::Uw [b] (X i).env:=by intro i;rfl) (h2:∀i,Uw [b] (X i).env=(false,eval b (X i).env)::Uw [] (X i).env:=by intro i;rfl) :
 S3 K X O (.Assign [.Tuple [.Name x px,.Name y py] kt pt] (.Tuple [a,b] k2 pt2) pos) (zxp n m fa fb) :=
 let ⟨_,p1,d1⟩:=ha;let ⟨_,p2,d2⟩:=hb
 ⟨_,λi=>znx (C.calm i) (hN i) (hi i) (hj i) hnm (hx i) (hy i) (zaw (p1 i) (zaw (p2 i) zbk (h2 i)) (h1 i)) (hw i) (hs i),λj=>z0f (d1 j) (d2 j)⟩
end
def tLet(K:Qa)(drawSp:Sp)(m d:Nat)(te:TE):TE :=
 tBM K "str" zju (tC (.str "")) (za1 (tCB zs3 (za1 (zf1 1 (zrl (za1 te tNil)) (za9 0) tYes (tBM K "list" zjb (tVar (m+1)) (za1 (zcf drawSp [] E0 (za1 (tVar (d+1)) (za1 (tCB (lenR K) (za1 (tVar (m+1)) tNil)) tNil))) tNil))) tNil)) tNil)
def abcD:List Uu:=abc.map λc=>.str (sg c)
def letS(n m d:Nat)(fe:DE):DS:=λDd ρ=>ρ[m]? = some (some (.own abcD))/\ρ[d]? = some (some .ob)/\fe ρ λr=>∃k:Int,r.d = .int k/\0<=k/\k<=26/\∀(w rest:List Nat),(w.length:Int)=k->(∀c∈w,zdv c)->w.Pairwise (· < ·)->Dd.nx ((ρ.set m (some (.own (rest.map λc=>.str (sg c))))).set n (some (.im (.str (tx w)))))
theorem zmr{K:Qa}{F:Addr->Prop}{H:Hp}:∀{r:List Nat} {xs:List V},IsAll K F H xs (r.map λc=>.str (sg c))->xs=r.map λc=>V.str (sg c)
 | [],_,.nil=>rfl
 | c::r,_,.cons h t=>by cases h;rw[zmr t];rfl
theorem znr{K:Qa}{F:Addr->Prop}{H:Hp}:∀r:List Nat,IsAll K F H (r.map λc=>V.str (sg c)) (r.map λc=>.str (sg c))
 | []=>.nil
 | c::r=>.cons (.str _) (znr r)
theorem zn9(h:H l=some v):upd (upd H l u) l v=H:=by
 funext b
 by_cases e:b=l
 .subst e;rw[zaj,h]
 .rw[zae e,zae e]
theorem z3j{K:Qa}{φ:Ob->Prop}(hp:∀(O:Ob) (D:Addr) (u:HO),φ O->¬O.M D->φ (O.plus D u)){O:Ob}(hφ:φ O){n m d:Nat}{te:TE}{fe:DE}(he:ED K O te fe):SD K O (tAsg (tLet K (spD K φ 1 zcu) m d te) (za9 n)) (letS n m d fe):=λH₀ A σ H0 ρ D' Dd r0 q P=>by
 obtain⟨em,ed,q⟩:=q;have hsz:sizeLine=16777216:=Uz;refine⟨rfl,?_⟩;refine he σ H0 ρ _ _ r0.seen q λv H rr s1 o1 zz=>?_;obtain⟨mm,er,m0,m1,q⟩:=zz;have iv:=o1.is r0.ok r0.p;rw[er] at iv;cases iv;have r:=r0.stp s1;have ok:=r.ok;have p:=r.p;obtain⟨vm,hvm,l,xs,rfl,hal,hl,hxs⟩:=r.at_ m _ em;obtain⟨vd,hvd,evd⟩:=r.at_ d _ ed;have evd:vd=O.v:=evd;subst evd;have exs:=zmr hxs;subst exs;obtain⟨hl0,_,nMl⟩:=r.own m l hal;refine⟨mm,rfl,by lia,by lia,λD hD=>?_⟩;have nlD:l≠D:=λz=>by rw[<- z,hl] at hD;cases hD
 have nMD:¬O.M D:=λz=>by obtain⟨o,y⟩:=ok.here H D p z;rw[hD] at y;cases y
 have aD:∀b o,H b=some o->b≠D:=λb o e z=>by rw[z,hD] at e;cases e
 have pl:∀{H':Hp} {b:Addr} {o:HO},¬O.M b->O.P H'->O.P (upd H' b o):=λ{H' b o} nb pp=>ok.loc H' _ (λc mc=>zae λz=>nb (z ▸ mc)) pp
 refine⟨λi c ys H'=>c=mm.toNat-i/\i<=mm.toNat/\H' D=some (.lst ys)/\(∃w r:List Nat,ys=w.map (λc=>V.str (sg c))/\w.length=i/\(∀c∈w,zdv c)/\H' l=some (.lst (r.map λc=>V.str (sg c)))/\r.length+i=26/\(∀c∈r,zdv c)/\(w++r).Nodup) /\
  O.P H'/\(∀b o,H b=some o->¬O.M b->b≠l->H' b=some o)/\TupStay H H',⟨_,rfl,QL _,zaj,⟨[],abc,rfl,rfl,by simp,by rw[zae nlD];exact hl,rfl,by unfold zdv;decide,by decide⟩,pl nMD p,λb o e n _=>?_,λb u _ e=>?_⟩,?_⟩
 .rw[zae (aD b o e)];exact e
 .rw[zae (aD b u e)];exact e
 rintro i c ys H' ⟨rfl,hi,hDy,⟨w,rs,rfl,hw,hwl,hr,hrl,hrc,hnd⟩,pp,kp,ts⟩;refine⟨hDy,?_⟩
 by_cases hlt:i<mm.toNat
 .right;refine⟨hlt,λx H2 zz=>?_⟩;obtain⟨e2,_⟩:=zz;subst e2;have hr0:0<rs.length:=by lia
  have sm:((Qv 1 none++σ).set 0 (some x))[m+1]? = some (some (.ref l)):=by
   show((none::σ).set 0 (some x))[m+1]? = _;rw[Vr,Z0];exact hvm
  have sd:((Qv 1 none++σ).set 0 (some x))[d+1]? = some (some O.v):=by
   show((none::σ).set 0 (some x))[d+1]? = _;rw[Vr,Z0];exact hvd
  show tBM K "list" zjb (tVar (m+1)) _ _ H2 _;refine⟨_,sm,.inl ⟨rfl,_,.of hr⟩,_,sd,?_⟩;refine⟨_,sm,_,rs.length,rfl,.inl ⟨_,.of hr,by rw[Qb]⟩,?_⟩;have okp:=(ok.plus D (w.map λc=>V.str (sg c))).plus l (rs.map λc=>V.str (sg c))
  have nl2:¬(O.plus D (.lst (w.map λc=>V.str (sg c)))).M l:=λmm=>by
   rcases mm with mm|mm
   .exact nMl mm
   .exact nlD mm
  show spD K φ 1 zcu ([O.v,V.int rs.length] ++ []) H2 _ E0;refine⟨_,[.int rs.length],[.int rs.length],λx=>∃k:Int,x = .o (.int k)/\0<=k/\k<rs.length,okp,hp _ l _ (hp _ D _ hφ nMD) nl2,⟨⟨pp,hDy⟩,hr⟩,rfl,rfl,.cons (.int _) .nil,⟨_,rfl,by lia,by lia,λk k0 k1=>⟨k,rfl,k0,k1⟩⟩,?_⟩;rintro _ ⟨k,rfl,k0,k1⟩ v H3 st o3;cases o3;obtain⟨⟨p3,hD3⟩,hl3⟩:=st.p ⟨⟨pp,hDy⟩,hr⟩;have hk:k.toNat<rs.length:=by lia
  have ek:k=((k.toNat:Nat):Int):=by lia
  refine⟨l,_,k,k.toNat,V.str (sg rs[k.toNat]),rfl,rfl,hl3,by lia,by lia,?_,by rw[Qs,Qi hk];rfl,?_⟩
  .rw[Qb];unfold Tp;simp only[show ¬k<0 by lia,TN]
   first|(rw[T0 (by lia)])|(simp;lia)|lia
  .have ne1:D≠l:=QN nlD;refine⟨by rw[zae ne1];exact hD3,by rw[Qb];lia,mm.toNat-(i+1),by lia,rfl,hlt,zaj,⟨w ++ [rs[k.toNat]],rs.eraseIdx k.toNat,by rw[QI];rfl,by rw[Qf,hw];rfl,λc hc=>?_,?_,?_,λc hc=>hrc c (znk hc),?_⟩,pl nMD (pl nMl p3),λb o e n nbl=>?_,λb u hu e=>?_⟩
   .rcases Q6.mp hc with hc|hc
    .exact hwl c hc
    .rw[Qn.mp hc];exact hrc _ (ZA hk)
   .rw[zae nlD,zaj,zlm]
   .rw[List.length_eraseIdx];rw[T0 hk];lia
   .rw[Zy];refine(List.Perm.nodup_iff (List.Perm.append_left w ?_)).mp hnd;exact(zk3 hk).symm
   .rw[zae (aD b o e),zae nbl]
    exact st.s b o (kp b o e n nbl) λmm=>by
     rcases mm with (mm|mm)|mm
     .exact n mm
     .exact aD b o e mm
     .exact nbl mm
   .have nbl:b≠l:=λz=>by
     rw[z,hl] at e;cases e;obtain⟨us,e1|⟨o',e1⟩⟩:=hu <;> cases e1
    rw[zae (aD b u e),zae nbl];exact st.t b u hu (ts b u hu e)
 .left;have e:i=mm.toNat:=by lia
  refine⟨by show mm.toNat<=i;lia,?_⟩;refine⟨D,w.map sg,rfl,by rw[hDy,Jt];rfl,by rw[Qb];lia,λzs z hpm hs hz=>?_⟩
  obtain⟨w2,rfl,hw2⟩:=unsg (zs:=zs) λy hy=>by
   obtain⟨c,hc,rfl⟩:=QS.mp (hpm.mem_iff.mp hy);exact⟨c,rfl,hwl c hc⟩
  have hlen:w2.length=w.length:=by have:=hpm.length_eq;simpa using this
  have hinc:w2.Pairwise (· < ·):=by
   refine zp8 hs ?_;have hw1:(w.map sg).Nodup:=V5.mpr ((List.nodup_append.mp hnd).1.imp λne e=>ne (z2i e));have hw3:(w2.map sg).Nodup:=hpm.symm.nodup_iff.mp hw1;exact(V5.mp hw3).imp λne e=>ne (congrArg sg e)
  refine⟨_,z,w2.map sg,rfl,rfl,zaj,?_,?_⟩
  .rw[zsz,Qb];have e0:(QH "").length=0:=by decide +kernel
   rw[e0];lia
  .rw[zpm];have nMz:¬O.M z:=λmm=>by obtain⟨o,y⟩:=ok.here H' z pp mm;rw[hz] at y;cases y
   have nzl:z≠l:=λe2=>by rw[e2,hr] at hz;cases hz
   -- the heap with the list as it was
   have stb:Stp O H (upd H' l (.lst (abc.map λc=>V.str (sg c)))):=⟨λb o eb nb=>by
    by_cases ebl:b=l
    .subst ebl;rw[hl] at eb;cases eb;exact zaj
    .rw[zae ebl];exact kp b o eb nb ebl,λ_=>pl nMl pp,λb u hu eb=>by
    by_cases ebl:b=l
    .subst ebl;rw[hl] at eb;cases eb;obtain⟨us,e1|⟨o',e1⟩⟩:=hu <;> cases e1
    .rw[zae ebl];exact ts b u hu eb⟩
   have r2:=(r.stp stb).change (ys:=rs.map λc=>V.str (sg c)) (es:=rs.map λc=>.str (sg c)) em hvm hal (znr rs);rw[zn9 hr] at r2
   have f2:Frm O A H0 A H':=by
    have:=(Frm.stp (A:=A) s1).trans ((Frm.stp (A:=A) stb).trans (Frm.change (o:=.lst (rs.map λc=>V.str (sg c))) hal));rw[zn9 hr] at this;exact this
   have s3:Stp O H' (upd H' z (.lst (w2.map λc=>V.str (sg c)))):=.new ok hz _;have e3:(w2.map sg).map V.str=w2.map λc=>V.str (sg c):=by rw[Jt];rfl
   have r3:=r2.stp s3;have fin:=P.nx _ _ _ _ (r3.setIm (i:=n) (v:=.str (tx w2)) (d:=.str (tx w2)) (.str _)) ((f2.trans (.stp s3)).trans (.setIm (.refl _ _))) (q w2 rs (by lia) hw2 hinc);rw[<- e3] at fin;exact fin
theorem z5h{ι κ:Type}{K:Qa}{X:ι->Cx}{O:κ->Ob}{φ:Ob->Prop}{st:Stmt}{e:Expr}{fe:DE}(n m d:Nat)(hp:∀(O:Ob) (D:Addr) (u:HO),φ O->¬O.M D->φ (O.plus D u))(hO:∀j,φ (O j))(he:E3 K X O e fe)(h:∀te,(∀i,PE (X i) e te)->∀i,PS (X i) st (tAsg (tLet K (spD K φ 1 zcu) m d te) (za9 n))):S3 K X O st (letS n m d fe) :=
 let ⟨te,p,q⟩:=he;⟨_,h te p,λj=>z3j hp (hO j) (q j)⟩
end L3
namespace L3
open PySem PySem.Spec
open PyProof.Rows hiding St
open L2 L6 HK
abbrev shSt:Sh:=.fcons (.arr .n) (.fcons (.arr .n) (.fcons (.arr .t) .fnil))
theorem zvq(s:Sta):zjr shSt (zak s):=⟨_,_,rfl,⟨_,rfl,λx hx=>by obtain⟨n,_,rfl⟩:=QS.mp hx;exact⟨_,rfl⟩⟩,_,_,rfl,⟨_,rfl,λx hx=>by obtain⟨n,_,rfl⟩:=QS.mp hx;exact⟨_,rfl⟩⟩,_,_,rfl,⟨_,rfl,λx hx=>by obtain⟨n,_,rfl⟩:=QS.mp hx;exact⟨_,rfl⟩⟩,rfl⟩
theorem zp2{w:List Nat}(h:∀c∈w,c<128):QR (tx w)=true:=by
 unfold QR tx;rw[Yt];intro c hc;have:=h c (by simpa using hc);simp;lia
structure StH(h:Hou)(s:Sta):Prop where
 rooms:s.rooms.length=h.hands.length
 flags:s.flags.length=h.flags
 words:s.words.length=h.lines
 sml:∀w∈s.words,w.length<=90/\∀c∈w,c<128
theorem zcq(s:Sta):flat (zak s)=true:=zpq _ (zlu shSt _ (zvq s))
structure HoA(h:Hou):Prop where
 ok:HoOk h
 l1:1<=h.lines
 l2:h.lines<=2
 f2:h.flags<=2
 h1:1<=h.hands.length
 h2:h.hands.length<=2
 r5:∀x∈h.hands,x.rs.length<=5
 n3:∀x∈h.hands,x.n<=3
 s3:h.ls.length<=3
 rp:∀x∈h.hands,∀r∈x.rs,r.p<3/\r.q<3
theorem zi6(h:LowW ls):∀c∈ls,c<128:=λc hc=>by have:=h c hc;unfold zdv at this;lia
theorem StH.w{h:Hou}(ho:HoA h)(hs:StH h s):StW s:=⟨by have:=hs.rooms;have:=ho.h2;lia,by have:=hs.flags;have:=ho.f2;lia,by have:=hs.words;have:=ho.l2;lia,λw hw=>⟨by have:=(hs.sml w hw).1;lia,(hs.sml w hw).2⟩⟩
def zoz:List Uu->(R->Prop)->Prop:=λds Q=>ds = []/\∀h,HoA h->Q (.o (za2 h))
def zm8:List Uu->(R->Prop)->Prop:=λds Q=>∃(h:Hou) (s:Sta) (i k:Nat) (hd:Hnd) (r:Rul),ds = [za2 h,zak s,.int (i:Nat),.int (k:Nat)]/\HoOk h/\StH h s/\h.hands[i]? = some hd/\hd.rs[k]? = some r/\Q (.o (optS (zf6 s i r)))
theorem zz5{h:Hou}(ok:HoOk h){i k:Nat}(a:h.hands[i]? = some hd)(b:hd.rs[k]? = some r):i<h.hands.length/\DeOk h.ls h.lines h.flags r.d:=⟨(Qk.mp a).1,((ok.rules hd (Zm a)).2 r (Zm b)).1⟩
theorem zsr{w:List Nat}(h:∀c∈w,c<128):eqF true (wD w) (.str (QH ""))=some (.o (.bool (!decide (w = [])))):=by
 rw[zbc (zp2 h) (by decide +kernel),T0 rfl,zl9]
theorem zdj{α:Type}{f:α->Uu}{xs:List α}{i:Nat}{x:α}(h:xs[i]? = some x):idxF (.list (xs.map f)) (.int (i:Nat))=some (.o (f x)):=zfh (by rw[Qs,h];rfl)
theorem zyd{w:List Nat}(h:w.length<=100000):slcF none (some 1) (wD w)=some (.o (wD (w.take 1))):=by
 rw[zex (by lia),show(1:Int)=((1:Nat):Int) from rfl,zdq]
theorem zy8{w:List Nat}(h:w.length<=100000):slcF (some 1) none (wD w)=some (.o (wD (w.drop 1))):=by
 rw[zex (by lia),show(1:Int)=((1:Nat):Int) from rfl,zcx]
theorem zxw{w:List Nat}{c:Nat}(h:∀x∈w,x<128)(hc:c<128):eqF true (wD (w.take 1)) (wD [c])=some (.o (.bool (!decide (w.head? = some c)))):=by
 rw[zbc (zp2 λx hx=>h x (Je hx)) (zp2 λx hx=>by rw[Qn.mp hx];exact hc),T0 rfl,znt];cases w <;> simp
theorem z5n{p:Nat}(hp:p<2){Q:R->Prop}{r1 r2:R}(h:∀r,r=r1\/r=r2->Q r):((R.o (.int (p:Nat))).d = .int 0/\Q r1)\/((R.o (.int (p:Nat))).d = .int 1/\Q r2):=by
 rcases J5 p 1 with z|z
 .obtain rfl:p=0:=by lia
  exact .inl ⟨rfl,h _ (.inl rfl)⟩
 .obtain rfl:p=1:=by lia
  exact .inr ⟨rfl,h _ (.inr rfl)⟩
theorem z4o(d:Deed):flat (zb5 d)=true:=by cases d <;> rfl
end L3
namespace L3
open PySem PySem.Spec PySem.Calls
open PyProof.Rows hiding St
open L2
structure RoomH(k:Nat)(A:U9):Prop where
 dp:A.depth+3 * k+5<recursionLimit
 un:A.units+16 * k+200<GJ
 gd:A.guards=some []
theorem Room.h{k:Nat}(r:Room k A):RoomH k A:=⟨r.dp,r.un,r.gd⟩
theorem RoomH.mark{k:Nat}(r:RoomH k A)(v:Option Ut):RoomH k (A.mark v):=⟨r.dp,r.un,r.gd⟩
theorem RoomH.make{k:Nat}(r:RoomH (k+1) A)(C:Addr)(us:List Ut)(kw:List (Str×Ut)):RoomH k (A.under (.builtin "type.__call__" ⟨.ref C::us,kw⟩)) :=
 ⟨by have:=r.dp;rw[zi3];lia,by have:=r.un;rw[zjl];lia,by first|exact r.gd|(simpa[Yf,Vs,guardIds] using r.gd)⟩
def cxH(P:Uy)(w:U0)(K:Qa)(mg:Str->Option Ut)(base:Heap)(N:List Str)(qual:Str)(scope:UN)(f:Addr)(cd:Ut)(A:U9)(outer:List Env)(s:Ux)(H:Hp)(E:XK):Cx :=
 { cxOf CX0 P w K mg base N qual scope f cd A outer s H E with calm:=false }
section
variable {P:Uy}{w:U0}{K:Qa}{mg:Str->Option Ut}{base:Heap}{A:U9}{outer:List Env}{s s1:Ux}{H:Hp}{E:XK}
theorem zp7{qual:Str}{scope:UN}(S:FnScope N ps scope)(e0:Env0 P w K mg base A outer s H)(hl:vs.length=ps.length)(r:Vals vs us)
 (x:InCallC s s.heap.objs.size (Tt (G6 qual scope s.heap.objs.size f cd).kindOf (ps.zip us) λ_=>none) (UE (s.heap.objs.size+1) scope.names []) (Ts (G6 qual scope s.heap.objs.size f cd).kindOf (ps.zip us) λ_=>none) s1) :
 Inv (cxH P w K mg base N qual scope f cd A outer s H E) [] (start N vs) H s1:=by
 have I:=zk1 (CX:=CX0) (E:=E) (A:={ A with handled:=none }) (cd:=cd) S rfl ⟨e0.frames,e0.mod,e0.bs,e0.bsz,e0.funs,e0.frf,e0.hok,e0.bare⟩ hl r x;exact⟨⟨I.ok.mod,I.ok.kind,I.ok.glob,I.ok.blt,I.ok.above,I.ok.inj,I.ok.has,I.ok.cab,(λz=>nomatch z),YS e0.frames,I.ok.stk,I.ok.exf,I.ok.bs,I.ok.bsz,I.ok.noex,I.ok.exfs,I.ok.funs,I.ok.frf⟩,I.os,I.bare,I.base,I.loc,I.cell,I.free,I.freeC,I.pin,I.hok,I.len⟩
theorem z2s(I:Init1 K f fl)(hr:RoomH 1 A)(e0:Env0 P w K mg base A outer s H)(r:Vals vs us)(hsp:zdr K [fl] vs H Q E):Gi (model P w) A (.call (.ref f) ⟨us,[]⟩) (CR CX0 outer P w H s Q E) s:=by
 obtain⟨qual,an0,params,scope,oc,kV,doc,pm,cdv,ct,od,an,osl,p1,p2,p3,p4,lk,hcd,S,v0,v1,d1,d2,hb⟩:=I.ex;have hl:vs.length=2:=zi5 (ns:=[fl]) (ps:=[("self" : Str),an0]) rfl _ _ _ _ hsp;have KX:K.In s.heap:=e0.mod.kin.keeps λb o e=>(e0.bs b o e).1;have lim:s.heap.NoLimit:=e0.mod.nolimit.keeps λb o e=>(e0.bs b o e).1
 have hkind:∀y∈([("self" : Str),an0]:List Str).zip us,scope.names.lookup y.1=some .local\/(scope.names.lookup y.1=some .cell/\((UE (s.heap.objs.size+1) scope.names []).lookup y.1).isSome=true):=λ⟨n,v⟩ hy=>by
  rcases S.par n (Jv hy).1 with q|q
  .exact .inl q
  .exact .inr ⟨q,Jp _ _ _ (.inl q)⟩
 have dp:A.depth<recursionLimit:=by have:=hr.dp;lia
 refine GO dp (KX _ _ lk) rfl S.co S.gen rfl (Vi KX hcd) (BindsTo.of_eq (s:=s) (hb us (by rw[<- r.length];exact hl)) _ _ _ _ ?_);refine G8 S.kind hkind λenv he s1 x=>?_;subst he;refine⟨lim.keeps x.toInCall.keep,codeAny_func ?_⟩;have J:Inv (cxH P w K mg base [("self" : Str),an0] qual scope f cdv A outer s H E) [] (start [("self" : Str),an0] vs) H s1:=zp7 S e0 hl r x;obtain⟨x0,C,ys,rfl,hl',hc,hx,hq⟩:=hsp
 match ys,hl' with
 | [y],_=>
 have ht:PSs (cxH P w K mg base [("self" : Str),an0] qual scope f cdv A outer s H E) [.Assign [.Attribute (.Name "self" p1) fl p2] (.Name an0 p3) p4] _:=zch (zo4 (zal (i:=0) rfl v0 (by decide) (by decide)) (zal (i:=1) rfl v1 d1 d2) rfl);refine U2 (ht [] s1 _ H { nx:=λ_ H'=>Q .non H',rt:=Q } J ⟨y,rfl,.ref x0,rfl,x0,C,rfl,hc fl Qw,.inl ⟨hx,λd hd hdx=>hq d hd hdx⟩⟩) (λfl' s' hs=>?_) λe s' hs=>hs
 cases fl' with
 | ret u=>
   obtain⟨v,σ',H',J',rv,q⟩:=hs;exact⟨v,H',J'.os,J'.bare,J'.base,J'.hok,rv,q⟩
 | next=>
   obtain⟨σ',H',J',q⟩:=hs;exact⟨.non,H',J'.os,J'.bare,J'.base,J'.hok,rfl,q⟩
 | brk=>
   obtain⟨_,_,_,q⟩:=hs;exact QZ q
 | cont=>
   obtain⟨_,_,_,q⟩:=hs;exact QZ q
end
section
variable {M:Model}{A:U9}{E:Ut->Ux->Prop}{s:Ux}{base:Heap}{env:Env}{outer:List Env}{L e t:Addr}{cls:Ut}{dx:Option Addr}
theorem ztn(hfr:A.frames=some (env::outer))(hl:s.heap.FunFrames base (env::outer))(hf:env.frame=some L)
 (he:s.heap.get? e=some oe) (hc:oe.cls=cls) (hx:oe.dict=dx) (hd:oe.data = .fields vs) (hz:1<vs.size) (h2:vs[2]? = some .none\/chA cls) (h1:vs[1]? = some .none)
 (q:∀h' t,FlyN h' e cls dx t L->s.heap.objs.size<=t->Flew (frs (env::outer)) e none s.heap h'->h'.FunFrames base (env::outer)->Q () { s with heap:=h' }):wpAny M A (Gr (.ref e) env) Q E s:=by
 unfold Gr;simp only[hf];refine Us (U1 he hd h1 ?_);rw[TB (by decide)];exact zjg hfr hl hf he hc hx hd hz h2 q
theorem zhm(F:FlyN s.heap e cls dx t L)(q:∀h',FlyN h' e cls dx t L->(∀b o,b≠t->s.heap.get? b=some o->h'.get? b=some o)->Q () { s with heap:=h' }):wpAny M A (Gn (.ref e) (some L)) Q E s:=by
 obtain⟨oT,ts,ht,dt,z3,t4,d4,v4,ot⟩:=F.set (rawInt L);obtain⟨oe,vs,he,hc,hx,hd,hz,h1,h2⟩:=F.obj;unfold Gn;refine Us (U1 he hd h1 ?_);rw[T0 (by simp)];exact UX ht dt z3 (q _ ⟨⟨oe,vs,(ot e (QN F.ne)).trans he,hc,hx,hd,hz,h1,h2⟩,F.ne,_,_,t4,d4,v4⟩ λb o nb hb=>(ot b nb).trans hb)
theorem zk4(hf:env.frame=some L)(F:FlyN s.heap e cls dx t L)(q:Q () s):wpAny M A (Gr (.ref e) env) Q E s:=by
 obtain⟨oe,vs,he,hc,hx,hd,hz,h1,h2⟩:=F.obj;obtain⟨oT,ts,ht,dt,t3⟩:=F.note;unfold Gr;simp only[hf];refine Us (U1 he hd h1 ?_);rw[T0 (by simp)];refine Us (U1 ht dt t3 ?_);rw[T0 (by simp)];exact Uv q
theorem zm5(F:FlyN s.heap e cls dx t L)(q:Q (.ref t) s):wpAny M A (GK (.ref e) 1) Q E s:=by
 obtain⟨oe,vs,he,hc,hx,hd,hz,h1,h2⟩:=F.obj;exact U1 he hd h1 q
theorem zqi(hf:env.frame=some L)(F:FlyN s.heap e cls dx t L)(q:∀h',Fly h' e cls dx (some t)->(∀b o,b≠t->s.heap.get? b=some o->h'.get? b=some o)->Q () { s with heap:=h' }):wpAny M A (leaving env (.ref e)) Q E s:=by
 exact Us (zk4 hf F (zk7 F q))
end
section
variable {P:Uy}{w:U0}{X:Cx}{E:XK}{pins:List (Addr×Obj)}{σ:St}{H:Hp}{s:Ux}{a C dx t:Addr}
theorem Bdy.outN(B:Bdy P w X E)(I:Inv X pins σ H s)(F:FlyN s.heap a (.ref C) (some dx) t X.env.locals)(na:H a=none)(fa:X.s₀.heap.objs.size<=a)(nt:H t=none)(ft:X.s₀.heap.objs.size<=t)(q:E (.ref C) (some dx) H):X.xe (.ref a) s:=by
 rw[B.xe];refine zqi B.fr F λh' F' kp=>?_;have bu:=I.base;rw[B.ex] at bu
 have hok:HOk P w H h':=B.prog ▸ B.wld ▸ λb o e=>(I.hok b o e).stay (λc u hc g=>kp c u (λz=>by
  rcases hc with z'|z'
  .rw[<- z',z,nt] at e;cases e
  .rw[z,nt] at z';cases z') g) (λ_ z=>z) λ_ _ z=>z
 have s0:∀b o,X.s₀.heap.get? b=some o->b≠t:=λb o g z=>by rw[z] at g;exact absurd (Qg g) (Z3.mpr ft)
 have un:Un (frs X.outer) [] X.H₀ H X.s₀.heap h':={
  keep:=λb o g n hb hx=>kp b o (s0 b o g) (bu.keep b o g n hb hx)
  slot:=λb o g n hb hx=>by
   obtain⟨sl,g1⟩:=bu.slot b o g n hb hx;exact⟨sl,kp b _ (s0 b o g) g1⟩
  free:=bu.free
  there:=λb o g hx=>by
   obtain⟨o1,g1⟩:=bu.there b o g hx;exact⟨o1,kp b o1 (s0 b o g) g1⟩
  tups:=bu.tups
  frzs:=bu.frzs
  tbls:=bu.tbls }
 refine⟨a,C,dx,some t,H,rfl,I.os,I.bare,un,hok,F',na,fa,λu z=>?_,q⟩;cases z;exact⟨nt,ft⟩
end
section
variable {prog:Uy}{w:U0}{A:U9}{E:Ut->Ux->Prop}{s:Ux}{x C N:Addr}{env:Env}{ev cv:Sem Ut}{K:Qa}
variable {nm q:Str}{bs bm:List Ut}{sn:List Str}{sub:List Ut}{ab:Bool}{col:Option Bool}{dd:Option Addr}{k0 k1 k2 k3 k5:Option Ut}{newId:String}
abbrev zfd(h:Heap)(x a:Addr):Heap:=((h.update x (QQ (·.setIfInBounds 3 (Q9 a)))).update x (QQ (·.setIfInBounds 4 (ZC true)))).update x (QQ (·.setIfInBounds 2 (Q9 a)))
theorem zlp:entryFor table "proto.unchain" = some Builtin.«proto.unchain»:=entryFor_of_fast (by kernel_rfl)
theorem zlr(hm:bm.contains (.type "BaseException")=true)(hh:A.handled=some (.ref a))
 (h:wpAny (model prog w) A ev (λv s1=>∃x,v = .ref x/\wpAny (model prog w) A cv (λv2 s2=>v2 = .ref a/\∃(t:Addr) (dx:Option Addr) (oa:Obj) (vsa:Array Ut),K.In s2.heap/\s2.heap.get? C=some (Gm nm q C N bs bm true sn sub ab col dd k0 k1 k2 k3 k5 newId)/\s2.heap.get? x=some (ze1 C t dx)/\s2.heap.get? a=some oa/\oa.cls = .ref C2/\oa.data = .fields vsa/\vsa[2]? = some .none/\a≠x/\QG K C2 (.type "BaseException")=some true /\
  E (.ref x) { s2 with heap:=zfd s2.heap x a }) E s1) E s) :
 wpAny (model prog w) A (To env (some ev) (some cv)) Q E s:=by
 have cB:(Q9 C::bm).contains (.type "BaseException")=true:=by rw[Yr,hm,Bool.or_true]
 unfold To;refine Us (U2 h (λv s1 h1=>?_) λ_ _ z=>z);obtain⟨x,rfl,h1⟩:=h1;refine Us (UA (U2 h1 (λv2 s2 h2=>?_) λ_ _ z=>z));obtain⟨rfl,t,dx,oa,vsa,X,gC,gx,ga,ca,da,va,ne,mr,z⟩:=h2;obtain⟨hh2,g1,d1,u1,o1⟩:=s2;obtain⟨ocl,odx,odt,osl⟩:=oa;cases ca;cases da;have sm:=Jh (M:=model prog w) X mr
 repeat (first|with_reducible refine UG gx ?_|with_reducible refine UG gC ?_|with_reducible refine UG ga ?_|(with_reducible refine G0 gC ?_;rw[cB])|with_reducible refine sm.here ?_|wp_step)
 have ncx:C≠x:=λz=>by rw[z,gx] at gC;exact nomatch congrArg (λo:Option Obj=>o.map Obj.cls) gC
 have gC2:((hh2.update x (QQ (·.setIfInBounds 3 (Q9 a)))).update x (QQ (·.setIfInBounds 4 (ZC true)))).get? C=_:=(Qx _ _ (QN ncx)).trans ((Qx _ _ (QN ncx)).trans gC);have gx3:(hh2.update x (QQ (·.setIfInBounds 3 (Q9 a)))).get? x=some { ze1 C t dx with data:=.fields #[.ref t,.none,.none,.ref a,.bool false,.none] }:=QM _ gx rfl;have gx4:((hh2.update x (QQ (·.setIfInBounds 3 (Q9 a)))).update x (QQ (·.setIfInBounds 4 (ZC true)))).get? x=some { ze1 C t dx with data:=.fields #[.ref t,.none,.none,.ref a,.bool true,.none] }:=QM _ gx3 rfl;have ga4:((hh2.update x (QQ (·.setIfInBounds 3 (Q9 a)))).update x (QQ (·.setIfInBounds 4 (ZC true)))).get? a=_:=(Qx _ _ (QN ne)).trans ((Qx _ _ (QN ne)).trans ga);refine UG gC2 ?_;refine Uv ?_;rw[T0 (show(J0 "type" == J0 "type")=true by decide)];refine Uv ?_;unfold Gn;refine Us (Us (U1 gx4 rfl (x:=.none) rfl ?_));rw[TB (by decide)];refine Uv ?_;unfold raiseNew;refine Us (wpAny_handled ?_);rw[hh];dsimp only;have nx:(Q9 a != Q9 x)=true:=by simp[ne]
 rw[T0 nx];refine Us (UA (wpAny_runValue (codeAny_builtin zlp ?_)));unfold Builtin.«proto.unchain»;dsimp only;refine Us (U1 ga4 rfl va ?_);rw[T0 (by decide)];refine Us (Uv (Uv ?_));show wpAny _ _ _ _ _ _;refine Us ?_;unfold updateField;refine Us (wpAny_load gx4 ?_);dsimp only;rw[T0 (show 2<(#[Q9 t,Zr,Zr,Q9 a,ZC true,Zr]:Array Ut).size from(by decide:2<6))];exact wpAny_update gx4 (Tv z)
end
def znf(K:Qa)(CL:Addr)(i:Nat)(C:Addr)(ns:List Str)(E:XK)(t:TA)(σ:St):XK:=λCv dxo H'=>∃C' dx,Cv = .ref C'/\dxo=some dx/\QG K C' (.ref CL)=some true/\QG K C' (.type "BaseException")=some true/\¬chA (.ref C') /\
 ∀a,H' a=none->t (σ.set i (some (.ref a))) (upd H' a (XR a C' dx)) λvs H1=>H1 a=some (XR a C' dx)/\vs.length=ns.length/\∀d,H1 d=none->E (.ref C) (some d) (upd H1 d (.xd (ns.zip vs)))
def zid(K:Qa)(CL:Addr)(i:Nat)(tb:XK->TS)(C:Addr)(ns:List Str)(E:XK)(t:TA):TS:=λD σ H=>tb (znf K CL i C ns E t σ) D σ H
section
variable {P:Uy}{w:U0}{X:Cx}{E:XK}
theorem Inv.recs{pins:List (Addr×Obj)}{σ:St}{H:Hp}{s:Ux}{h':Heap}{t':Nat}{ch:List Addr}(I:Inv X pins σ H s)(kp:∀b o,b ∉ ch->s.heap.get? b=some o->h'.get? b=some o)(nH:∀b∈ch,H b=none)(fr:∀b∈ch,(b∈X.ex\/X.s₀.heap.objs.size<=b)/\b≠X.env.locals/\(∀x c,X.env.cells.lookup x=some c->c≠b)/\∀p∈X.pn++pins,p.1≠b):Inv X pins σ H { s with heap:=h',toks:=t' }:=by
 refine Inv.call (s:=s) (h':=h') (H':=H) I (g':=s.gens) (d':=s.drawn) (t':=t') (ch:=ch) ⟨λb o g m _ hx=>kp b o hx g,λb o g m _ hx=>⟨o.slots,kp b o hx g⟩,λb o g m _=>m,λb o g hx=>⟨o,kp b o hx g⟩,λ_ _ q=>q,λ_ _ _ q=>q,λb ps q=>⟨#[],by rw[JI];exact q⟩⟩ (λb o q=>(I.hok b o q).stay (λc u hc g=>kp c u (λz=>?_) g) (λ_ z=>z) λ_ _ z=>z) I.bare fr;rcases hc with rfl|hc
 .rw[nH _ z] at q;cases q
 .rw[nH _ z] at hc;cases hc
theorem Inv.young{pins:List (Addr×Obj)}(I:Inv X pins σ H s)(hb:s.heap.objs.size<=b):(b∈X.ex\/X.s₀.heap.objs.size<=b)/\b≠X.env.locals/\(∀x c,X.env.cells.lookup x=some c->c≠b)/\∀p∈X.pn++pins,p.1≠b:=by
 refine⟨.inr (Q5 I.sz hb),λz=>?_,λx c e z=>?_,λp hp z=>?_⟩
 .exact absurd I.lt (Z3.mpr (z ▸ hb))
 .obtain⟨v,o,ho,_⟩:=I.cell x c e;exact absurd (Qg ho) (Z3.mpr (z ▸ hb))
 .exact absurd (Qg (I.pin p hp).1) (Z3.mpr (z ▸ hb))
theorem zoj{body:List Stmt}{hpos cpos rpos:Pos}{i:Nat}(B:Bdy P w X E)(hst:X.stack=X.env::X.outer)(hg:Gl X cx)(hm:X.mg cx=some (.ref CL))(cc:CatchC X.K CL)
 (hN:X.N.Nodup) (hi:X.N[i]? = some n) (hk:X.env.scope.names.lookup n=some .local)
 (hb:∀pins σ E W,zde (X.wish W) pins σ E->PSsf (X.wish W) pins σ body (tb E))
 (M:XMk X.K C f [fl]) (Ii:Init1 X.K f fl) (hr:RoomH 2 X.A) (hgx:Gl X x) (hmx:X.mg x=some (.ref C)) (hch:chA (.ref C)) (ha:∀a,PA (zct X a) (e::es) t)
 (hdb:(cx == ("__debug__" : Str))=false:=by decide) (hdx:(x == ("__debug__" : Str))=false:=by decide) (hdn:(n == ("__debug__" : Str))=false:=by decide) (hdc:(n == ("__classdict__" : Str))=false:=by decide)
 (he:Uw (e::es) X.env=(false,eval e X.env)::Uw es X.env:=by rfl) (hpl:(UD cpos (Uw es X.env)).any (·.1)=false:=by rfl) :
 PS X (.Try body [.ExceptHandler (some (.Name cx np)) (some n) [.Raise (some (.Call (.Name x xp) (e::es) [] cpos)) (some (.Name n np2)) rpos] hpos] [] [] pos) (zid X.K CL i tb C [fl] E t):=by
 intro pins s σ H D I h;have hfr:=B.fr;refine wpAny_Try_except ?_;refine U2 (hb pins σ (znf X.K CL i C [fl] E t σ) (λe s1=>∃H1 s0,Inv X pins σ H1 s0/\CX1 X.prog X.w X.stack H1 s0 (znf X.K CL i C [fl] E t σ) e s1) (λH1 s0 e s' I0 q=>⟨H1,s0,I0.unwish,q⟩) s H D (I.wish _) h) (λf s1 z=>?_) λe s1 z=>?_
 .have z':=SP.unwish z
  cases f with
  | next=>exact UL z'
  | brk=>exact z'
  | cont=>exact z'
  | ret u=>exact z'
 obtain⟨H1,s0',I0,a,C1,dx,T,H',rfl,os,bare,un,hok,F,na,fa,hT,C',dx',e1,e2,mr,mb,nch,hq⟩:=z;cases e1;cases e2;have I1:Inv X pins σ H' s1:=I0.call' os un hok bare (λb z=>absurd z (by simp));have fr0:X.A.frames=some (X.env::X.outer):=by rw[I0.ok.frames,hst]
 have st0:s1.heap.FunFrames X.base (X.env::X.outer):=by have:=I1.stack;rwa [hst] at this
 have bT:∀t,T=some t->X.base.get? t=none:=λt z=>by
  cases g:X.base.get? t with
  | none=>rfl
  | some o=>exact absurd (Qg (I0.bk t o g)) (Z3.mpr (hT t z).2)
 refine zhw fr0 st0 hfr bT F λh2 t2 F2 nt2 W2 fr2=>?_;have frn:∀b∈frs (X.env::X.outer),H' b=none:=by have:=I1.stkFree;rwa [hst] at this
 have hok2:=W2.hok I1.hok na (λt z=>(hT t z).1) frn
 have I2:Inv X pins σ H' { s1 with heap:=h2 }:=by
  refine I1.call (g':=s1.gens) (d':=s1.drawn) (t':=s1.toks) (ch:=a::T.toList) (by rw[hst];exact W2.un) hok2 I1.bare λb hb=>?_;rcases Q3.mp hb with rfl|hb
  .exact Inv.young I0 fa
  .cases T with
   | none=>cases hb
   | some t=>rw[Qn.mp hb];exact Inv.young I0 (hT t rfl).2
 obtain⟨oc,od,cd,sl,hl⟩:=cc.cls;obtain⟨oe,vs,ge,ce,xe,de,ze,_,_⟩:=F2.obj;have I2m:=zgc I2 a;refine wpAny_handleBy_cons (GP (zcn (X:=zct X a) I2m hg hm (zkt (K:=X.K) I2.kIn ge ce cc.ty hl mr cc.base ?_) hdb)) (λz=>nomatch z);show Gi _ _ _ _ _;refine GA (zmj F2 λh3 F3 k3=>?_);obtain⟨oe3,vs3,ge3,ce3,xe3,de3,ze3,_,ch3⟩:=F3.obj;have n2:H' t2=none:=I1.hok.fresh nt2;have I3:Inv X pins σ H' { s1 with heap:=h3 }:=Inv.recs (s:={ s1 with heap:=h2 }) (t':=s1.toks) (ch:=[t2]) I2 (λb o hx g=>k3 b o (λz=>hx (by rw[z];exact Qn.mpr rfl)) g) (λb hb=>by rw[Qn.mp hb];exact n2) λb hb=>by rw[Qn.mp hb];exact Inv.young I1 nt2
 obtain⟨x1,x2,x3,x4⟩:=Inv.young I0 fa;have I4:Inv X pins σ (upd H' a (XR a C1 dx)) { s1 with heap:=h3 }:=Inv.track I3 na (Q5 I0.sz fa) x2 x3 x4 ⟨⟨oe3,vs3,ge3,ce3,xe3,de3,ch3⟩,⟨_,ge3⟩,λg1 g2 ⟨o,vs,z1,z2⟩ k=>⟨o,vs,k _ z1,z2⟩⟩;refine zcv (X:=zct X a) (v:=.ref a) (zgc I4 a) hN hi (.inl hk) rfl (λs4 I5=>?_) (.inr hk);obtain⟨nm,q,N,bs,bm,bmB,sn,sub,ab,col,dd,k0,k1,k2,k3',k5,B1,newId,initId,hC,T1,EB⟩:=id M.cls;have hb2:bm.contains (.type "BaseException")=true:=(T1 _ I5.kIn).hasType EB.hasBase;refine Gj ?_;rw[arm_exec_Raise];refine Us (UQ (U2 (Q:=λ_ _=>False) (zlr (C:=C) (K:=X.K) (C2:=C1) (nm:=nm) (q:=q) (N:=N) (bs:=bs) (sn:=sn) (sub:=sub) (ab:=ab) (col:=col) (dd:=dd) (k0:=k0) (k1:=k1) (k2:=k2) (k3:=k3') (k5:=k5) (newId:=newId) hb2 rfl ?_) (λ_ _ z=>z.elim) λ_ _ z=>z));refine Us (U4 (zcn (X:=zct X a) I5 hgx hmx ?_ hdx));refine Jo (h₀:=X.base) I5.ok.mod.kin M.kp (U2 (ha a cpos pins s4 _ _ _ I5 (hq a na)) (λus s5 ⟨vs5,H5,I6,r,hXR,hl',hE⟩=>⟨I6.kIn,?_⟩) λ_ _ z=>QZ z) he hpl;refine U2 (zi7 (X:=zct X a) M (λs2 H2 us2 vs2 Q2 kin e0 r2 sp=>z2s Ii ((hr.mark _).make C us []) e0 r2 sp) I6 r hl' (show 1<=1000 by decide) λs6 x d I7 sx nx nd ndx=>?_) (λ_ _ z=>z) λ_ _ z=>QZ z;refine Us (UQ (Uv ⟨x,rfl,?_⟩));have il:i<(σ.length):=by rw[I.len];exact(Qk.mp hi).1
 have nax:a≠x:=λz=>by rw[z,nx] at hXR;cases hXR
 have nad:a≠d:=λz=>by rw[z,nd] at hXR;cases hXR
 refine Us (U2 (zal (X:=zct X a) (i:=i) hi (.inl hk) hdn hdc pins s6 _ _ (λv H'=>v = .ref a/\H'=upd (upd H5 d (.xd ([fl].zip vs5))) x (XO x C (some d))) I7 ⟨_,by rw[QE il],rfl,rfl⟩) (λu s7 ⟨v,H8,I8,rv,ev,eH⟩=>?_) λ_ _ z=>QZ z);subst ev eH;obtain rfl:u=Q9 a:=rv;refine Us (UQ (Uv ⟨rfl,?_⟩));obtain⟨tt,gx⟩:=XO.at I8 zaj;have h8:(upd (upd H5 d (.xd ([fl].zip vs5))) x (XO x C (some d))) a=some (XR a C1 dx):=by rw[zae nax,zae nad];exact hXR
 obtain⟨oa,vsa,ga,ca,_,da,ch⟩:=(I8.hok a _ h8).1;refine⟨tt,some d,oa,vsa,I8.kIn,I8.kIn _ _ hC,gx,ga,ca,da,ch.resolve_right nch,nax,mb,?_⟩;have gx2:(zfd s7.heap x a).get? x=some { ze1 C tt (some d) with data:=.fields #[.ref tt,.none,.ref a,.ref a,.bool true,.none] }:=QM _ (QM _ (QM _ gx rfl) rfl) rfl;have kx:∀b o,b≠x->s7.heap.get? b=some o->(zfd s7.heap x a).get? b=some o:=λb o nb g=>(Qx _ _ (QN nb)).trans ((Qx _ _ (QN nb)).trans ((Qx _ _ (QN nb)).trans g));have I9:=Inv.drop I8 (x:=x) (by rw[zaj];exact trivial)
 have eH9:zg8 (upd (upd H5 d (.xd ([fl].zip vs5))) x (XO x C (some d))) x=upd H5 d (.xd ([fl].zip vs5)):=by
  funext b
  by_cases z:b=x
  .rw[z,ze0,zae (QN ndx),nx]
  .rw[zck z,zae z]
 rw[eH9] at I9;have hE:=hE d nd;have n9x:upd H5 d (.xd ([fl].zip vs5)) x=none:=by rw[zae (QN ndx)];exact nx
 generalize upd H5 d (.xd ([fl].zip vs5))=H9 at I9 hE n9x;have I6u:=zci I.ok I6;have yx:=Inv.young I6u sx;have I10:Inv X pins (σ.set i (some (.ref a))) H9 { s7 with heap:=zfd s7.heap x a }:=Inv.recs (t':=s7.toks) (ch:=[x]) (zci I.ok I9) (λb o hx g=>kx b o (λz=>hx (by rw[z];exact Qn.mpr rfl)) g) (λb hb=>by rw[Qn.mp hb];exact n9x) λb hb=>by rw[Qn.mp hb];exact yx
 have st10:(zfd s7.heap x a).FunFrames X.base (X.env::X.outer):=by have:=I10.stack;rwa [hst] at this
 refine ztn (M:=model X.prog X.w) (A:=X.A.mark (some (.ref a))) (base:=X.base) (outer:=X.outer) (cls:=.ref C) (dx:=some d) fr0 st10 hfr gx2 rfl rfl rfl (by show 1<6;decide) (.inr hch) rfl λh9 t9 F9 nt9 W9 fr9=>?_;have frn9:∀b∈frs (X.env::X.outer),H9 b=none:=by have:=I10.stkFree;rwa [hst] at this
 have I11:Inv X pins (σ.set i (some (.ref a))) H9 { s7 with heap:=h9 }:=Inv.call (s:={ s7 with heap:=zfd s7.heap x a }) (h':=h9) (H':=H9) I10 (g':=s7.gens) (d':=s7.drawn) (t':=s7.toks) (ch:=[x]) (by rw[hst];exact W9.un) (W9.hok I10.hok n9x (λt z=>nomatch z) frn9) I10.bare λb hb=>by rw[Qn.mp hb];exact yx
 have n9t:H9 t9=none:=I10.hok.fresh nt9;have yt:=Inv.young I10 nt9;obtain⟨ox,vsx,px,cx',dx',dtx,zx,v1,v2⟩:=F9.obj;obtain⟨oT,ts,ht9,dT,tt3⟩:=F9.note
 have I12:Inv X [(x,ox),(t9,oT)] (σ.set i (some (.ref a))) H9 { s7 with heap:=h9 }:=I11.pins_of λp hp=>by
  rcases Q3.mp hp with rfl|hp
  .exact⟨px,n9x,yx.2.1,I6u.nofs sx,λv z=>by rw[dtx] at z;cases z⟩
  .rw[Qn.mp hp];exact⟨ht9,n9t,yt.2.1,I10.nofs nt9,λv z=>by rw[dT] at z;cases z⟩
 refine zee I12 hN hi hk λs10 I13=>?_;have F13:FlyN s10.heap x (.ref C) (some d) t9 X.env.locals:=⟨⟨ox,vsx,(I13.pin (x,ox) (by simp)).1,cx',dx',dtx,zx,v1,v2⟩,F9.ne,oT,ts,(I13.pin (t9,oT) (by simp)).1,dT,tt3⟩;have I13u:Inv X [] ((σ.set i (some (.ref a))).set i none) H9 s10:=I13.pins_of λp hp=>by cases hp
 unfold PySem.passOn;refine Us (zm5 F13 ?_);rw[TB (by simp)];rw[hfr];refine Us (zhm F13 λh14 F14 k14=>Tv ?_);show wpAny _ _ (Gr (.ref x) X.env) _ _ _;refine zk4 hfr F14 ?_;show wpAny _ _ _ _ _ _;refine Us (zm5 F14 ?_);rw[TB (by simp)];rw[hfr];refine zhm F14 λh15 F15 k15=>?_
 have I15:Inv X [] ((σ.set i (some (.ref a))).set i none) H9 { s10 with heap:=h15 }:=Inv.recs (t':=s10.toks) (ch:=[t9]) I13u (λb o hx g=>k15 b o (λz=>hx (by rw[z];exact Qn.mpr rfl)) (k14 b o (λz=>hx (by rw[z];exact Qn.mpr rfl)) g)) (λb hb=>by rw[Qn.mp hb];exact n9t) λb hb=>by
  rw[Qn.mp hb];exact⟨yt.1,yt.2.1,yt.2.2.1,λp hp=>yt.2.2.2 p (by rw[QF] at hp;exact Jb _ hp)⟩
 exact B.outN I15 F15 n9x (Q5 I6u.sz sx) n9t (Q5 I10.sz nt9) hE
end
def FnN(mg:Str->Option Ut)(x:Str):Thg:=⟨λ_ _ _ _ v=>∃f,mg x=some (.ref f)/\v = .ref f,λ_ _ _ h=>h⟩
section
variable {X:Cx}{e:Expr}{es:List Expr}{t:TA}{pos p:Pos}{k i:Nat}{f:Addr}{fd:UM}{ps:List Str}{sp:Sp}{E:XK}{x:Str}
def zsm(i:Nat)(f:Addr)(sp:Sp)(E:XK)(t:TA):TE:=λσ H Q=>σ[i]? = some (some (.ref f))/\zcf sp [] E t σ H Q
end
section
variable {K:Qa}{O:Ob}{mg:Str->Option Ut}
theorem zzh{i:Nat}(S:Seen K O H σ ρ)(e:ρ[i]? = some (some (.thr (FnN mg x))))(m:mg x=some (.ref f)):σ[i]? = some (some (.ref f)):=by
 obtain⟨v,hv,W,hw,f',m',rfl⟩:=S.at_ i _ e;rw[m] at m';cases m';exact hv
def gFnA(mg:Str->Option Ut)(x:Str)(g:DGA):DGA:=λρ Q=>g ρ λrs=>Q (.thr (FnN mg x)::rs)
theorem z6f(m:mg x=some (.ref f))(h':AG K O u g):AG K O (za1 (tC (.ref f)) u) (gFnA mg x g):=λσ H ρ Q Qd S hf k=>by
 refine h' σ H ρ _ _ S hf λvs H2 rs s2 a2 q2=>?_;exact k (.ref f::vs) H2 (.thr (FnN mg x)::rs) s2 ⟨.inr (.inr (.inr ⟨FnN mg x,rfl,λ_=>False,λ_ z=>z.elim,f,m,rfl⟩)),a2⟩ q2
end
section
variable {ι κ:Type}{P:Uy}{w:U0}{K:Qa}{mg:Str->Option Ut}{base:Heap}{k:Nat}{X:ι->Cx}{O:κ->Ob}{a:Expr}{es:List Expr}{ga:DA}{gg:DGA}{pos p:Pos}
theorem g_fn(C:Ctx3 P w K mg base k X)(m:mg x=some (.ref f))(hs:AG3 K X O es gg)(hg:∀i,Gl (X i) x:=by intro i;rfl)(hdb:(x == ("__debug__" : Str))=false:=by decide)
 (he:∀i,Uw (.Name x px::es) (X i).env=(false,eval (.Name x px) (X i).env)::Uw es (X i).env:=by intro i;rfl):AG3 K X O (.Name x px::es) (gFnA mg x gg) :=
 let ⟨_,p2,d2⟩:=hs;⟨_,λi=>zaw (zz7 (v:=.ref f) (hg i) (by rw[C.hmg];exact m) rfl hdb) (p2 i) (he i),λj=>z6f m (d2 j)⟩
end
def zmw(K:Qa)(mg:Str->Option Ut)(CL:Addr)(i:Nat)(gb:DSf)(c:Str)(ns:List Str)(f:DA):DS:=λDd ρ=>gb Dd ρ λr=>∃c1 ns1 ds1 C1,r = .o (excD c1 ns1 ds1)/\mg c1=some (.ref C1)/\QG K C1 (.ref CL)=some true/\QG K C1 (.type "BaseException")=some true/\¬chA (.ref C1)/\flats ds1=true/\f (ρ.set i (some (.exc C1 ns1 ds1))) λds=>ds.length=ns.length/\Dd.rt (.o (excD c ns ds))
section
variable {K:Qa}{mg:Str->Option Ut}{O:Ob}{E:XK}
theorem zoo{i:Nat}(hm:mg c=some (.ref C))(hb:SDf K mg O tb gb)(h:AD K O t f):SDx K mg O E (zid K CL i tb C ns E t) (zmw K mg CL i gb c ns f):=λH₀ A σ H ρ D Dd r q P XP=>by
 refine hb _ H₀ A σ H ρ D Dd _ r q P λH' C1 dx d s1 o1 q1=>?_;obtain⟨c1,ns1,xs,ds,rfl,m,n,hd,l,is⟩:=o1;obtain⟨c',ns',ds',C',e,m',mr,mb,nch,fl,q1⟩:=q1;obtain⟨rfl,rfl,rfl⟩:=zn1 (R.o.inj e);rw[m] at m';cases m';refine⟨C1,dx,rfl,rfl,mr,mb,nch,λa ha=>?_⟩;have s2:Stp O H' (upd H' a (XR a C1 dx)):=.new r.ok ha _;have r1:=r.stp s1;have r2:=r1.stp s2;have p1:=s1.p r.p;have nm:∀b,H' b=none->¬O.M b:=λb hb z=>by obtain⟨o,w⟩:=r.ok.here H' b p1 z;rw[hb] at w;cases w
 have nA:∀j,¬A j a:=λj z=>by obtain⟨_,⟨o,w,_⟩,_⟩:=r1.own j a z;rw[ha] at w;cases w
 have nD:∀j,¬A j dx:=λj z=>by obtain⟨_,⟨o,w,_⟩,_⟩:=r.own j dx z;rw[n] at w;cases w
 have md:¬O.M dx:=λz=>by obtain⟨o,w⟩:=r.ok.here H dx r.p z;rw[n] at w;cases w
 have ne:dx≠a:=λz=>by rw[z,ha] at hd;cases hd
 have ex:ExAt (unO O A) (upd H' a (XR a C1 dx)) (.ref a) C1 ns1 xs:=⟨a,dx,rfl,⟨nm a ha,nA⟩,⟨md,nD⟩,zaj,by rw[zae ne];exact hd,l⟩;have is2:IsAll K (unO O A) (upd H' a (XR a C1 dx)) xs ds:=IsAll.flats (TupStay.refl _) (is.stp s2 (λ_ f=>f) (λ_ f=>f)) fl;have r3:=r2.setExc (i:=i) ex is2;refine h _ _ _ _ _ r3.seen q1 λvs H1 ds2 s3 is3 ⟨hl,q3⟩=>⟨s3.s a _ zaj (nm a ha),by rw[is3.length];exact hl,λd hd=>?_⟩;have s4:Stp O H1 (upd H1 d (.xd (ns.zip vs))):=.new r.ok hd _;have st:=((r.st.trans s1).trans s2).trans s3;have nmd:¬O.M d:=λz=>by obtain⟨o,w⟩:=r.ok.here H1 d (s3.p (s2.p p1)) z;rw[hd] at w;cases w
 exact XP _ C d _ (st.trans s4) ⟨c,ns,vs,ds2,rfl,hm,st.s.free nmd hd,zaj,by rw[is3.length];exact hl,is3.stp s4 (λ_ f=>f) (λ_ f=>f)⟩ q3
end
section
variable {P:Uy}{w:U0}{K:Qa}{mg:Str->Option Ut}{base:Heap}{k:Nat}{Y:Cx}{E:XK}{O:Ob}
theorem ztl{hpos cpos rpos:Pos}{body:List Stmt}(i:Nat)(B:Bdy P w Y E)(hP:Y.prog=P)(hw:Y.w=w)(hK:Y.K=K)(hmg:Y.mg=mg)(hm:mg cx=some (.ref CL))(cc:CatchC K CL)
 (M:XMk K C f [fl]) (Ii:Init1 K f fl) (hr:Room 2 Y.A) (hmx:mg x=some (.ref C)) (hch:chA (.ref C)) (hb:Bf3 K mg (λ_:Unit=>Y.nox) (λ_:Unit=>O) body gb) (ha:A3 K (znb (λ_:Unit=>Y.nox)) (λ_:Unit=>O) (e::es) fa)
 (hst:Y.stack=Y.env::Y.outer:=by rfl) (hg:Gl Y cx:=by rfl) (hgx:Gl Y x:=by rfl)
 (hN:Y.N.Nodup:=by exact Tz (by kernel_rfl)) (hi:Y.N[i]? = some n:=by rfl) (hk:Y.env.scope.names.lookup n=some .local:=by rfl) (hdb:(cx == ("__debug__" : Str))=false:=by decide) (hdx:(x == ("__debug__" : Str))=false:=by decide) (hdn:(n == ("__debug__" : Str))=false:=by decide) (hdc:(n == ("__classdict__" : Str))=false:=by decide)
 (he:Uw (e::es) Y.env=(false,eval e Y.env)::Uw es Y.env:=by rfl) (hpl:(UD cpos (Uw es Y.env)).any (·.1)=false:=by rfl) :
 Sx3 K mg Y E O (.Try body [.ExceptHandler (some (.Name cx np)) (some n) [.Raise (some (.Call (.Name x xp) (e::es) [] cpos)) (some (.Name n np2)) rpos] hpos] [] [] pos) (zmw K mg CL i gb x [fl] fa):=by
 subst hP hw hK hmg;obtain⟨tb,p,d⟩:=hb;obtain⟨t,p',d'⟩:=ha;exact⟨zid Y.K CL i tb C [fl] E t,zoj B hst hg hm cc hN hi hk (λpins σ E W hp=>p () W pins σ E hp) M Ii (Room.h hr) hgx hmx hch (λa=>p' ((),a)) hdb hdx hdn hdc he hpl,zoo hmx (d ()) (d' ())⟩
end
section
variable {X:Cx}{e:Expr}{es:List Expr}{pos p:Pos}{k i:Nat}{f:Addr}{fd:UM}{ps:List Str}{sp:Sp}{E:XK}{x:Str}{pins:List (Addr×Obj)}{σ:St}{t:TA}
theorem zrs(F:FnOk X.prog X.w X.K X.mg X.base (CX1 X.prog X.w) k f fd ps sp)(hr:Room k X.A)(hN:X.N[i]? = some x)(hv:Vis X.env.scope x)(hk:Zt X.K (.ref f)=true)(hb:Binds X.K fd ps [])(hx:zde X pins σ E)
 (ha:PAf X pins σ (e::es) t) (hd:(x == ("__debug__" : Str))=false:=by decide) (hcd:(x == ("__classdict__" : Str))=false:=by decide) (he:Uw (e::es) X.env=(false,eval e X.env)::Uw es X.env:=by rfl) (hpl:(UD pos (Uw es X.env)).any (·.1)=false:=by rfl) :
 PEf X pins σ (.Call (.Name x p) (e::es) [] pos) (zsm i f sp E t):=by
 intro s H Q I h;obtain⟨hs,h⟩:=h;refine U4 (thn (zal (pos:=p) hN hv hd hcd pins s σ H (λv H'=>v = .ref f/\H'=H) I ⟨_,hs,rfl,rfl⟩) λu s1 zz=>?_);obtain⟨v,H1,I1,r1,ev,eH⟩:=zz;subst ev eH;obtain rfl:u=Q9 f:=r1;refine Jo (h₀:=X.base) I1.ok.mod.kin hk (thn (ha pos s1 H1 _ I1 h) λus s2 ⟨vs,H2,I2,r,q⟩=>⟨I2.kIn,?_⟩) he hpl
 replace q:sp (vs ++ []) H2 Q E:=q
 rw[QF] at q;exact zpo F hr hb hx I2 r q
end
section
variable {K:Qa}{O:Ob}{mg:Str->Option Ut}
def z4z(mg:Str->Option Ut)(x:Str)(i n:Nat)(F:List Uu->(R->Prop)->Prop)(g:DA):DEf:=λρ N X=>ρ[i]? = some (some (.thr (FnN mg x)))/\calX n F g ρ N X
end
section
variable {ι κ:Type}{P:Uy}{w:U0}{K:Qa}{mg:Str->Option Ut}{base:Heap}{k:Nat}{X:ι->Cx}{O:κ->Ob}{a:Expr}{es:List Expr}{ga:DA}{pos p:Pos}
theorem zu7(i:Nat){k' n:Nat}(C:Ctx3 P w K mg base k X)(D:Def3x P w K mg base k' x ps (spX K mg φ n F))(hφ:∀j,φ (O j))(ha:A3 K X O (a::es) ga)(hk:k'<=k:=by decide)
 (hN:∀j,(X j).N[i]? = some y:=by intro i;rfl) (hv:∀j,Vis (X j).env.scope y:=by intro i;first|exact Or.inl rfl|exact Or.inr (Or.inl rfl)|exact Or.inr (Or.inr rfl)) (hd:(y == ("__debug__" : Str))=false:=by decide) (hcd:(y == ("__classdict__" : Str))=false:=by decide)
 (he:∀i,Uw (a::es) (X i).env=(false,eval a (X i).env)::Uw es (X i).env:=by intro i;rfl) (hpl:∀i,(UD pos (Uw es (X i).env)).any (·.1)=false:=by intro i;rfl):Ef3 K mg X O (.Call (.Name y p) (a::es) [] pos) (z4z mg x i n F ga):=by
 obtain⟨f,fd,G,m,kp,bn⟩:=D.ex;obtain⟨t,q,d⟩:=ha;refine⟨λE=>zsm i f (spX K mg φ n F) E t,λj W pins σ E hp=>?_,λj E σ H ρ Q N X S hf kk kx=>⟨zzh S hf.1 m,zm1 (hφ j) (d j) E σ H ρ Q N X S hf.2 kk kx⟩⟩
 have G':FnOk ((X j).wish W).prog ((X j).wish W).w ((X j).wish W).K ((X j).wish W).mg ((X j).wish W).base (CX1 ((X j).wish W).prog ((X j).wish W).w) k f fd ps (spX K mg φ n F):=by
  show FnOk (X j).prog (X j).w (X j).K (X j).mg (X j).base (CX1 (X j).prog (X j).w) k f fd ps _;rw[C.hP,C.hw,C.hK,C.hmg,C.hb];exact G.mono hk
 exact zrs G' (C.room j) (hN j) (hv j) (show Zt (X j).K _=_ by rw[C.hK];exact kp) (show L2.Binds (X j).K fd ps [] by rw[C.hK];exact bn) hp (λpos s H Q I q'=>PA.nox (X:=(X j).wish W) (by rw[zi9 (C.xe j)];exact q j) pos pins s σ H Q I q') hd hcd (he j) (hpl j)
end
section
variable {X:Cx}{pins:List (Addr×Obj)}{σ:St}
abbrev rIsT:R2:=λx y H Q=>∃b,y = .bl b/\Q (.bl (if false then !decide (x = .bl b) else decide (x = .bl b))) H
theorem zyj{cpos:Pos}(ha:PEf X pins σ a ta)(hb:PE X b (tC (.bl true)))(hs:PSs X sa t)(hu:PSs X sb u)(hm:UU .Is b=false):PSsf X pins σ [.If (.Compare a [.Is] [b] cpos) sa sb pos] (tIfS (zdm (tOp rIsT ta (tC (.bl true)))) t u):=by
 intro s H D I h
 refine Gj (wpAny_If (GQ (thn (ha s H _ I h) λv s1 ⟨x,H1,I1,r1,q1⟩=>thn (hb pins s1 σ H1 _ I1 q1) λu' s2 ⟨y,H2,I2,r2,q2⟩=>
  thn (z4h (neg:=false) pins s2 σ H2 x y v u' (λx H'=>∃k,x=V.bl k/\(if k=true then t D σ H' else u D σ H')) I2 r1 r2 q2) λc s3 zz=>?_) hm))
 obtain⟨z,H3,I3,r3,k,e,q3⟩:=zz;subst e;cases r3;refine UC ?_
 have fin:∀{fl:Flow} {s':Ux},SP X pins D fl s'->(match fl with | .next=>wpAny (model X.prog X.w) X.A (execs [] X.env) (SP X pins D) X.xe s'|f=>SP X pins D f s'):=λ{fl s'} z=>by
  cases fl with
  | next=>exact UL z
  | brk=>exact z
  | cont=>exact z
  | ret u=>exact z
 cases k with
 | true=>exact thn (hs pins s3 σ H3 D I3 q3) λf s4 z=>fin z
 | false=>exact thn (hu pins s3 σ H3 D I3 q3) λf s4 z=>fin z
end
def isT:Uu->Bool
 | .bool true=>true
 | _=>false
def ifTF(ff:DEf)(g k:DS):DSf:=λDd ρ X=>ff ρ (λr=>if isT r.d=true then g Dd ρ else k Dd ρ) X
section
variable {K:Qa}{O:Ob}{mg:Str->Option Ut}
theorem is_t{d:Uu}(h:Is K F H v d):decide (v = .bl true)=isT d:=by
 cases h with
 | bool b=>cases b <;> rfl
 | _=>rfl
theorem zyh(h:EDf K mg O t ff)(h1:SD K O t1 g)(h2:SD K O t2 k):SDf K mg O (λE=>tIfS (zdm (tOp rIsT (t E) (tC (.bl true)))) t1 t2) (ifTF ff g k):=λE H₀ A σ H ρ D Dd X r q P kx=>by
 refine h E σ H ρ _ _ _ r.seen q (λv H1 x s1 o1 q1=>?_) kx;have e:=is_t (o1.is r.ok r.p);refine⟨true,rfl,isT x.d,by rw[<- e];rfl,?_⟩
 cases z:isT x.d with
 | true=>
   rw[z,T0 rfl] at q1;rw[T0 rfl];exact h1 H₀ A σ H1 ρ D Dd (r.stp s1) q1 (P.frm (.stp s1))
 | false=>
   rw[z,TB Qo] at q1;rw[TB Qo];exact h2 H₀ A σ H1 ρ D Dd (r.stp s1) q1 (P.frm (.stp s1))
end
section
variable {ι κ:Type}{P:Uy}{w:U0}{K:Qa}{mg:Str->Option Ut}{base:Heap}{k:Nat}{X:ι->Cx}{O:κ->Ob}{a:Expr}{ff:DEf}{g1 g2:DS}{pos cpos p:Pos}{sa sb:List Stmt}
theorem PSs.nox{X:Cx}{sts:List Stmt}{t:TS}(h:PSs X.nox sts t):PSs X sts t:=λpins s σ H D I hw=>
 U2 (h pins s σ H D (I.wish _) hw) (λ_ _ q=>q.unwish) λ_ _ z=>QZ z
theorem z1u{j}(C:Ctx3 P w K mg base k X)(h:Ef3 K mg X O a ff)(h1:Ss3 K X O sa g1)(h2:Ss3 K X O sb g2):Bf3 K mg X O [.If (.Compare a [.Is] [.Constant (.bool true) j p] cpos) sa sb pos] (ifTF ff g1 g2):=by
 obtain⟨t,q,d⟩:=h;obtain⟨t1,q1,d1⟩:=h1;obtain⟨t2,q2,d2⟩:=h2;exact⟨_,λi W pins σ E hp=>zyj (q i W pins σ E hp) zxa (PSs.nox (X:=(X i).wish W) (by rw[zi9 (C.xe i)];exact q1 i)) (PSs.nox (X:=(X i).wish W) (by rw[zi9 (C.xe i)];exact q2 i)) (zb7 _),λi=>zyh (d i) (d1 i) (d2 i)⟩
end
end L3
namespace L3
open PySem PySem.Spec
open PyProof.Rows hiding St
open L2 L6 HK
def mayR(s:Sta)(a:Nat)(r:Rul):Prop:=s.rooms.getD a 0=r.p/\zd0 s r.d=true
theorem zhc(s:Sta)(a:Nat)(r:Rul):(decide (s.rooms.getD a 0=r.p) && zd0 s r.d)=true↔mayR s a r:=by
 unfold mayR;rw[Qu,TC]
theorem in_rules{a:Nat}:∀{rs:List Rul} {i k:Nat},Stp1.act a (i+k)∈za7 s a rs i↔∃r,rs[k]? = some r/\mayR s a r
 | [],i,k=>⟨λh=>(Q0 h).elim,λ⟨r,h,_⟩=>by cases h⟩
 | r::rs,i,0=>by
   rw[za7,Q6];constructor
   .rintro(h|h)
    .split at h
     .rename_i c
      exact⟨r,rfl,(zhc s a r).mp c⟩
     .cases h
    .obtain⟨k,_,e⟩:=zf0 rs (i+1) h;have:=(Stp1.act.inj e).2;lia
   .rintro⟨r',e,c⟩;cases e;rw[T0 ((zhc s a r).mpr c)];exact .inl (Qn.mpr rfl)
 | r::rs,i,k+1=>by
   rw[za7,Q6,show i+(k+1)=(i+1)+k by lia,in_rules (rs:=rs) (i:=i+1) (k:=k)];refine⟨λh=>h.elim (λh=>?_) id,.inr⟩
   split at h
   .have:=Stp1.act.inj (Qn.mp h);lia
   .cases h
theorem zmf: ∀{hs:List Hnd} {a c k:Nat},Stp1.act (a+c) k∈zba s hs a↔∃hd r,hs[c]? = some hd/\hd.rs[k]? = some r/\mayR s (a+c) r
 | [],a,c,k=>⟨λh=>(Q0 h).elim,λ⟨r,_,h,_⟩=>by cases h⟩
 | x::hs,a,0,k=>by
   rw[zba,Q6];constructor
   .rintro(h|h)
    .have h:Stp1.act a (0+k)∈za7 s a x.rs 0:=by rw[ZH];exact h
     obtain⟨r,e,m⟩:=in_rules.mp h;exact⟨x,r,rfl,e,m⟩
    .obtain⟨k',i,_,_,e⟩:=zeb hs (a+1) h;have:=(Stp1.act.inj e).1;lia
   .rintro⟨hd,r,e,e2,m⟩;cases e;have:=in_rules (i:=0) (k:=k) |>.mpr ⟨r,e2,m⟩;rw[ZH] at this;exact .inl this
 | x::hs,a,c+1,k=>by
   rw[zba,Q6,show a+(c+1)=(a+1)+c by lia,zmf (hs:=hs) (a:=a+1) (c:=c)];refine⟨λh=>h.elim (λh=>?_) id,.inr⟩;obtain⟨k',_,e⟩:=zf0 x.rs 0 h;have:=(Stp1.act.inj e).1;lia
def zb4(h:Hou)(s:Sta)(t:RSt):Option Sta:=if canR h s t=true then some (zce h s (toS t)) else none
theorem zwf{h:Hou}{a i:Nat}(ha:h.hands[a]? = some hd)(hr:hd.rs[i]? = some r):zb4 h s ⟨true,(a:Nat),(i:Nat)⟩=zf6 s a r:=by
 have e:zce h s (.act a i)=zfy s a r:=by
  show zfy s a ((h.hands.getD a ⟨0,[]⟩).rs.getD i ⟨0,.go,0⟩)=_;rw[ZF (l:=h.hands),ha,Y3,ZF,hr,Y3]
 have m:(⟨true,(a:Nat),(i:Nat)⟩:RSt)∈(zbr h s).map rsOf↔mayR s a r:=by
  have h1:=zmf (s:=s) (hs:=h.hands) (a:=0) (c:=a) (k:=i);rw[ZH] at h1;constructor
  .intro z;obtain⟨u,hu,eu⟩:=QS.mp z;have:u = .act a i:=z4n eu;rw[this] at hu;obtain⟨hd',r',e1,e2,m⟩:=h1.mp hu;rw[ha] at e1;cases e1;rw[hr] at e2;cases e2;exact m
  .intro z;exact QS.mpr ⟨.act a i,h1.mpr ⟨hd,r,ha,hr,z⟩,rfl⟩
 unfold zb4 zf6;rw[zoe]
 by_cases z:mayR s a r
 .rw[T0 (TH (m.mpr z)),T0 (show s.rooms.getD a 0=r.p/\zd0 s r.d=true from z)];exact congrArg some e
 .rw[TB (by rw[TF λw=>z (m.mp w)];exact Qo),TB (show ¬(s.rooms.getD a 0=r.p/\zd0 s r.d=true) from z)]
theorem zty{h:Hou}{i j:Int}(z:¬∃(a k:Nat) (hd:Hnd),i=a/\j=k/\h.hands[a]? = some hd/\k<hd.rs.length):zb4 h s ⟨true,i,j⟩=none:=by
 unfold zb4;rw[zoe,TB];rw[TC];intro w;obtain⟨u,hu,e⟩:=QS.mp w;obtain⟨k,p,hk,hp,rfl⟩:=zeb h.hands 0 hu;rw[ZH] at e;cases e;refine z ⟨k,p,_,rfl,rfl,Qi hk,?_⟩;rwa [ZF,Qi hk] at hp
theorem zq0{h:Hou}{a k:Nat}(ha:a<s.words.length)(hk:k<(s.words.getD a []).length):zb4 h s ⟨false,(a:Nat),(k:Nat)⟩=some (zl3 s a k):=by
 unfold zb4;rw[zh8,T0]
 .rfl
 .simp only[Qu,TC,ZI];lia
theorem zq7{h:Hou}{i j:Int}(z:¬∃a k:Nat,i=a/\j=k/\a<s.words.length/\k<(s.words.getD a []).length):zb4 h s ⟨false,i,j⟩=none:=by
 unfold zb4;rw[zh8,TB];simp only[Qu,TC];rintro⟨⟨h1,h2⟩,h3,h4⟩;exact z ⟨i.toNat,j.toNat,by lia,by lia,by lia,by lia⟩
theorem zu4{h:Hou}{n:Nat}(hh:HoOk h)(hs:StOk h n s)(e:zb4 h s t=some y):StOk h (n+1) y:=by
 unfold zb4 at e
 split at e
 .rename_i c
  cases e;exact zfb hh hs (zfo hs (zkn c).2)
 .cases e
theorem zgp{h:Hou}{n:Nat}(hs:StOk h n s)(hn:n<=90):StH h s:=⟨hs.rooms,hs.flags,hs.words,λw hw=>⟨Q5 (hs.short w hw) hn,zi6 (hs.low w hw)⟩⟩
theorem zvd{K:Qa}{LE C:Addr}{os:List Addr}{fl:Str}(R:Raise1 K LE C os fl):CatchC K C:=by
 obtain⟨f,M,_⟩:=R.init;obtain⟨nm,q,N,bs,bm,bmB,sn,sub,ab,col,dd,k0,k1,k2,k3,k5,B1,newId,initId,hC,_⟩:=M.cls;exact⟨by unfold ZM;simp[hC,Gm],⟨_,_,_,_,hC⟩,R.get.base⟩
theorem zz4{K:Qa}{LE C:Addr}{os:List Addr}{fl:Str}(R:Raise1 K LE C os fl):QG K C (.ref C)=some true:=by
 obtain⟨f,M,_⟩:=R.init;obtain⟨nm,q,N,bs,bm,bmB,sn,sub,ab,col,dd,k0,k1,k2,k3,k5,B1,newId,initId,hC,_⟩:=M.cls;unfold QG JD;simp[hC,Gm]
def zgs(h:Hou)(b a:Sta)(r:List RSt):Option Nat:=match resR h r 0 [] b with
 | .inl k=>some k
 | .inr L=>if abvB (L.getLast?.getD b) a=true then none else some r.length
def zrd:Option Nat->R
 | none=>.o (.bool true)
 | some k=>.o (excD "NoPaper" ["at"] [.int (k:Nat)])
def dueP:Option Nat->Uu
 | none=>.bool true
 | some k=>.int (k:Nat)
def dueQ(h:Hou)(a:Sta):List RSt->Nat->Nat->Sta->Option Nat
 | [],_,m,s=>if abvB s a=true then none else some m
 | t::ts,i,m,s=>match zb4 h s t with
   | none=>some i
   | some y=>dueQ h a ts (i+1) m y
theorem zlg{h:Hou}{m:Nat}:∀(r:List RSt) (i:Nat) (acc:List Sta) (b s:Sta),acc.getLast?.getD b=s->(match resR h r i acc s with
 | .inl k=>some k
 | .inr L=>if abvB (L.getLast?.getD b) a=true then none else some m)=dueQ h a r i m s
 | [],i,acc,b,s,e=>by
   rw[resR,dueQ];show(if abvB (acc.getLast?.getD b) a=true then none else some m)=_;rw[e]
 | t::ts,i,acc,b,s,e=>by
   rw[resR,dueQ];unfold zb4
   cases c:canR h s t with
   | false=>rfl
   | true=>
     rw[T0 rfl,T0 rfl];exact zlg ts (i+1) _ b _ (by rw[YW];rfl)
theorem zk9(h:Hou)(b a:Sta)(r:List RSt):zgs h b a r=dueQ h a r 0 r.length b:=zlg r 0 [] b b rfl
structure AskOk(h:Hou)(a:Sta):Prop where
 w:StW a
 n:a.words.length=h.lines
def zqu:List Uu->(R->Prop)->Prop:=λds Q=>∃(h:Hou) (n:Nat) (b a:Sta) (r:List RSt),ds = [za2 h,zak b,zak a,.tuple (r.map zan)]/\HoA h/\StOk h n b/\AskOk h a/\n+r.length<=90/\Q (zrd (zgs h b a r))
def zsj(mg:Str->Option Ut):List DV->(R->Prop)->Prop:=λrs Q=>∃(h:Hou) (n:Nat) (b a:Sta) (r:List RSt),rs = [.thr (FnN mg "run_holds"),.im (za2 h),.im (zak b),.im (zak a),.im (.tuple (r.map zan))]/\HoA h/\StOk h n b/\AskOk h a/\n+r.length<=90/\Q (.o (dueP (zgs h b a r)))
def zme:List Uu->(R->Prop)->Prop:=λds Q=>∃(h:Hou) (n:Nat) (s:Sta) (t:RSt),ds = [za2 h,zak s,zan t]/\HoA h/\StOk h n s/\n<=89/\Q (.o (optS (zb4 h s t)))
def zsl:List Uu->(R->Prop)->Prop:=λds Q=>∃(h:Hou) (n:Nat) (s:Sta),ds = [za2 h,zak s]/\HoA h/\StOk h n s/\n<=89/\Q (.n ((zbr h s++zau s.words 0).map zaz))
def zpt:List Uu->(R->Prop)->Prop:=λds Q=>∃(h:Hou) (b:Sta) (m:Nat),ds = [za2 h,zak b,.int (m:Nat)]/\HoA h/\StOk h 4 b/\m<=60/\∀r:List Stp1,zc9 h b r->r.length<=60->Q (.o (.tuple [.tuple (r.map zaz),.list ((b::zbd h b r).map zak)]))
def zt1:List Uu->(R->Prop)->Prop:=λds Q=>∃t:RSt,ds = [zan t]/\∀t',Q (.o (zan t'))
def ztm:List Uu->(R->Prop)->Prop:=λds Q=>∃r:List RSt,ds = [.tuple (r.map zan)]/\r.length<=60/\∀r':List RSt,r'.length<=60->Q (.o (.tuple (r'.map zan)))
def zwq:List Uu->(R->Prop)->Prop:=λds Q=>∃(h:Hou) (n:Nat) (b a:Sta) (r:List RSt),ds = [za2 h,zak b,zak a,.tuple (r.map zan)]/\HoA h/\StOk h n b/\AskOk h a/\n+r.length<=88/\Q (.o (dueP (dueQ h a r 0 r.length b)))
def zo1:List Uu->(R->Prop)->Prop:=λds Q=>∃(h:Hou) (n:Nat),ds = [za2 h,.int (n:Nat)]/\HoA h/\n<=50/\∀s,StOk h n s->(∀m∈s.rooms++s.flags,m<1000)->Q (.o (zak s))
section
variable {K:Qa}{O:Ob}
def zxb(i j:Nat)(fa fb:DE):DS:=λDd ρ=>fa ρ λr1=>fb ρ λr2=>∃d es,r1 = .o d/\r2 = .n es/\flat d=true/\flats es=true/\Dd.nx ((ρ.set i (some (.im d))).set j (some (.own es)))
theorem zy0{i j:Nat}(ha:ED K O ta fa)(hb:ED K O tb fb):SD K O (tPar i j (za1 ta (za1 tb tNil))) (zxb i j fa fb):=λH₀ A σ H ρ D Dd r q P=>by
 refine ha σ H ρ _ _ r.seen q λv H1 r1 s1 o1 q1=>?_;refine hb σ H1 ρ _ _ (r.seen.stp s1) q1 λu H2 r2 s2 o2 zz=>?_;obtain⟨d,es,e1,e2,f1,f2,q2⟩:=zz;subst e1 e2;obtain⟨a2,x2,rfl,n2,l2,i2⟩:=o2;refine⟨_,_,rfl,?_⟩;have ra:=(r.stp s1).setIm (i:=i) (Is.flat (TupStay.refl H1) o1 f1);have rb:=ra.setOwn (i:=j) s2 n2 l2 i2 f2;exact P.nx _ _ H2 _ rb ((Frm.setIm (i:=i) s1).trans (.setOwn (i:=j) s2 n2)) q2
end
section
variable {ι κ:Type}{P:Uy}{w:U0}{K:Qa}{mg:Str->Option Ut}{base:Heap}{k:Nat}{X:ι->Cx}{O:κ->Ob}{a b:Expr}{fa fb:DE}{pos px py pt pt2:Pos}{kt k2:Nat}
theorem z2k(n m:Nat)(C:Ctx3 P w K mg base k X)(ha:E3 K X O a fa)(hb:E3 K X O b fb)(hnm:n≠m:=by decide)
 (hN:∀i,(X i).N.Nodup:=by intro i;exact Tz (by kernel_rfl)) (hi:∀i,(X i).N[n]? = some x:=by intro i;rfl) (hj:∀i,(X i).N[m]? = some y:=by intro i;rfl) (hx:∀i,(X i).env.scope.names.lookup x=some .local:=by intro i;rfl) (hy:∀i,(X i).env.scope.names.lookup y=some .local:=by intro i;rfl)
 (hw:∀i,UO [.Tuple [.Name x px,.Name y py] kt pt] (.Tuple [a,b] k2 pt2) (X i).env=pure (some [x,y]):=by intro i;rfl) (hs:∀i,UP [.Tuple [.Name x px,.Name y py] kt pt] (.Tuple [a,b] k2 pt2) pos.line (X i).env=pure false:=by intro i;rfl)
 (h1:∀i,Uw [a,b] (X i).env=(false,eval a (X i).env)::Uw [b] (X i).env:=by intro i;rfl) (h2:∀i,Uw [b] (X i).env=(false,eval b (X i).env)::Uw [] (X i).env:=by intro i;rfl) :
 S3 K X O (.Assign [.Tuple [.Name x px,.Name y py] kt pt] (.Tuple [a,b] k2 pt2) pos) (zxb n m fa fb) :=
 let ⟨_,p1,d1⟩:=ha;let ⟨_,p2,d2⟩:=hb
 ⟨_,λi=>znx (C.calm i) (hN i) (hi i) (hj i) hnm (hx i) (hy i) (zaw (p1 i) (zaw (p2 i) zbk (h2 i)) (h1 i)) (hw i) (hs i),λj=>zy0 (d1 j) (d2 j)⟩
end
section
variable {prog:Uy}{w:U0}{A:U9}{E:Ut->Ux->Prop}{s:Ux}
theorem z0c{e it l:Addr}{i:Nat}{zs:Array Ut}{x old:Ut}{Q:Ut->Ux->Prop}(G:GE s.heap e it i old)(A1:s.heap.IsTupleIter it l i)(T1:s.heap.IsTuple l zs)(hx:zs[i]? = some x)(ne:e≠it)
 (q:∀h',IsEnumOut h' e it ((i:Int)+1) x s.heap.objs.size->h'.IsTupleIter it l (i+1)->h'.get? s.heap.objs.size=some { cls:=.type "tuple",data:=.seq #[.int i s.toks,x] }->(∀b o,b≠e->b≠it->s.heap.get? b=some o->h'.get? b=some o)->Q (.ref s.heap.objs.size) { s with heap:=h',toks:=s.toks+1 }) :
 wpAny (model prog w) A (Builtin.«enumerate.__next__» ⟨[.ref e],[]⟩) (λfin s'=>∃v,fin = .done (.ret v)/\Q v s') E s:=by
 obtain⟨hp,gn,dr,tk,os⟩:=s;refine Us (m:=GK (.ref e) 2) (U1 G rfl (x:=.ref it) rfl (Us (zo9 A1 T1 hx λha A1a sa=>?_)))
 replace sa:Z6 it hp ha:=sa
 have Ga:GE ha e it i old:=(sa.2 e ne).trans G;refine Us (m:=GK (.ref e) 3) (U1 Ga rfl (x:=rawInt i) rfl (Us (m:=GK (.ref e) 4) (U1 Ga rfl (x:=.none) rfl (Us (m:=mkInt i) (wpAny_mkInt ?_)))));refine Us (m:=setField (.ref e) 3 (rawInt ((i:Int)+1))) (U7 Ga (by simp) λhb Gb sb=>?_)
 replace sb:Z6 e ha hb:=sb
 replace Gb:GE hb e it ((i:Int)+1) old:=Gb
 refine Us (m:=setField (.ref e) 4 .none) (U7 Gb (by simp) λhc Gc sc=>?_)
 replace sc:Z6 e hb hc:=sc
 replace Gc:GE hc e it ((i:Int)+1) old:=Gc
 refine Us (m:=newTuple [.int i tk,x]) (wpAny_newTuple ?_);have sz3:hc.objs.size=hp.objs.size:=by rw[sc.1,sb.1,sa.1]
 have el:e<hp.objs.size:=Qg G;have Gd:GE (hc.push { cls:=.type "tuple",data:=.seq #[.int i tk,x] }) e it ((i:Int)+1) old:=Qc _ Gc;have td:(hc.push { cls:=.type "tuple",data:=.seq #[.int i tk,x] }).get? hp.objs.size=some { cls:=.type "tuple",data:=.seq #[.int i tk,x] }:=by rw[<- sz3];exact Qt _ rfl
 have kd:∀b o,b≠e->b≠it->hp.get? b=some o->(hc.push { cls:=.type "tuple",data:=.seq #[.int i tk,x] }).get? b=some o:=λb o n1 n2 g=>Qc _ (sc.extBut b o n1 (sb.extBut b o n1 (sa.extBut b o n2 g)));have A1d:(hc.push { cls:=.type "tuple",data:=.seq #[.int i tk,x] }).IsTupleIter it l (i+1):=A1a.at λo g=>Qc _ (sc.extBut _ o (QN ne) (sb.extBut _ o (QN ne) g));refine Us (m:=Zh (.ref e)) ?_;rw[sz3];generalize hc.push { cls:=.type "tuple",data:=.seq #[.int i tk,x] }=hd at Gd td kd A1d;unfold Zh;refine Us (U1 Gd rfl (x:=.none) rfl (Uv ?_));simp only[TL];refine Us (G9 (Us (U1 Gd rfl (x:=old) rfl (Us (U7 Gd (by simp) λhf Gf sf=>?_)))))
 replace sf:Z6 e hd hf:=sf
 replace Gf:GE hf e it ((i:Int)+1) x:=Gf
 refine Us (m:=Z5 (.ref e) (.ref hp.objs.size)) ?_;unfold Z5;refine Us (U7 Gf (by simp) λhg Gg sg=>?_)
 replace sg:Z6 e hf hg:=sg
 replace Gg:IsEnumOut hg e it ((i:Int)+1) x hp.objs.size:=Gg
 refine U7 Gg (by simp) λhh Gh sh=>Us (GX (Uv ⟨_,rfl,?_⟩))
 replace sh:Z6 e hg hh:=sh
 have up:∀b o,b≠e->hd.get? b=some o->hh.get? b=some o:=λb o n g=>sh.extBut b o n (sg.extBut b o n (sf.extBut b o n g));exact q hh Gh (A1d.at λo g=>up _ o (QN ne) g) (up _ _ (JM el) td) λb o n1 n2 g=>up b o n1 (kd b o n1 n2 g)
theorem z0d{i:Nat}(G:GE s.heap e it i old)(A1:s.heap.IsTupleIter it l i)(T1:s.heap.IsTuple l zs)(hx:zs[i]? = some x)(ne:e≠it)
 (q:∀h',IsEnumOut h' e it ((i:Int)+1) x s.heap.objs.size->h'.IsTupleIter it l (i+1)->h'.get? s.heap.objs.size=some { cls:=.type "tuple",data:=.seq #[.int i s.toks,x] }->(∀b o,b≠e->b≠it->s.heap.get? b=some o->h'.get? b=some o)->Q (some (.ref s.heap.objs.size)) { s with heap:=h',toks:=s.toks+1 }):wpAny (model prog w) A (GB (.ref e)) Q E s:=by
 have T:s.TypeIs (.ref e) "enumerate" := ⟨_,G,rfl⟩;unfold GB;exact Us (Gk (U8 (name:=QH "__next__") T Jy (UH Jy T YD (z0c G A1 T1 hx ne λh' a b c d=>Uv (q h' a b c d)) (Y6 _))))
theorem zzc{i:Nat}(hh:A.handled=none)(G:GE s.heap e it i old)(A1:s.heap.IsTupleIter it l i)(T1:s.heap.IsTuple l zs)(hx:zs[i]? = none)(ne:e≠it)
 (q:∀h',(∀b o,b≠it->s.heap.get? b=some o->h'.get? b=some o)->Q none { s with heap:=h' }):wpAny (model prog w) A (GB (.ref e)) Q E s:=by
 have T:s.TypeIs (.ref e) "enumerate" := ⟨_,G,rfl⟩;unfold GB;refine Us (Gk (U8 (name:=QH "__next__") T Jy (UH Jy T YD ?_ (Y6 _))));refine Us (m:=GK (.ref e) 2) (U1 G rfl (x:=.ref it) rfl (Us (zr0 hh A1 T1 hx λh' x sb zz=>?_)));obtain⟨o,g,c⟩:=zz;exact Us (GD (T := "StopIteration") (b:=true) ⟨o,g,c⟩ isSubtype_stop (Uv (q _ λb o n g=>sb b o n g)))
theorem z3z(l:Addr)(zs:Array Ut)(n:Nat)(dct:Option Addr)(sl:Array (Option Ut)):Meets (Builtin.«enumerate.__new__» ⟨[.type "enumerate",.ref l],[]⟩) (λ_ R s=>s.heap.get? l=some { cls:=.type "tuple",dict:=dct,data:=.seq zs n,slots:=sl } /\
 R (.ok (.ret (.ref (zq1 false s.heap l).objs.size))) { s with heap:=(zq1 false s.heap l).push { cls:=.type "enumerate",data:=.fields #[.none,.bool false,.ref s.heap.objs.size,rawInt 0,.none,.none] } }) :=
 .of_wp λprog w A R s h=>by
  obtain⟨hp,g,d,tk,os⟩:=s;obtain⟨a,q⟩:=h;have sub:=sub_enumerate;have tp:YC (J2 ⟨hp,g,d,tk,os⟩) l zs:=⟨_,a,rfl,n,rfl⟩
  wp_walk using JE a
  refine wpAny_stack_any λst=>Uv ?_
  split
  .rename_i c _ _ _ _ _
   cases (c == J0 "enumerate") <;> (wp_walk using JE a,UI tp;exact⟨_,rfl,q⟩)
  .wp_walk using JE a,UI tp
   exact⟨_,rfl,q⟩
theorem zzp(tp:s.heap.IsTuple l zs)
 (q:∀h',GE h' (s.heap.objs.size+1) s.heap.objs.size 0 .none->h'.IsTupleIter s.heap.objs.size l 0->(∀b o,s.heap.get? b=some o->h'.get? b=some o)->Q (.ref (s.heap.objs.size+1)) { s with heap:=h' }) :
 wpAny (model prog w) A (call (.type "enumerate") [.ref l]) Q E s:=by
 obtain⟨⟨c,dct,dt,sl⟩,a,hc,n,hd⟩:=tp
 replace hc:c = .type "tuple" := hc
 replace hd:dt = .seq zs n:=hd
 subst hc hd;refine callType_new F.called_enumerate (by decide) (F.typeCall_enumerate_1 _) (F.newCall_enumerate_1 _) (λobj=>F.args_object_init_2 obj _) F.entry_enumerate_new (z3z l zs n dct sl) ⟨a,?_⟩;have n1:(zq1 false s.heap l).objs.size=s.heap.objs.size+1:=Zi ..;have e2:((zq1 false s.heap l).push { cls:=.type "enumerate",data:=.fields #[.none,.bool false,.ref s.heap.objs.size,rawInt 0,.none,.none] }).get? (zq1 false s.heap l).objs.size=some _:=Qt _ rfl;show _/\_;rw[n1] at e2 ⊢;exact⟨⟨_,e2,rfl⟩,q _ e2 ⟨_,Qc _ (Qt _ rfl),rfl,rfl⟩ λb o g=>Qc _ (Qc _ g)⟩
end
def Itet(K:Qa)(l:Addr):It :=
 ⟨λi H=>∃xs x,SqT K H l xs/\xs[i]? = some x,λi H x H'=>∃a y,H a=none/\(∀xs,SqT K H l xs->xs[i]? = some y)/\x = .ref a/\H'=upd H a (.tup [.int (i:Nat),y]),λi H=>∃xs,SqT K H l xs/\xs.length<=i⟩
theorem zqs{P:Uy}{w:U0}{K:Qa}{elts:List Expr}{x1:Nat}{pos:Pos}(l it e:Addr)(ne:e≠it):
 Turn P w K (.Tuple elts x1 pos) (Itet K l) [e,it] e (λi h=>(∃old,GE h e it i old)/\h.IsTupleIter it l i) where
 mem:=by simp
 obj:=λi h st b hb=>by
  obtain⟨⟨old,g⟩,o,g2,_,d⟩:=st;simp only[Q3,Q0,TM] at hb;rcases hb with rfl|rfl
  .exact⟨_,g,λv z=>by cases z⟩
  .exact⟨o,g2,λv z=>by rw[d] at z;cases z⟩
 keep:=λi h h' ⟨⟨old,g⟩,a⟩ k=>⟨⟨old,k e (by simp) _ g⟩,a.at λo g=>k it (by simp) o g⟩
 item:=by
  intro X hP hw hK hc i pins s σ H E I hf st hg;subst hP hw hK;obtain⟨xs,x,q1,hx⟩:=hg;obtain⟨us,ru,tu,_⟩:=I.tuple q1;obtain⟨u,hu,ru⟩:=ru.get hx;obtain⟨⟨old,G⟩,A1⟩:=st
  have lt:∀b∈[e,it],b≠s.heap.objs.size:=λb hb z=>by
   have:b<s.heap.objs.size:=by
    obtain⟨o,g2,_⟩:=A1;simp only[Q3,Q0,TM] at hb;rcases hb with rfl|rfl
    .exact Qg G
    .exact Qg g2
   exact Zj _ (z ▸ this)
  refine z0d G A1 tu (x:=u) (by simpa using hu) ne λh1 G1 A2 hp up=>⟨_,rfl,?_⟩;refine wpAny_letOwnedTupleGo_enum G1 λh2 G2 sb=>?_
  have up2:∀b o,b ∉ [e,it]->s.heap.get? b=some o->h2.get? b=some o:=λb o hb g=>by
   simp only[Q3,Q0,TM,not_or] at hb;exact(sb.2 b hb.1).trans (up b o hb.1 hb.2 g)
  have P2:h2.get? s.heap.objs.size=some { cls:=.type "tuple",data:=.seq #[.int i s.toks,u] }:=(sb.2 _ (QN (lt e (by simp)))).trans hp;have sL:=Uz;refine⟨.ref s.heap.objs.size,_,zkq (s:=s) (t':=s.toks+1) I hf up2 (Qm _) (o:=.tup [.int (i:Nat),x]) ⟨by show 2<=sizeLine;lia,[.int i s.toks,u],.cons ⟨_,rfl⟩ (.cons ru .nil),⟨_,P2,rfl,_,rfl⟩⟩,rfl,⟨_,x,I.hok.fresh (Qm _),λzs hz=>by rw[I.tuple_inj hz q1];exact hx,rfl,rfl⟩,⟨⟨u,?_⟩,A2.at λo g=>(sb.2 it (QN ne)).trans g⟩,λb hb=>?_⟩
  .have ei:((i+1:Nat):Int)=(i:Int)+1:=by lia
   rw[ei];exact G2
  .rw[zae (lt b hb)];exact(hf b hb).1
 done:=by
  intro X hP hw hK hc i pins s σ H E I hf st hg;subst hP hw hK;obtain⟨xs,q1,hx⟩:=hg;obtain⟨us,ru,tu,_⟩:=I.tuple q1;have lu:=ru.length;obtain⟨⟨old,G⟩,A1⟩:=st;exact zzc (I.ok.hd hc) G A1 tu (by simp;lia) ne λh1 up=>⟨rfl,zkz (t':=s.toks) I hf λb o hb g=>up b o (λz=>hb (by simp[z])) g⟩
 self:=λ_ _ _ _ _ st h=>let ⟨old,g⟩:=st.1;wpAny_pyIter_enum g h
def zoc(K:Qa)(t:TE):TI:=λσ H R=>t σ H λv H1=>∃a,v = .ref a/\(∃xs,SqT K H1 a xs)/\R (Itet K a) H1
theorem zus{elts:List Expr}{x1:Nat}(gE:Gl X "enumerate")(mE:X.mg "enumerate" = none)(hl:PE X l tl)(s1:Uw [l] X.env=(false,eval l X.env)::Uw [] X.env:=by rfl):PI X (.Tuple elts x1 pos) (.Call (.Name "enumerate" p1) [l] [] p2) (zoc X.K tl):=by
 intro pins s σ H R I h;refine U4 (zcp I gE mE zl8 ?_);refine Zw ?_ s1;rw[s1];show wpAny _ _ (GG ((false,eval l X.env) :: [])) _ _ s;refine Z7 (thn (hl pins s σ H _ I h) λu s' ⟨y,H1,I1,r1,a,ey,⟨xs,hq⟩,q⟩=>Jc ?_);subst ey;cases r1;obtain⟨us,ru,tu,_⟩:=I1.tuple hq;refine zzp tu λh' he hi kp=>wpAny_pyIter_enum he ?_;refine⟨s'.heap.objs.size+1,[s'.heap.objs.size+1,s'.heap.objs.size],_,Itet X.K a,H1,rfl,I1.kept (t':=s'.toks) kp,zqs a s'.heap.objs.size (s'.heap.objs.size+1) (Nat.succ_ne_self _),⟨⟨_,he⟩,hi⟩,λb hb=>?_,q⟩
 have le:s'.heap.objs.size<=b:=by
  simp only[Q3,Q0,TM] at hb;rcases hb with rfl|rfl
  .exact Jn _
  .exact Qm _
 exact I1.fpOk le (I1.hok.fresh le)
section
variable {K:Qa}{O:Ob}
def zxc(f:DE):DI:=λρ Q=>f ρ λr=>∃ds,r.d = .tuple ds/\flats ds=true/\Q true (zez ds)
theorem zt0(h:ED K O t f):SrcS K O (zoc K t) (zxc f):=λσ H ρ R Qd S hf k=>by
 refine h σ H ρ _ _ S hf λv H1 r st o1 zz=>?_;obtain⟨ds,e,fl,q⟩:=zz;have i1:=o1.is S.ok S.p;rw[e] at i1
 cases i1 with
 | tuple ha hs=>
   rename_i a xs
   refine⟨a,rfl,⟨xs,ha⟩,k (Itet K a) H1 (zez ds) (λ_=>False) true ⟨st,λb hb=>hb.elim,λH2 i kb t2 hi=>?_,λH2 i d kb t2 hd c=>?_⟩ (λz b hb=>hb.elim) q⟩
   .rw[zc1] at hi;exact⟨xs,SqT.stay t2 ha,by rw[hs.length];exact hi⟩
   .obtain⟨x,h1,rfl⟩:=zdn hd;have fx:=zia fl h1;obtain⟨u,hu,iu⟩:=zfl (O:=O) hs h1 t2 (.inl fx);have q1:SqT K H2 a xs:=SqT.stay t2 ha;refine⟨⟨xs,u,q1,hu⟩,λw H3 zz=>?_⟩;obtain⟨c',u',hc',e1,ex,e3⟩:=zz;have sm:Same H2 H3:=by rw[e3];exact L3.same_new hc' _
    subst ex;have e1:=e1 xs q1;rw[hu] at e1;cases e1;have fl2:flat (.tuple [.int (i:Nat),x])=true:=by show(true && (flat x && true))=true;rw[fx];rfl
    refine⟨sm,.tuple (xs:=[.int (i:Nat),u]) (.inl (.inl (by rw[e3];exact zaj))) (.cons (.int _) (.cons (iu.to (λc zs f q=>⟨⟨f.1,.inl fl2⟩,sm _ _ q⟩) λc zs q=>?_) .nil))⟩;rcases q with (q|⟨ob,q⟩)|q
    .exact .inl (.inl (sm _ _ q))
    .exact .inl (.inr ⟨ob,sm _ _ q⟩)
    .exact .inr q
end
section
variable {ι κ:Type}{P:Uy}{w:U0}{K:Qa}{mg:Str->Option Ut}{base:Heap}{k:Nat}{X:ι->Cx}{O:κ->Ob}{a:Expr}{fa:DE}{pos p1 p2:Pos}{elts:List Expr}{x1:Nat}
theorem zfg(C:Ctx3 P w K mg base k X)(B:Blt mg)(ha:E3 K X O a fa)(hg:∀i,Gl (X i) "enumerate" := by intro i;rfl)(hs:∀i,Uw [a] (X i).env=(false,eval a (X i).env)::Uw [] (X i).env:=by intro i;rfl):I3 K X O (.Tuple elts x1 pos) (.Call (.Name "enumerate" p1) [a] [] p2) (zxc fa) :=
 let ⟨_,q,d⟩:=ha;⟨zoc K _,λi=>by have h:=zus (elts:=elts) (x1:=x1) (pos:=pos) (p1:=p1) (p2:=p2) (hg i) (by rw[C.hmg];exact B.enumerate) (q i) (hs i);rw[C.hK] at h;exact h,λj=>zt0 (d j)⟩
end
section
variable {K:Qa}{O:Ob}
def unpJ(is:List Nat)(f:DE):DS:=λDd ρ=>zlx ρ/\f ρ λr=>∃ds,r.d = .tuple ds/\gTD is ds ρ Dd.nx
theorem zz1{is:List Nat}{n:Nat}(hn:is.length=n)(h:ED K O t f)(hg:GRsn K O tg is):SD K O (tAsg t (gTup K n tg)) (unpJ is f):=λH₀ A σ H ρ D Dd r q P=>by
 obtain⟨no,q⟩:=q;have r0:=r.none no;refine h σ H ρ _ _ r.seen q λv H1 x s1 o1 zz=>?_;obtain⟨ds,ed,q1⟩:=zz;have iw:Is K (unO O λ_ _=>False) H1 v x.d:=Is.weak (o1.is r.ok r.p) λa u=>⟨u,λ_ z=>z.elim⟩;rw[ed] at iw
 cases iw with
 | tuple h1 s2=>
   refine⟨_,_,rfl,h1,by rw[s2.length,zff q1];exact hn,?_⟩;exact hg H₀ _ σ H1 ρ _ ds _ _ (r0.stp s1) s2 q1 λA' σ' ρ' r' f' q'=>P.nx A' σ' H1 ρ' r' ((Frm.none.trans (.stp s1)).trans f') q'
end
section
variable {ι κ:Type}{P:Uy}{w:U0}{K:Qa}{mg:Str->Option Ut}{base:Heap}{k:Nat}{X:ι->Cx}{O:κ->Ob}{a:Expr}{fa:DE}{pos:Pos}
theorem z1w{n:Nat}{is:List Nat}{j:Nat}(C:Ctx3 P w K mg base k X)(ha:E3 K X O a fa)(hr:Gsn3 K X es is)(hn:is.length=n:=by rfl)(hn2:∀i,(U3 es (X i).env).length=n:=by intro i;rfl)(hst:∀i,(U3 es (X i).env).findIdx? (·.1)=none:=by intro i;rfl)
 (hs:∀i,UP [.Tuple es j tp] a pos.line (X i).env=pure false:=by intro i;rfl) (hw:∀i,UO [.Tuple es j tp] a (X i).env=pure none:=by intro i;rfl) (h1:∀i,(U3 [.Tuple es j tp] (X i).env).map (·.2) = [Ge (.Tuple es j tp) (X i).env]:=by intro i;rfl) :
 S3 K X O (.Assign [.Tuple es j tp] a pos) (unpJ is fa):=let ⟨_,p,d2⟩:=hr;let ⟨_,q,d⟩:=ha;
 ⟨tAsg _ (gTup K n _),λi=>by have z:=zjk (pos:=tp) (k:=j) (C.calm i) (p i) (hn2 i) (hst i);rw[C.hK] at z;exact ziv (q i) z (hs i) (hw i) (h1 i),λjj=>zz1 hn (d jj) (d2 (O jj))⟩
end
end L3
namespace L44
open PySem PySem.Spec
open PyProof.Rows hiding St
open L2 L3 L6
local macro_rules | `(tactic| infer_instance)=>`(tactic| first|refine⟨_,_,rfl,rfl,?_⟩|refine⟨_,eqI,?_⟩|refine⟨_,neI,?_⟩|refine⟨_,rfl,?_⟩|refine⟨rfl,?_⟩|refine⟨(by show _ ≤ sizeLine;rw[Uz];exact Nat.le_of_ble_eq_true rfl),?_⟩|refine⟨_,_,rfl,?_⟩|refine⟨_,_,_,rfl,?_⟩|refine iteT ?_|refine iteF ?_|refine Or.inl ⟨rfl,?_⟩|refine Or.inr ⟨rfl,?_⟩|refine⟨_,z5t (by decide +kernel),?_⟩|refine⟨_,z4v (by decide +kernel) (by decide +kernel),?_⟩|refine⟨_,inS_t (by decide +kernel),?_⟩|refine⟨_,inS_f (by decide +kernel),?_⟩)
section
variable {P:Uy}{w:U0}{K:Qa}{mg:Str->Option Ut}{base:Heap}{k:Nat}
abbrev zj9:Stmt:=top 10
theorem zv1:FnScope ["less", "more", "found", "start", "letter", "place"] ["less", "more"] (zah zj9):=⟨rfl,rfl,rfl,by decide +kernel,rfl,by decide +kernel,by decide +kernel⟩
theorem zic(B:Blt mg)(T:Top3 K mg "places" zj9):Def3 P w K mg base 1 "places" ["less", "more"] (spO K (λ_=>True) 2 zow):=by
 refine mk_O T zv1 (λ_ _ _ _ _ _ us hl=>len2 hl λ_ _=>rfl) rfl λf cdv A outer s H E O hφ C=>⟨_,(zaf (zaq 2 (zbu zac)) (zaf (zaq 3 zad) (zaf (zcm C (zcd (zxg (zaa 0))) (zbv (h:=1000) 4) (zaf (zaq 5 (zzy C (zaa 1) (zab (zaa 4) (zab (zaa 3) zac)))) (zaf (s_if (t_lt (zaa 5) zad) (zai (zar zd5)) zap) (zaf (zet 2 C (zaa 5)) (zai (zaq 3 (zax C (zaa 5) zad))))))) (zai (zin 2))))),λds Qr hn q=>?_⟩;obtain⟨less,more,rfl,hs,hm,q0,q1⟩:=q;have sz:=Uz;have hl:=hs.1;have hl2:=hm.1;refine⟨QL _,rfl,rfl,_,_,rfl,rfl,_,rfl,rfl,?_⟩
 refine zbe (λj ρ=>∃(acc:List Nat) (start:Nat) (o4 o5:Option DV),ρ = [some (.im (tS less)),some (.im (tS more)),some (.own (acc.map λp=>.int (p:Nat))),some (.im (.int (start:Nat))),o4,o5]/\plc less more 0 []=plc (less.drop j) more start acc/\acc.length<=j/\start<=more.length/\j<=less.length)
  ⟨[],0,none,none,rfl,rfl,Qm _,QL _,QL _⟩ (λρ ⟨acc,start0,o4,o5,e,h1,h2,h3,h4⟩=>?_) λj d ρ N hd hN ⟨acc,start0,o4,o5,e,h1,h2,h3,h4⟩=>?_
 .subst e;rw[zo0,ZR] at h1;exact⟨_,rfl,q1 acc h1⟩
 .subst e;obtain⟨c,hc,rfl⟩:=zpl hd;obtain⟨hlt,ec⟩:=Qk.mp hc;rw[QX hlt,ec] at h1;refine⟨rfl,?_⟩;refine⟨_,_,rfl,rfl,_,rfl,_,_,rfl,rfl,_,_,rfl,rfl,_,_,rfl,rfl,?_⟩;rw[zz3 h3];rw[show plc (c::less.drop (j+1)) more start0 acc=match zbw c more start0 with|none=>none|some p=>plc (less.drop (j+1)) more (p+1) (acc ++ [p]) from rfl] at h1
  cases hf:zbw c more start0 with
  | none=>
    rw[hf] at h1;rw[show zhi c more start0 = -1 by unfold zhi;rw[hf]];exact⟨_,_,rfl,rfl,_,rfl,_,rfl,q0 h1⟩
  | some p=>
    rw[hf] at h1;rw[show zhi c more start0=(p:Int) by unfold zhi;rw[hf]];obtain⟨_,b,_⟩:=zew hf;obtain⟨b1,_⟩:=Qk.mp b;refine⟨_,_,rfl,rfl,_,rfl,_,rfl,?_⟩;rw[TF (by lia)];refine iteF ⟨_,rfl,_,_,rfl,rfl,rfl,by rw[Qb];lia,_,_,rfl,rfl,_,rfl,rfl,hN _ ⟨acc ++ [p],p+1,some (.im (.str (sg c))),some (.im (.int (p:Nat))),?_,h1,by simp;lia,b1,hlt⟩⟩;show[_,_,some (DV.own (acc.map (λp=>JW (p:Nat)) ++ [JW (p:Nat)])),some (DV.im (.int ((p:Int)+1))),_,_]=_;rw[QI];rfl
end
section
variable {P:Uy}{w:U0}{K:Qa}{mg:Str->Option Ut}{base:Heap}{k:Nat}
abbrev zf9:Stmt:=top 11
theorem zop:FnScope ["less", "more"] ["less", "more"] (zah zf9):=⟨rfl,rfl,rfl,by decide +kernel,rfl,by decide +kernel,by decide +kernel⟩
theorem zek(B:Blt mg)(zic:Def3 P w K mg base 1 "places" ["less", "more"] (spO K (λ_=>True) 2 zow))(T:Top3 K mg "lies_under" zf9):Def3 P w K mg base 2 "lies_under" ["less", "more"] (spO K (λ_=>True) 2 zf3):=by
 refine mk_O T zop (λ_ _ _ _ _ _ us hl=>len2 hl λ_ _=>rfl) rfl λf cdv A outer s H E O hφ C=>⟨_,(zai (zar (zxx (za4 C zic (λ_=>trivial) (zab (zaa 0) (zab (zaa 1) zac))) zd5))),λds Qr hn q=>?_⟩;obtain⟨less,more,rfl,hs,hm,q⟩:=q;rw[<- zr8] at q;refine⟨_,_,rfl,rfl,_,_,rfl,rfl,rfl,less,more,rfl,hs,hm,λh=>⟨rfl,?_⟩,λps h=>⟨rfl,?_⟩⟩
 .rw[h] at q;exact q
 .rw[h] at q;exact q
end
section
variable {P:Uy}{w:U0}{K:Qa}{mg:Str->Option Ut}{base:Heap}{k:Nat}
abbrev zhv:Stmt:=top 13
theorem zsf:FnScope ["number", "count"] ["number", "count"] (zah zhv):=⟨rfl,rfl,rfl,by decide +kernel,rfl,by decide +kernel,by decide +kernel⟩
theorem zd1(B:Blt mg)(T:Top3 K mg "is_there" zhv):Def3 P w K mg base 1 "is_there" ["number", "count"] (spO K (λ_=>True) 2 zsh):=by
 refine mk_O T zsf (λ_ _ _ _ _ _ us hl=>len2 hl λ_ _=>rfl) rfl λf cdv A outer s H E O hφ C=>⟨_,(zai (zar (z6d zad (zaa 0) (zaa 1)))),λds Qr hn q=>?_⟩;obtain⟨i,n,rfl,q⟩:=q;refine⟨_,_,rfl,rfl,_,rfl,_,rfl,?_⟩
 by_cases h:(0:Int)<=i
 .rw[TH h] at q ⊢;exact iteT ⟨_,_,rfl,rfl,_,rfl,q⟩
 .rw[TF h] at q ⊢;exact iteF q
end
section
variable {P:Uy}{w:U0}{K:Qa}{mg:Str->Option Ut}{base:Heap}{k:Nat}
abbrev zht:Stmt:=top 14
theorem zul:FnScope ["one", "other"] ["one", "other"] (zah zht):=⟨rfl,rfl,rfl,by decide +kernel,rfl,by decide +kernel,by decide +kernel⟩
theorem zfv(B:Blt mg)(zek:Def3 P w K mg base 2 "lies_under" ["less", "more"] (spO K (λ_=>True) 2 zf3))(T:Top3 K mg "is_above" zht):Def3 P w K mg base 3 "is_above" ["one", "other"] (spO K (λ_=>True) 2 abvF):=by
 refine mk_O T zul (λ_ _ _ _ _ _ us hl=>len2 hl λ_ _=>rfl) rfl λf cdv A outer s H E O hφ C=>⟨_,(zaf (s_if (t_w (w_or (t_ne C (zay C (zaa 0) za6 (za5 zad)) (zay C (zaa 1) za6 (za5 zad))) (zlz (t_ne C (zbm C B (zab (zag C (zaa 0) zad) zac)) (zbm C B (zab (zag C (zaa 1) zad) zac)))))) (zai (zar e_bl)) zap) (zai (zar (zw4 C B (zab (zef 2 ["less", "more", "one", "other"] C (λ_=>.of rfl (by kernel_rfl)) (zww C B (zab (zag C (zaa 1) zad) (zab (zag C (zaa 0) zad) zac))) (zf4 (C.comp _ _) (zav 0 (zav 1 zcc))) zgh (za4 (C.comp _ _) zek (λ_=>trivial) (zab (zaa 0) (zab (zaa 1) zac)))) zac))))),λds Qr hn q=>?_⟩;obtain⟨a,b,rfl,ha,hb,hl,q⟩:=q;have sz:=Uz;have l1:=ha.words
 (repeat first|refine⟨_,zbt a,?_⟩|refine⟨zbt a,?_⟩|refine⟨_,zbt b,?_⟩|refine⟨zbt b,?_⟩|refine⟨_,ziw a b,?_⟩|refine⟨ziw a b,?_⟩|infer_instance)
 rw[T0 rfl];unfold abvB at q;rw[<- Ue] at q;refine iteB (λa1=>?_) λa1=>?_
 .rw[z5a a1,Yl] at q;exact iteT q
 rw[z4w a1,Vg] at q
 ac_rfl
 rw[Qb,Qb,zg4,TH hl];refine iteF ⟨_,_,rfl,rfl,_,rfl,_,_,rfl,rfl,_,rfl,_,_,rfl,zao (λ_=>rfl) _,zao (λ_=>rfl) _,?_⟩;rw[zhx];refine zns (α:=List Nat×List Nat) (enc:=λp=>.tuple [wD p.1,wD p.2]) (e:=λp=>.bool (L6.under p.1 p.2)) (λp hp P hP=>?_) zo3 (by rw[VW];lia) ?_
 .refine⟨_,rfl,iteT (B:=False) ?_⟩;obtain⟨m1,m2⟩:=Jv hp;exact⟨_,_,rfl,rfl,_,_,rfl,rfl,rfl,p.1,p.2,rfl,hb.sml _ m1,ha.sml _ m2,hP _ rfl⟩
 refine⟨_,zsq _ _,?_⟩;rw[zuc];exact q
end
section
variable {P:Uy}{w:U0}{K:Qa}{mg:Str->Option Ut}{base:Heap}{k:Nat}
abbrev zmz:Stmt:=top 16
theorem zz6:FnScope ["parts", "place", "part"] ["parts", "place", "part"] (zah zmz):=⟨rfl,rfl,rfl,by decide +kernel,rfl,by decide +kernel,by decide +kernel⟩
theorem zb3(B:Blt mg)(T:Top3 K mg "put_at" zmz):Def3 P w K mg base 1 "put_at" ["parts", "place", "part"] (spO K (λ_=>True) 3 zio):=by
 refine mk_O T zz6 (λ_ _ _ _ _ _ us hl=>len3 hl λ_ _ _=>rfl) rfl λf cdv A outer s H E O hφ C=>⟨_,(zai (zar (zax C (zax C (zay C (zaa 0) za6 (za5 (zaa 1))) (za8 (zab (zaa 2) zac))) (zay C (zaa 0) (za5 (zax C (zaa 1) zad)) za6)))),λds Qr hn q=>?_⟩;obtain⟨xs,i,d,rfl,hi,hl,q⟩:=q;have sz:=Uz;refine⟨_,_,rfl,rfl,_,_,rfl,rfl,_,rfl,_,sl_tup _ _ _,_,_,rfl,rfl,(by show 1<=sizeLine;lia),_,zcl ?_,_,_,rfl,rfl,_,_,rfl,rfl,_,rfl,_,rfl,_,sl_tup _ _ _,_,zcl ?_,?_⟩
 .rw[zdq,QB,Qz];lia
 .rw[show((i:Int)+1)=((i+1:Nat):Int) from rfl,zdq,zcx,Qf,QB,QO,Qz];lia
 .rw[zjy hi];exact q
end
section
variable {P:Uy}{w:U0}{K:Qa}{mg:Str->Option Ut}{base:Heap}{k:Nat}
abbrev zkd:Stmt:=top 17
theorem zwi:FnScope ["standing", "deed", "kind"] ["standing", "deed"] (zah zkd):=⟨rfl,rfl,rfl,by decide +kernel,rfl,by decide +kernel,by decide +kernel⟩
theorem zg2(B:Blt mg)(T:Top3 K mg "lets_do" zkd):Def3 P w K mg base 1 "lets_do" ["standing", "deed"] (spO K (λ_=>True) 2 zxe):=by
 refine mk_O T zwi (λ_ _ _ _ _ _ us hl=>len2 hl λ_ _=>rfl) rfl λf cdv A outer s H E O hφ C=>⟨_,(zaf (zaq 2 (zag C (zaa 1) zad)) (zaf (s_if (t_eq C (zaa 2) za0) (zai (zar (zwh C (zag C (zag C (zaa 0) zad) (zag C (zaa 1) zad)) (zab (zag C (zaa 1) zad) zac)))) zap) (zaf (s_if (t_eq C (zaa 2) za0) (zai (zar (e_eq C (zag C (zag C (zaa 0) zad) (zag C (zaa 1) zad)) za0))) zap) (zaf (s_if (t_eq C (zaa 2) za0) (zai (zar (e_eq C (zag C (zag C (zaa 0) zad) (zag C (zaa 1) zad)) (zag C (zaa 1) zad)))) zap) (zai (zar e_bl)))))),λds Qr hn q=>?_⟩;obtain⟨h,n,s,d,rfl,hs,hn,hd,hlo,q⟩:=q;have wl:=hs.words;have fl:=hs.flags;refine⟨_,_,rfl,rfl,_,zmd d,rfl,_,_,rfl,rfl,_,zea d,_,rfl,?_⟩
 cases d with
 | take l c=>
   refine iteT ⟨_,_,rfl,rfl,_,rfl,_,_,rfl,rfl,_,rfl,_,zas (za3 (z:=[]) (by rw[wl];exact hd.1)),_,rfl,_,_,rfl,rfl,_,rfl,_,rfl,?_⟩;rw[zss];exact q
 | empty l=>
   have hl:l<s.words.length:=by rw[wl];exact hd
   refine iteF ⟨_,_,rfl,rfl,_,zep _,_,rfl,iteT ⟨_,_,rfl,rfl,_,rfl,_,_,rfl,rfl,_,rfl,_,zas (za3 (z:=[]) hl),_,zbc (zu9 (hs.low _ (zbj hl))) (by decide +kernel),?_⟩⟩;rw[TB Qo,zl9];exact q
 | test f v=>
   exact iteF ⟨_,_,rfl,rfl,_,zep _,_,rfl,iteF ⟨_,_,rfl,rfl,_,zhg _,_,rfl,iteT ⟨_,_,rfl,rfl,_,rfl,_,_,rfl,rfl,_,rfl,_,zas (za3 (z:=0) (by rw[fl];exact hd.1)),_,_,rfl,rfl,_,rfl,_,ztc _ _,q⟩⟩⟩
 | go=>exact iteF ⟨_,_,rfl,rfl,_,zep _,_,rfl,iteF ⟨_,_,rfl,rfl,_,zhg _,_,rfl,iteF q⟩⟩
 | send l c=>exact iteF ⟨_,_,rfl,rfl,_,zep _,_,rfl,iteF ⟨_,_,rfl,rfl,_,zhg _,_,rfl,iteF q⟩⟩
 | put f v=>exact iteF ⟨_,_,rfl,rfl,_,zep _,_,rfl,iteF ⟨_,_,rfl,rfl,_,zhg _,_,rfl,iteF q⟩⟩
end
section
variable {P:Uy}{w:U0}{K:Qa}{mg:Str->Option Ut}{base:Heap}{k:Nat}
abbrev zgg:Stmt:=top 18
theorem zog:FnScope ["standing", "hand", "rule"] ["standing", "hand", "rule"] (zah zgg):=⟨rfl,rfl,rfl,by decide +kernel,rfl,by decide +kernel,by decide +kernel⟩
theorem zdu(B:Blt mg)(zg2:Def3 P w K mg base 1 "lets_do" ["standing", "deed"] (spO K (λ_=>True) 2 zxe))(T:Top3 K mg "may_be_done" zgg):Def3 P w K mg base 2 "may_be_done" ["standing", "hand", "rule"] (spO K (λ_=>True) 3 mayF):=by
 refine mk_O T zog (λ_ _ _ _ _ _ us hl=>len3 hl λ_ _ _=>rfl) rfl λf cdv A outer s H E O hφ C=>⟨_,(zai (zar (zxk (e_eq C (zag C (zag C (zaa 0) zad) (zaa 1)) (zag C (zaa 2) zad)) (zxh (za4 C zg2 (λ_=>trivial) (zab (zaa 0) (zab (zag C (zaa 2) zad) zac))))))),λds Qr hn q=>?_⟩;obtain⟨h,n,s,i,r,rfl,hs,hn,hd,hlo,hi,q⟩:=q;refine⟨_,_,rfl,rfl,_,rfl,_,_,rfl,rfl,_,zas (za3 (z:=0) (by rw[hs.rooms];exact hi)),_,_,rfl,rfl,_,rfl,_,ztc _ _,_,rfl,?_⟩
 cases e:decide (s.rooms.getD i 0=r.p) with
 | false=>rw[e] at q;exact iteF q
 | true=>
   rw[e] at q;exact iteT ⟨_,_,rfl,rfl,_,_,rfl,rfl,_,rfl,rfl,h,n,s,r.d,rfl,hs,hn,hd,hlo,q⟩
end
section
variable {P:Uy}{w:U0}{K:Qa}{mg:Str->Option Ut}{base:Heap}{k:Nat}
abbrev zf5:Stmt:=top 19
theorem zom:FnScope ["house", "standing", "steps", "hand", "rooms_and_rules", "number", "rule"] ["house", "standing"] (zah zf5):=⟨rfl,rfl,rfl,by decide +kernel,rfl,by decide +kernel,by decide +kernel⟩
theorem zel(B:Blt mg)(zdu:Def3 P w K mg base 2 "may_be_done" ["standing", "hand", "rule"] (spO K (λ_=>True) 3 mayF))(T:Top3 K mg "steps_here" zf5):Def3 P w K mg base 3 "steps_here" ["house", "standing"] (spO K (λ_=>True) 2 zue):=by
 refine mk_O T zom (λ_ _ _ _ _ _ us hl=>len2 hl λ_ _=>rfl) rfl λf cdv A outer s H E O hφ C=>⟨_,(zaf (zaq 2 (zbu zac)) (zaf (zcm C (zcd (zfg C B (zag C (zaa 0) zad))) (zf4 (h:=1000) C (zav 3 (zav 4 zcc))) (zai (zcm C (zcd (zfg C B (zag C (zaa 4) zad))) (zf4 (h:=1000) C (zav 5 (zav 6 zcc))) (zai (s_if (zg7 (za4 C zdu (λ_=>trivial) (zab (zaa 1) (zab (zaa 3) (zab (zaa 6) zac))))) (zai (zet 2 C (za8 (zab za0 (zab (zaa 3) (zab (zaa 5) zac)))))) zap))))) (zai (zin 2)))),λds Qr hn q=>?_⟩;obtain⟨h,n,s,rfl,hh,hs,hn3,q⟩:=q;have sz:=Uz;have tot:=zi0 hh s;refine⟨QL _,rfl,_,_,rfl,rfl,_,rfl,_,rfl,zao zhh _,rfl,?_⟩;refine zbe (λj ρ=>∃(F:List Stp1) (o3 o4 o5 o6:Option DV),ρ = [some (.im (za2 h)),some (.im (zak s)),some (.own (F.map zaz)),o3,o4,o5,o6]/\F++zba s (h.hands.drop j) j=zbr h s) ⟨[],none,none,none,none,rfl,rfl⟩ (λρ zz=>?_) λj d ρ N hd hN zz=>?_
 .obtain⟨F,o3,o4,o5,o6,e,h1⟩:=zz;subst e;rw[zc1,Qb,Z4 (Qm _),zba,QF] at h1;rw[<- h1] at q;exact⟨_,rfl,q⟩
 .obtain⟨F,o3,o4,o5,o6,e,h1⟩:=zz;subst e;obtain⟨z,hz,rfl⟩:=zdn hd;rw[Qs] at hz;obtain⟨x,hx,rfl⟩:=Q4.mp hz;have mx:=Zm hx;have hj:j<h.hands.length:=(Qk.mp hx).1;rw[zhk hx,zba] at h1;refine⟨?_,_,rfl,?_⟩
  .show(true && (flat (zbz x) && true))=true;rw[zhh];rfl
  refine⟨_,_,rfl,rfl,_,rfl,_,rfl,zao zfm _,rfl,?_⟩;refine zbe (λi ρ=>∃(G:List Stp1) (o5 o6:Option DV),ρ = [some (.im (za2 h)),some (.im (zak s)),some (.own (G.map zaz)),some (.im (.int (j:Nat))),some (.im (zbz x)),o5,o6]/\G++(za7 s j (x.rs.drop i) i++zba s (h.hands.drop (j+1)) (j+1))=zbr h s) ⟨F,_,_,rfl,h1⟩ (λρ zz=>?_) λi d ρ N hd hN zz=>?_
  .obtain⟨G,o5,o6,e,g1⟩:=zz;subst e;rw[zc1,Qb,Z4 (Qm _),za7,ZQ] at g1;exact hN _ ⟨G,_,_,_,_,rfl,g1⟩
  .obtain⟨G,o5,o6,e,g1⟩:=zz;subst e;obtain⟨z,hz,rfl⟩:=zdn hd;rw[Qs] at hz;obtain⟨r,hr,rfl⟩:=Q4.mp hz;have mr:=Zm hr;rw[zhk hr,za7] at g1;refine⟨?_,_,rfl,?_⟩
   .show(true && (flat (zda r) && true))=true;rw[zfm];rfl
   refine⟨_,_,rfl,rfl,_,_,rfl,rfl,_,_,rfl,rfl,rfl,h,n,s,j,r,rfl,hs,hn3,((hh.rules x mx).2 r mr).1,hh.low,hj,_,rfl,?_⟩;have gl:=congrArg VM g1;rw[Qf] at gl;refine ite2 (λz=>?_) λz=>?_
   .rw[T0 z,Zy,<- Zy G] at g1;refine⟨_,rfl,_,_,rfl,rfl,_,_,rfl,rfl,(by show 3<=sizeLine;lia),rfl,(by rw[Qb];lia),hN _ ⟨G ++ [.act j i],some (.im (.int (i:Nat))),some (.im (zda r)),?_,g1⟩⟩;rw[QI];rfl
   .rw[TB z,ZQ] at g1;exact hN _ ⟨G,_,_,rfl,g1⟩
end
section
variable {P:Uy}{w:U0}{K:Qa}{mg:Str->Option Ut}{base:Heap}{k:Nat}
abbrev zec:Stmt:=top 20
theorem zln:FnScope ["words", "deed", "kind"] ["words", "deed"] (zah zec):=⟨rfl,rfl,rfl,by decide +kernel,rfl,by decide +kernel,by decide +kernel⟩
theorem zdg(B:Blt mg)(zb3:Def3 P w K mg base 1 "put_at" ["parts", "place", "part"] (spO K (λ_=>True) 3 zio))(T:Top3 K mg "words_behind" zec):Def3 P w K mg base 2 "words_behind" ["words", "deed"] (spO K (λ_=>True) 2 wbhF):=by
 refine mk_O T zln (λ_ _ _ _ _ _ us hl=>len2 hl λ_ _=>rfl) rfl λf cdv A outer s H E O hφ C=>⟨_,(zaf (zaq 2 (zag C (zaa 1) zad)) (zaf (s_if (t_eq C (zaa 2) za0) (zai (zar (za4 C zb3 (λ_=>trivial) (zab (zaa 0) (zab (zag C (zaa 1) zad) (zab (zax C (zag C (zaa 0) (zag C (zaa 1) zad)) (zag C (zaa 1) zad)) zac)))))) zap) (zaf (s_if (t_eq C (zaa 2) za0) (zai (zar (za4 C zb3 (λ_=>trivial) (zab (zaa 0) (zab (zag C (zaa 1) zad) (zab (zay C (zag C (zaa 0) (zag C (zaa 1) zad)) (za5 zad) za6) zac)))))) zap) (zai (zar (zaa 0)))))),λds Qr hn q=>?_⟩;obtain⟨l,f,ls,ws,d,rfl,hl,hm,hw,hd,q⟩:=q;refine⟨_,_,rfl,rfl,_,zmd d,rfl,_,_,rfl,rfl,_,z0o d,_,rfl,?_⟩
 cases d with
 | send i c=>
   have hi:i<ws.length:=by rw[hl];exact hd.1
   refine iteT ⟨_,_,rfl,rfl,_,_,rfl,rfl,_,rfl,_,_,rfl,rfl,_,_,rfl,rfl,_,rfl,_,zas (za3 (z:=[]) hi),_,_,rfl,rfl,_,rfl,_,zil ?_,rfl,ws.map wD,i,_,rfl,(by rw[Qb];exact hi),(by rw[Qb];lia),?_⟩
   .have:=hw _ (zbj (z:=[]) hi);rw[Qz];lia
   .show Qr (.o (.tuple ((ws.map wD).set i (wD (ws.getD i [] ++ [c])))));rw[<- ZG (f:=wD)];exact q
 | take i c=>
   have hi:i<ws.length:=by rw[hl];exact hd.1
   refine iteF ⟨_,_,rfl,rfl,_,zea _,_,rfl,iteT ⟨_,_,rfl,rfl,_,_,rfl,rfl,_,rfl,_,_,rfl,rfl,_,_,rfl,rfl,_,rfl,_,zas (za3 (z:=[]) hi),_,rfl,_,zex ?_,rfl,ws.map wD,i,_,rfl,(by rw[Qb];exact hi),(by rw[Qb];lia),?_⟩⟩
   .have:=hw _ (zbj (z:=[]) hi);lia
   .show Qr (.o (.tuple ((ws.map wD).set i (wD (cutL (ws.getD i []) (some ((1:Nat):Int)) none)))));rw[<- ZG (f:=wD),zcx];exact q
 | go=>exact iteF ⟨_,_,rfl,rfl,_,zea _,_,rfl,iteF ⟨_,_,rfl,rfl,q⟩⟩
 | empty i=>exact iteF ⟨_,_,rfl,rfl,_,zea _,_,rfl,iteF ⟨_,_,rfl,rfl,q⟩⟩
 | put i v=>exact iteF ⟨_,_,rfl,rfl,_,zea _,_,rfl,iteF ⟨_,_,rfl,rfl,q⟩⟩
 | test i v=>exact iteF ⟨_,_,rfl,rfl,_,zea _,_,rfl,iteF ⟨_,_,rfl,rfl,q⟩⟩
end
section
variable {P:Uy}{w:U0}{K:Qa}{mg:Str->Option Ut}{base:Heap}{k:Nat}
abbrev zed:Stmt:=top 21
theorem zlq:FnScope ["flags", "deed"] ["flags", "deed"] (zah zed):=⟨rfl,rfl,rfl,by decide +kernel,rfl,by decide +kernel,by decide +kernel⟩
theorem zdd(B:Blt mg)(zb3:Def3 P w K mg base 1 "put_at" ["parts", "place", "part"] (spO K (λ_=>True) 3 zio))(T:Top3 K mg "flags_behind" zed):Def3 P w K mg base 2 "flags_behind" ["flags", "deed"] (spO K (λ_=>True) 2 fbhF):=by
 refine mk_O T zlq (λ_ _ _ _ _ _ us hl=>len2 hl λ_ _=>rfl) rfl λf cdv A outer s H E O hφ C=>⟨_,(zaf (s_if (t_eq C (zag C (zaa 1) zad) za0) (zai (zar (za4 C zb3 (λ_=>trivial) (zab (zaa 0) (zab (zag C (zaa 1) zad) (zab (zag C (zaa 1) zad) zac)))))) zap) (zai (zar (zaa 0)))),λds Qr hn q=>?_⟩;obtain⟨l,f,ls,fs,d,rfl,hl,hm,hd,q⟩:=q;refine⟨_,_,rfl,rfl,_,zmd d,_,z4j d,_,rfl,?_⟩
 cases d with
 | put i v=>
   have hi:i<fs.length:=by rw[hl];exact hd.1
   refine iteT ⟨_,_,rfl,rfl,_,_,rfl,rfl,_,rfl,_,_,rfl,rfl,_,rfl,rfl,fs.map nD,i,_,rfl,(by rw[Qb];exact hi),(by rw[Qb];lia),?_⟩;show Qr (.o (.tuple ((fs.map nD).set i (nD v))));rw[<- ZG (f:=nD)];exact q
 | go=>exact iteF ⟨_,_,rfl,rfl,q⟩
 | send i c=>exact iteF ⟨_,_,rfl,rfl,q⟩
 | take i c=>exact iteF ⟨_,_,rfl,rfl,q⟩
 | empty i=>exact iteF ⟨_,_,rfl,rfl,q⟩
 | test i v=>exact iteF ⟨_,_,rfl,rfl,q⟩
end
section
variable {P:Uy}{w:U0}{K:Qa}{mg:Str->Option Ut}{base:Heap}{k:Nat}
abbrev ze9:Stmt:=top 22
theorem zml:FnScope ["standing", "hand", "rule", "rooms"] ["standing", "hand", "rule"] (zah ze9):=⟨rfl,rfl,rfl,by decide +kernel,rfl,by decide +kernel,by decide +kernel⟩
theorem zds(B:Blt mg)(zb3:Def3 P w K mg base 1 "put_at" ["parts", "place", "part"] (spO K (λ_=>True) 3 zio))(zdg:Def3 P w K mg base 2 "words_behind" ["words", "deed"] (spO K (λ_=>True) 2 wbhF))(zdd:Def3 P w K mg base 2 "flags_behind" ["flags", "deed"] (spO K (λ_=>True) 2 fbhF))(T:Top3 K mg "behind_rule" ze9):Def3 P w K mg base 3 "behind_rule" ["standing", "hand", "rule"] (spO K (λ_=>True) 3 brF):=by
 refine mk_O T zml (λ_ _ _ _ _ _ us hl=>len3 hl λ_ _ _=>rfl) rfl λf cdv A outer s H E O hφ C=>⟨_,(zaf (zaq 3 (za4 C zb3 (λ_=>trivial) (zab (zag C (zaa 0) zad) (zab (zaa 1) (zab (zag C (zaa 2) zad) zac))))) (zai (zar (za8 (zab (zaa 3) (zab (za4 C zdd (λ_=>trivial) (zab (zag C (zaa 0) zad) (zab (zag C (zaa 2) zad) zac))) (zab (za4 C zdg (λ_=>trivial) (zab (zag C (zaa 0) zad) (zab (zag C (zaa 2) zad) zac))) zac))))))),λds Qr hn q=>?_⟩;obtain⟨h,n,s,i,r,rfl,hh,hs,hn,hd,hi,q⟩:=q;have rl:=hs.rooms;have hm:=hh.many;have hl:=hh.lines;have hf:=hh.flags;have sz:=Uz;refine⟨_,_,rfl,rfl,_,rfl,_,_,rfl,rfl,_,_,rfl,rfl,_,rfl,rfl,s.rooms.map nD,i,nD r.q,rfl,(by rw[Qb,rl];exact hi),(by rw[Qb];lia),zr6 _ _ _,?_⟩;refine⟨_,_,rfl,rfl,_,_,rfl,rfl,_,rfl,_,_,rfl,rfl,_,rfl,rfl,h.lines,h.flags,h.ls,s.flags,r.d,rfl,hs.flags,hf,hd,?_⟩;refine⟨_,_,rfl,rfl,_,rfl,_,_,rfl,rfl,_,rfl,rfl,h.lines,h.flags,h.ls,s.words,r.d,rfl,hs.words,hl,(λw hw=>Q5 (hs.short w hw) hn),hd,(by show 3<=sizeLine;lia),?_⟩;show Qr (.o (.tuple [.tuple ((s.rooms.map nD).set i (nD r.q)),_,_]));rw[<- ZG (f:=nD)];exact q
end
section
variable {P:Uy}{w:U0}{K:Qa}{mg:Str->Option Ut}{base:Heap}{k:Nat}
abbrev zfa:Stmt:=top 23
theorem zmg:FnScope ["standing", "line", "place", "word"] ["standing", "line", "place"] (zah zfa):=⟨rfl,rfl,rfl,by decide +kernel,rfl,by decide +kernel,by decide +kernel⟩
theorem zdt(B:Blt mg)(zb3:Def3 P w K mg base 1 "put_at" ["parts", "place", "part"] (spO K (λ_=>True) 3 zio))(T:Top3 K mg "behind_loss" zfa):Def3 P w K mg base 2 "behind_loss" ["standing", "line", "place"] (spO K (λ_=>True) 3 blF):=by
 refine mk_O T zmg (λ_ _ _ _ _ _ us hl=>len3 hl λ_ _ _=>rfl) rfl λf cdv A outer s H E O hφ C=>⟨_,(zaf (zaq 3 (zag C (zag C (zaa 0) zad) (zaa 1))) (zai (zar (za8 (zab (zag C (zaa 0) zad) (zab (zag C (zaa 0) zad) (zab (za4 C zb3 (λ_=>trivial) (zab (zag C (zaa 0) zad) (zab (zaa 1) (zab (zax C (zay C (zaa 3) za6 (za5 (zaa 2))) (zay C (zaa 3) (za5 (zax C (zaa 2) zad)) za6)) zac)))) zac))))))),λds Qr hn q=>?_⟩;obtain⟨h,n,s,l,p,rfl,hh,hs,hn,hi,q⟩:=q;have hl:=hh.lines;have sz:=Uz;have hi':l<s.words.length:=by rw[hs.words];exact hi
 have hw:=Q5 (hs.short _ (zbj (z:=[]) hi')) hn;refine⟨_,_,rfl,rfl,_,rfl,_,_,rfl,rfl,_,zas (za3 (z:=[]) hi'),rfl,?_⟩;refine⟨_,_,rfl,rfl,_,rfl,_,_,rfl,rfl,_,rfl,_,_,rfl,rfl,_,rfl,_,_,rfl,rfl,_,_,rfl,rfl,_,_,rfl,rfl,_,rfl,_,zex (by lia),_,_,rfl,rfl,_,_,rfl,rfl,_,rfl,_,rfl,_,zex (by lia),_,zil ?_,rfl,s.words.map wD,l,_,rfl,(by rw[Qb];exact hi'),(by rw[Qb,hs.words];lia),(by show 3<=sizeLine;lia),?_⟩
 .have:=zem (s.words.getD l []) none (some (p:Int));have:=zem (s.words.getD l []) (some ((p:Int)+1)) none;lia
 .show Qr (.o (.tuple [_,_,.tuple ((s.words.map wD).set l (wD (cutL (s.words.getD l []) none (some (p:Int))++cutL (s.words.getD l []) (some ((p+1:Nat):Int)) none)))]));rw[<- ZG (f:=wD),zdq,zcx];exact q
end
section
variable {P:Uy}{w:U0}{K:Qa}{mg:Str->Option Ut}{base:Heap}{k:Nat}
abbrev zkc:Stmt:=top 24
theorem zvh:FnScope ["house", "standing", "step"] ["house", "standing", "step"] (zah zkc):=⟨rfl,rfl,rfl,by decide +kernel,rfl,by decide +kernel,by decide +kernel⟩
theorem zh1(B:Blt mg)(zds:Def3 P w K mg base 3 "behind_rule" ["standing", "hand", "rule"] (spO K (λ_=>True) 3 brF))(zdt:Def3 P w K mg base 2 "behind_loss" ["standing", "line", "place"] (spO K (λ_=>True) 3 blF))(T:Top3 K mg "behind" zkc):Def3 P w K mg base 4 "behind" ["house", "standing", "step"] (spO K (λ_=>True) 3 bhF):=by
 refine mk_O T zvh (λ_ _ _ _ _ _ us hl=>len3 hl λ_ _ _=>rfl) rfl λf cdv A outer s H E O hφ C=>⟨_,(zaf (s_if (t_eq C (zag C (zaa 2) zad) za0) (zai (zar (za4 C zdt (λ_=>trivial) (zab (zaa 1) (zab (zag C (zaa 2) zad) (zab (zag C (zaa 2) zad) zac)))))) zap) (zai (zar (za4 C zds (λ_=>trivial) (zab (zaa 1) (zab (zag C (zaa 2) zad) (zab (zag C (zag C (zag C (zag C (zaa 0) zad) (zag C (zaa 2) zad)) zad) (zag C (zaa 2) zad)) zac))))))),λds Qr hn q=>?_⟩;obtain⟨h,n,s,t,rfl,hh,hs,hn3,ht,q⟩:=q
 cases t with
 | lose l p=>exact⟨_,_,rfl,rfl,_,rfl,_,zbc (by decide +kernel) (by decide +kernel),_,rfl,ite2 (λ_=>⟨_,_,rfl,rfl,_,_,rfl,rfl,_,rfl,_,_,rfl,rfl,_,rfl,rfl,h,n,s,l,p,rfl,hh,hs,hn3,ht.1,q⟩) λz=>absurd (by decide +kernel) z⟩
 | act a i=>
   have ha:a<h.hands.length:=ht.1;have hi:i<(h.hands.getD a ⟨0,[]⟩).rs.length:=ht.2;refine⟨_,_,rfl,rfl,_,rfl,_,zbc (by decide +kernel) (by decide +kernel),_,rfl,ite2 (λz=>absurd z (by decide +kernel)) λ_=>?_⟩;refine⟨_,_,rfl,rfl,_,_,rfl,rfl,_,rfl,_,_,rfl,rfl,_,rfl,_,_,rfl,rfl,_,rfl,_,zas (za3 (z:=(⟨0,[]⟩:Hnd)) ha),_,rfl,_,_,rfl,rfl,_,rfl,_,zas (za3 (z:=(⟨0,.go,0⟩:Rul)) hi),rfl,h,n,s,a,_,rfl,hh,hs,hn3,?_,ha,q⟩;exact(((hh.rules _ (zbj ha)).2 _ (zbj hi))).1
end
section
variable {P:Uy}{w:U0}{K:Qa}{mg:Str->Option Ut}{base:Heap}{k:Nat}
abbrev zmc:Stmt:=top 25
theorem z0a:FnScope ["house", "standing", "step", "words"] ["house", "standing", "step"] (zah zmc):=⟨rfl,rfl,rfl,by decide +kernel,rfl,by decide +kernel,by decide +kernel⟩
theorem zh5(B:Blt mg)(zd1:Def3 P w K mg base 1 "is_there" ["number", "count"] (spO K (λ_=>True) 2 zsh))(zel:Def3 P w K mg base 3 "steps_here" ["house", "standing"] (spO K (λ_=>True) 2 zue))(T:Top3 K mg "can_be" zmc):Def3 P w K mg base 4 "can_be" ["house", "standing", "step"] (spO K (λ_=>True) 3 zxt):=by
 refine mk_O T z0a (λ_ _ _ _ _ _ us hl=>len3 hl λ_ _ _=>rfl) rfl λf cdv A outer s H E O hφ C=>⟨_,(zaf (s_if (t_eq C (zag C (zaa 2) zad) za0) (zai (zar (e_in C (zaa 2) (za4 C zel (λ_=>trivial) (zab (zaa 0) (zab (zaa 1) zac)))))) zap) (zaf (zaq 3 (zag C (zaa 1) zad)) (zai (zar (zxk (za4 C zd1 (λ_=>trivial) (zab (zag C (zaa 2) zad) (zab (zbm C B (zab (zaa 3) zac)) zac))) (zxh (za4 C zd1 (λ_=>trivial) (zab (zag C (zaa 2) zad) (zab (zbm C B (zab (zag C (zaa 3) (zag C (zaa 2) zad)) zac)) zac))))))))),λds Qr hn q=>?_⟩;obtain⟨h,n,s,t,rfl,hh,hs,hn3,q⟩:=q;obtain⟨a,i,j⟩:=t;have wl:=hs.words;have li:=hh.lines;have sz:=Uz
 cases a with
 | true=>
   have hin:=z2y false ⟨true,i,j⟩ (zbr h s);rw[z1c] at hin ⊢;refine⟨_,_,rfl,rfl,_,rfl,_,zbc (by decide +kernel) (by decide +kernel),_,rfl,ite2 (λ_=>?_) λz=>absurd (by decide +kernel) z⟩;rw[zoe] at q;exact⟨_,_,rfl,rfl,_,_,rfl,rfl,_,_,rfl,rfl,rfl,h,n,s,rfl,hh,hs,hn3,_,hin,q⟩
 | false=>
   rw[zv7];refine⟨_,_,rfl,rfl,_,rfl,_,zbc (by decide +kernel) (by decide +kernel),_,rfl,ite2 (λz=>absurd z (by decide +kernel)) λ_=>?_⟩;refine⟨_,_,rfl,rfl,_,rfl,zao zo7 _,?_⟩;refine⟨_,_,rfl,rfl,_,rfl,_,_,rfl,rfl,_,rfl,rfl,_,_,rfl,_,rfl,?_⟩;rw[zh8] at q;rw[Qb]
   by_cases hl:(decide (0<=i) && decide (i<(s.words.length:Nat)))=true
   .rw[hl];rw[hl,Vg] at q;rw[Qu,TC,TC] at hl;obtain⟨l,rfl⟩:=Ql hl.1;have hl2:l<s.words.length:=by lia
    have hw:=Q5 (hs.short _ (zbj (z:=[]) hl2)) hn3;refine iteT ⟨_,_,rfl,rfl,_,rfl,_,_,rfl,rfl,_,_,rfl,rfl,_,rfl,_,zas (za3 (z:=[]) hl2),_,zej (by lia),rfl,_,_,rfl,?_⟩;exact q
   .rw[Bool.not_eq_true] at hl;rw[hl];rw[hl,Yl] at q;exact iteF q
end
section
variable {P:Uy}{w:U0}{K:Qa}{mg:Str->Option Ut}{base:Heap}{k:Nat}
abbrev zkk:Stmt:=top 26
theorem zvi:FnScope ["house", "standing", "run", "standings", "here", "at", "step"] ["house", "standing", "run"] (zah zkk):=⟨rfl,rfl,rfl,by decide +kernel,rfl,by decide +kernel,by decide +kernel⟩
theorem zhz(B:Blt mg)(EC:ErrC K mg ea)(rNoStep:zko K ea)(zh1:Def3 P w K mg base 4 "behind" ["house", "standing", "step"] (spO K (λ_=>True) 3 bhF))(zh5:Def3 P w K mg base 4 "can_be" ["house", "standing", "step"] (spO K (λ_=>True) 3 zxt))(T:Top3 K mg "walked" zkk):Def3x P w K mg base 5 "walked" ["house", "standing", "run"] (spX K mg (λ_=>True) 3 zs0):=by
 obtain⟨fNoStep,mNoStep,iNoStep⟩:=rNoStep.init;obtain⟨fdNoStep,psNoStep,FNoStep,BNoStep⟩:=znq (P:=P) (w:=w) (mg:=mg) (base:=base) iNoStep;refine zxs T zvi (λ_ _ _ _ _ _ us hl=>len3 hl λ_ _ _=>rfl) rfl λf cdv A outer s H E O hφ Bd C=>⟨_,(zdc (x_of (zaq 3 (zbu zac))) (zdc (x_of (zaq 4 (zaa 1))) (zdc (z4y Bd rfl (zcd (zfg C B (zaa 2))) (zf4 (h:=1000) C (zav 5 (zav 6 zcc))) (zdc (x_if (zfw (zg7 (za4 C zh5 (λ_=>trivial) (zab (zaa 0) (zab (zaa 4) (zab (zaa 6) zac)))))) (zs8 (zph Bd rfl rfl rfl rfl rfl rfl mNoStep FNoStep ((C.room ()).mono (by decide)) BNoStep (by decide) EC.ns (zab (zaa 5) zac))) (zje zap)) (zje (zaf (zaq 4 (za4 C zh1 (λ_=>trivial) (zab (zaa 0) (zab (zaa 4) (zab (zaa 6) zac))))) (zai (zet 3 C (zaa 4))))))) (zje (zai (zin 3)))))),λds Qr hn q=>?_⟩;obtain⟨h,n,s,r,rfl,hh,hs,hn,q⟩:=q;have sz:=Uz;refine⟨QL _,rfl,_,_,rfl,rfl,zfk s,_,_,rfl,rfl,_,rfl,zao zg6 _,rfl,?_⟩;refine zbe (λj ρ=>∃(s1:Sta) (acc:List Sta) (o5 o6:Option DV),ρ = [some (.im (za2 h)),some (.im (zak s)),some (.im (.tuple (r.map zan))),some (.own (acc.map zak)),some (.im (zak s1)),o5,o6]/\resR h (r.drop j) j acc s1=resR h r 0 [] s/\StOk h (n+j) s1/\acc.length=j) ⟨s,[],none,none,rfl,rfl,hs,rfl⟩ (λρ zz=>?_) λj d ρ N hd hN zz=>?_
 .obtain⟨s1,acc,o5,o6,e,h1,h2,h3⟩:=zz;subst e;rw[zc1,Qb,ZR] at h1;rw[<- h1] at q;exact⟨_,rfl,q⟩
 .obtain⟨s1,acc,o5,o6,e,h1,h2,h3⟩:=zz;subst e;obtain⟨z,hz,rfl⟩:=zdn hd;rw[Qs] at hz;obtain⟨t,ht,rfl⟩:=Q4.mp hz;rw[zhk ht,resR] at h1;have hj:j<r.length:=(Qk.mp ht).1;refine⟨rfl,_,rfl,_,_,rfl,rfl,_,_,rfl,rfl,_,_,rfl,rfl,rfl,h,_,_,t,rfl,hh,h2,by lia,_,rfl,?_⟩
  cases hc:canR h s1 t with
  | false=>
    rw[hc,TB Qo] at h1;rw[<- h1] at q;exact iteT ⟨_,_,rfl,rfl,rfl,q⟩
  | true=>
    rw[hc,T0 rfl] at h1;obtain⟨et,hm⟩:=zkn hc;have hs2:=zfb hh h2 (zfo h2 hm);refine iteF ⟨_,_,rfl,rfl,_,_,rfl,rfl,_,_,rfl,rfl,rfl,h,_,_,toS t,congrArg (λz=>[za2 h,zak s1,z]) (show zan t=zaz (toS t) by rw[zm0,<- et]),hh,h2,by lia,zfo h2 hm,zfk _,?_⟩;refine⟨_,rfl,_,_,rfl,rfl,zfk _,by rw[Qb,h3];lia,hN _ ⟨_,acc ++ [zce h s1 (toS t)],some (.im (.int (j:Nat))),some (.im (zan t)),?_,h1,hs2,by rw[Qf,h3];rfl⟩⟩;rw[QI];rfl
end
section
variable {P:Uy}{w:U0}{K:Qa}{mg:Str->Option Ut}{base:Heap}{k:Nat}
abbrev zg0:Stmt:=top 28
theorem zqw:FnScope ["house", "begin", "asked", "run", "standings", "error", "last"] ["house", "begin", "asked", "run"] (zah zg0):=⟨rfl,rfl,rfl,by decide +kernel,rfl,by decide +kernel,by decide +kernel⟩
theorem d_run_holds(B:Blt mg)(EC:ErrC K mg ea)(rNoStep:zko K ea)(rNoPaper:zh0 K ea)(zfv:Def3 P w K mg base 3 "is_above" ["one", "other"] (spO K (λ_=>True) 2 abvF))(zhz:Def3x P w K mg base 5 "walked" ["house", "standing", "run"] (spX K mg (λ_=>True) 3 zs0))(T:Top3 K mg "run_holds" zg0):Def3x P w K mg base 6 "run_holds" ["house", "begin", "asked", "run"] (spX K mg (λ_=>True) 4 zqu):=by
 obtain⟨fNoPaper,mNoPaper,iNoPaper⟩:=rNoPaper.init;obtain⟨fdNoPaper,psNoPaper,FNoPaper,BNoPaper⟩:=znq (P:=P) (w:=w) (mg:=mg) (base:=base) iNoPaper;refine zxs T zqw (λ_ _ _ _ _ _ us hl=>len4 hl λ_ _ _ _=>rfl) rfl λf cdv A outer s H E O hφ Bd C=>⟨_,(zdc (ztl 5 Bd rfl rfl rfl rfl EC.ns (zvd rNoStep) mNoPaper iNoPaper ((C.room ()).mono (by decide)) EC.np EC.ch (z1y 4 (zyf C zhz (λ_=>trivial) (zab (zaa 0) (zab (zaa 1) (zab (zaa 3) zac))))) (zab (zpw 5 C.mk2) zac)) (zdc (x_of (zaq 6 (e_if (z4x C (zaa 4)) (zag C (zaa 4) zdx) (zaa 1)))) (zdc (x_if (zfw (zg7 (za4 C zfv (λ_=>trivial) (zab (zaa 6) (zab (zaa 2) zac))))) (zs8 (zph Bd rfl rfl rfl rfl rfl rfl mNoPaper FNoPaper ((C.room ()).mono (by decide)) BNoPaper (by decide) EC.np (zab (zbm C B (zab (zaa 3) zac)) zac))) (zje zap)) (zje (zai (zar e_bl)))))),λds Qr hn q=>?_⟩;obtain⟨h,n,b,a,r,rfl,ho,hb,ha,hn,q⟩:=q;have sz:=Uz;have hh:=ho.ok
 ac_rfl
 refine⟨h,n,b,r,rfl,hh,hb,by lia,?_⟩;unfold zgs at q
 cases hR:resR h r 0 [] b with
 | inl k=>
   rw[hR] at q;refine⟨"NoStep",["at"],[.int (k:Nat)],ea.ns,rfl,EC.ns,zz4 rNoStep,rNoStep.get.base,EC.nc,rfl,?_⟩;exact⟨_,_,_,.int (k:Nat),rfl,rNoStep.get,rNoStep.nof,rfl,rfl,rfl,q⟩
 | inr L=>
   rw[hR] at q;have sL:=zt9 hh r hb (λx hx=>absurd hx Q0) hR;refine⟨zao (λx=>zcq x) _,?_⟩
   have fin:∀(x:Sta) (c:Bool),StOk h (n+r.length) x->abvB x a=c->(c=abvB (L.getLast?.getD b) a)->(seqD (ifS (notT (bD (calD 2 abvF (zby (vD 6) (zby (vD 2) aNil))))) (zms (QH "NoPaper") [QH "at"] (zby (zb6 (fn1 lenF) (zby (vD 3) aNil)) aNil)) λDd ρ=>Dd.nx ρ) (retS (cD (VO true)))) { nx:=λ_=>Qr (R.o PyData.none),rt:=Qr } [some (.im (za2 h)),some (.im (zak b)),some (.im (zak a)),some (.im (.tuple (r.map zan))),some (.own (L.map zak)),none,some (.im (zak x))]:=by
    intro x c hx ec e
    ac_rfl
    refine⟨(zgp hx (by lia)).w ho,ha.w,by rw[hx.words,ha.n],_,rfl,?_⟩;rw[ec];have q:Qr (zrd (if abvB (L.getLast?.getD b) a=true then none else some r.length)):=q;rw[<- e] at q
    cases c with
    | true=>
      ac_rfl
      exact q
    | false=>
      ac_rfl
      rw[Qb];exact q
   rcases List.eq_nil_or_concat L with rfl|⟨L',y,rfl⟩
   .ac_rfl
    refine⟨zcq b,?_⟩;exact fin b _ ⟨hb.rooms,hb.flags,hb.words,λw hw=>Q5 (hb.short w hw) (Y5 _ _),hb.low⟩ rfl rfl
   .rw[List.concat_eq_append] at q fin sL ⊢;have hy:StOk h (n+r.length) y:=sL y (by simp)
    ac_rfl
    rw[show(!(List.map zak (L' ++ [y])).isEmpty)=true by simp];refine⟨_,_,rfl,rfl,_,zeu,zcq y,?_⟩;exact fin y _ hy rfl (by rw[YW];rfl)
end
section
variable {P:Uy}{w:U0}{K:Qa}{mg:Str->Option Ut}{base:Heap}{k:Nat}
abbrev zj3:Stmt:=top 32
theorem zwa:FnScope ["_law_deal_here", "_law_some", "_law_letters", "_law_lines", "_law_flags", "_law_hands", "_law_k", "_law_rooms", "_law_rules", "_law_j", "_law_letter", "_law_line", "_law_doings", "_law_flag", "_law_value", "_law_deed"] ["_law_deal_here"] (zah zj3):=⟨rfl,rfl,rfl,by decide +kernel,rfl,by decide +kernel,by decide +kernel⟩
theorem ze7(B:Blt mg)(d_law_draw:zha P w K mg base)(T:Top3 K mg "_law_house" zj3):Def3 P w K mg base 2 "_law_house" ["_law_deal_here"] (spD K IsDeal 0 zoz):=by
 refine mk_D T zwa (λ_ _ _ _ _ _ us hl=>len1 hl λ_=>rfl) rfl λf cdv A outer s H E O hφ C=>?_;have hO:∀j:Unit,IsDeal ((λ_:Unit=>O) j):=λ_=>hφ
 refine⟨_,(zaf (zaq 1 (zhd C B (zab za0 zac))) (zaf (z5h 2 1 0 (λO D u h n=>h.plus D u n) hO (zax C zad (zam 0 C d_law_draw hO (zab zad zac))) (λte he i=>by
  obtain⟨fD,fdD,G,mD,kpD,bnD⟩:=d_law_draw.ex
  exact zc5 (i:=2) (Tz (by kernel_rfl)) rfl (by first|exact Or.inl rfl|exact Or.inr rfl) (zgb Ju YK YL zn7 zbx (zaw (zeh zp6 rfl B.sorted zug (zaw (zkp 1 (N':=["_law_k", "_law_deal_here", "_law_some", "_law_letters", "_law_lines", "_law_flags", "_law_hands", "._law_k", "_law_rooms", "_law_rules", "_law_j", "_law_letter", "_law_line", "_law_doings", "_law_flag", "_law_value", "_law_deed"]) (.of rfl (by kernel_rfl)) rfl (zlk rfl B.range (zaw (he i) zbk)) (λC s H ex=>zdi (Tz (by kernel_rfl)) rfl (by first|exact Or.inl rfl|exact Or.inr rfl) (by first|exact .inl rfl|exact .inr rfl)) (zei (by decide)) (λC s H ex=>zmq) (λ_ s H ex=>zgb Jl YO YQ ztk (zal (i:=2) rfl (by first|exact Or.inl rfl|exact Or.inr (Or.inl rfl)|exact Or.inr (Or.inr rfl))) (zaw (zfq (k:=1) (by exact G.mono (by decide)) (by exact C.room ()) rfl mD kpD bnD .nil zim (zaw (zal (i:=1) rfl (by first|exact Or.inl rfl|exact Or.inr (Or.inl rfl)|exact Or.inr (Or.inr rfl))) (zaw (zeh zhu rfl B.len zmk (zaw (zal (i:=2) rfl (by first|exact Or.inl rfl|exact Or.inr (Or.inl rfl)|exact Or.inr (Or.inr rfl))) zbk)) zbk))) zbk))) zbk)) zbk)))) (zaf (zlv 3 4 C (zab (zax C zad (zam 0 C d_law_draw hO (zab zad zac))) (zab (zam 0 C d_law_draw hO (zab zad zac)) zac))) (zaf (zaq 5 (zbu zac)) (zaf (zcm C (zcd (i_r1 C B (zab (zax C zad (zam 0 C d_law_draw hO (zab zad zac))) zac))) (zbv (h:=1000) 6) (zaf (zaq 7 (zax C zad (zam 0 C d_law_draw hO (zab zad zac)))) (zaf (zaq 8 (zbu zac)) (zaf (zcm C (zcd (i_r1 C B (zab (z3h C (zax C zad (zam 0 C d_law_draw hO (zab zad zac))) (zam 0 C d_law_draw hO (zab zad zac)) (zam 0 C d_law_draw hO (zab zad zac))) zac))) (zbv (h:=1000) 9) (zaf (zlv 10 11 C (zab (zag C (zaa 2) (zam 0 C d_law_draw hO (zab (zbm C B (zab (zaa 2) zac)) zac))) (zab (zam 0 C d_law_draw hO (zab (zaa 3) zac)) zac))) (zaf (zaq 12 (zbu (zab (za8 (zab za0 (zab (zaa 11) (zab (zaa 10) zac)))) (zab (za8 (zab za0 (zab (zaa 11) (zab (zaa 10) zac)))) (zab (za8 (zab za0 (zab (zaa 11) (zab (zaa 10) zac)))) (zab (za8 (zab za0 (zab (zaa 11) (zab (zaa 10) zac)))) zac)))))) (zaf (zaq 12 (zax C (zaa 12) (zbu (zab (za8 (zab za0 zac)) (zab (za8 (zab za0 (zab (zaa 11) zac))) zac))))) (zaf (s_if (t_gt (zaa 4) zad) (zaf (zlv 13 14 C (zab (zam 0 C d_law_draw hO (zab (zaa 4) zac)) (zab (zam 0 C d_law_draw hO (zab zad zac)) zac))) (zai (zaq 12 (zax C (zaa 12) (zbu (zab (za8 (zab za0 (zab (zaa 13) (zab (zaa 14) zac)))) (zab (za8 (zab za0 (zab (zaa 13) (zab (zaa 14) zac)))) zac))))))) zap) (zaf (zaq 15 (zag C (zaa 12) (zam 0 C d_law_draw hO (zab (zbm C B (zab (zaa 12) zac)) zac)))) (zai (zet 8 C (za8 (zab (zam 0 C d_law_draw hO (zab (zaa 7) zac)) (zab (zaa 15) (zab (zam 0 C d_law_draw hO (zab (zaa 7) zac)) zac)))))))))))) (zai (zet 5 C (za8 (zab (zaa 7) (zab (zcb C B (zab (zaa 8) zac)) zac))))))))) (zai (zar (za8 (zab (zaa 2) (zab (zaa 3) (zab (zaa 4) (zab (zcb C B (zab (zaa 5) zac)) zac)))))))))))),λds Qr hn q=>?_⟩
 obtain⟨rfl,q⟩:=q;have sz:=Uz
 ac_rfl
 refine⟨by decide,by decide,λk k0 k1=>?_⟩;obtain⟨a,rfl⟩:=Ql k0
 ac_rfl
 refine⟨by lia,by lia,λls rest ll low inc=>?_⟩;have hne:ls≠[]:=λe=>by rw[e] at ll;simp at ll;lia
 ac_rfl
 refine⟨by decide,by decide,λk k0 k1=>?_⟩;obtain⟨b,rfl⟩:=Ql k0
 ac_rfl
 refine⟨by decide,by decide,λk k0 k1=>?_⟩;obtain⟨c,rfl⟩:=Ql k0
 ac_rfl
 refine⟨by decide,by decide,λk k0 k1=>?_⟩;obtain⟨e,rfl⟩:=Ql k0
 ac_rfl
 refine⟨by lia,by lia,rfl,?_⟩;refine zbe (λj ρ=>∃(hs:List Hnd) (o6 o7 o8 o9 o10 o11 o12 o13 o14 o15:Option DV),ρ = [some .ob,some (.own (rest.map λc=>.str (sg c))),some (.im (.str (tx ls))),some (.im (.int (1+(b:Nat)))),some (.im (.int (c:Nat))),some (.own (hs.map zbz)),o6,o7,o8,o9,o10,o11,o12,o13,o14,o15]/\hs.length=j/\∀x∈hs,HdOk ls (1+b) c x/\x.n<=3/\x.rs.length<=5/\∀r∈x.rs,r.p<3/\r.q<3) ⟨[],none,none,none,none,none,none,none,none,none,none,rfl,rfl,λx h=>(Q0 h).elim⟩ (λρ hρ=>?_) λj d ρ N hd hN hρ=>?_
 .obtain⟨hs,o6,o7,o8,o9,o10,o11,o12,o13,o14,o15,rfl,h1,h2⟩:=hρ;rw[zcy] at h1
  ac_rfl
  refine q ⟨ls,1+b,c,hs⟩ ⟨⟨low,hne,by show ls.length<=100;lia,by show 1+b<=100;lia,by show c<=100;lia,by show hs.length<=100;lia,λx hx=>(h2 x hx).1.1,λx hx=>(h2 x hx).1.2⟩,by show 1<=1+b;lia,by show 1+b<=2;lia,by show c<=2;lia,by show 1<=hs.length;lia,by show hs.length<=2;lia,λx hx=>(h2 x hx).2.2.1,λx hx=>(h2 x hx).2.1,by show ls.length<=3;lia,λx hx=>(h2 x hx).2.2.2⟩
 .obtain⟨hs,o6,o7,o8,o9,o10,o11,o12,o13,o14,o15,rfl,h1,h2⟩:=hρ;obtain⟨hj,rfl⟩:=zb9 hd;refine⟨rfl,?_⟩
  ac_rfl
  refine⟨by decide,by decide,λk k0 k1=>?_⟩;obtain⟨f,rfl⟩:=Ql k0
  ac_rfl
  refine⟨by decide,by decide,λk k0 k1=>?_⟩;obtain⟨g,rfl⟩:=Ql k0
  ac_rfl
  refine⟨by decide,by decide,λk k0 k1=>?_⟩;obtain⟨g',rfl⟩:=Ql k0
  ac_rfl
  refine⟨by decide,by decide,λk k0 k1=>?_⟩;obtain⟨p,rfl⟩:=Ql k0
  ac_rfl
  generalize e1:R.o (JW (1+(g:Int)))=r1;generalize e2:R.o (JW (g':Int))=r2;apply z5n (p:=p) (r1:=r1) (r2:=r2) (by lia);intro r hr
  obtain⟨m,rfl,h5⟩:∃m:Nat,r = .o (.int (m:Nat))/\m<=5:=by
   rcases hr with rfl|rfl
   .exact⟨1+g,e1.symm,by lia⟩
   .exact⟨g',e2.symm,by lia⟩
  ac_rfl
  refine⟨by lia,by lia,rfl,?_⟩;refine zbe (λi ρ=>∃(rs:List Rul) (o9 o10 o11 o12 o13 o14 o15:Option DV),ρ = [some .ob,some (.own (rest.map λc=>.str (sg c))),some (.im (.str (tx ls))),some (.im (.int (1+(b:Nat)))),some (.im (.int (c:Nat))),some (.own (hs.map zbz)),some (.im (.int (0+(j:Nat)))),some (.im (.int (1+(f:Nat)))),some (.own (rs.map zda)),o9,o10,o11,o12,o13,o14,o15]/\rs.length<=i/\∀r∈rs,RuOk ls (1+b) c r/\r.p<3/\r.q<3) ⟨[],_,_,_,_,_,_,_,rfl,QL _,λx h=>(Q0 h).elim⟩ (λρ hρ=>?_) λi d ρ N hd2 hN2 hρ=>?_
  .obtain⟨rs,o9,o10,o11,o12,o13,o14,o15,rfl,g1,g2⟩:=hρ;rw[zcy] at g1
   ac_rfl
   refine⟨zhh ⟨1+f,rs⟩,by rw[Qb];lia,hN _ ⟨hs ++ [⟨1+f,rs⟩],_,_,_,_,_,_,_,_,_,_,by rw[QI];rfl,by rw[Qf,h1];rfl,znu h2 ⟨⟨⟨by show 0<1+f;lia,by show 1+f<=100;lia⟩,by show rs.length<=100;lia,λr hr=>(g2 r hr).1⟩,by show 1+f<=3;lia,by show rs.length<=5;lia,λr hr=>(g2 r hr).2⟩⟩⟩
  .obtain⟨rs,o9,o10,o11,o12,o13,o14,o15,rfl,g1,g2⟩:=hρ;obtain⟨hi,rfl⟩:=zb9 hd2;refine⟨rfl,?_⟩
   have tail:∀(Dd:DEnds) (ds:List Deed) (o9 o10 o11 o13 o14 o15:Option DV),ds≠[]->ds.length<=10->(∀d∈ds,DeOk ls (1+b) c d)->Dd.nx=N->(seqD (asgS 15 (opDE (fn2 idxF) (vD 12) (calO 0 1 zcu (zby (zb6 (fn1 lenF) (zby (vD 12) aNil)) aNil)))) (appS 8 (tupD (zby (calO 0 1 zcu (zby (vD 7) aNil)) (zby (vD 15) (zby (calO 0 1 zcu (zby (vD 7) aNil)) aNil)))))) Dd [some .ob,some (.own (rest.map λc=>.str (sg c))),some (.im (.str (tx ls))),some (.im (.int (1+(b:Nat)))),some (.im (.int (c:Nat))),some (.own (hs.map zbz)),some (.im (.int (0+(j:Nat)))),some (.im (.int (1+(f:Nat)))),some (.own (rs.map zda)),o9,o10,o11,some (.own (ds.map zb5)),o13,o14,o15]:=by
    intro Dd ds o9 o10 o11 o13 o14 o15 ne l10 dk eD;have lp:=YZ.mpr ne
    ac_rfl
    rw[Qb];refine⟨by lia,by lia,λk k0 k1=>?_⟩;obtain⟨u,rfl⟩:=Ql k0;have hu:u<ds.length:=by lia
    (repeat first|refine⟨_,zdj (f:=zb5) (Qi hu),?_⟩|refine⟨zdj (f:=zb5) (Qi hu),?_⟩|infer_instance)
    refine⟨z4o _,?_⟩
    ac_rfl
    refine⟨by lia,by lia,λk k0 k1=>?_⟩;obtain⟨y,rfl⟩:=Ql k0
    ac_rfl
    refine⟨by lia,by lia,λk k0 k1=>?_⟩;obtain⟨z,rfl⟩:=Ql k0
    ac_rfl
    refine⟨zfm ⟨y,ds[u],z⟩,by rw[Qb];lia,?_⟩;rw[eD];refine hN2 _ ⟨rs ++ [⟨y,ds[u],z⟩],_,_,_,_,_,_,_,by rw[QI];rfl,by rw[Qf,Qz];lia,znu g2 ⟨⟨dk _ (ZA hu),by show y<=100;lia,by show z<=100;lia⟩,by show y<3;lia,by show z<3;lia⟩⟩
   refine zky rfl rfl hne (by lia) λx hx=>?_
   ac_rfl
   refine⟨by lia,by lia,λk k0 k1=>?_⟩;obtain⟨l,rfl⟩:=Ql k0
   ac_rfl
   have lb:l<1+b:=by lia
   have d6:∀d∈[Deed.send l x,.take l x,.send l x,.take l x,.go,.empty l],DeOk ls (1+b) c d:=by
    intro d hd;simp only[Q3,Q0,TM] at hd;rcases hd with rfl|rfl|rfl|rfl|rfl|rfl
    .exact⟨lb,hx⟩
    .exact⟨lb,hx⟩
    .exact⟨lb,hx⟩
    .exact⟨lb,hx⟩
    .exact trivial
    .exact lb
   by_cases c0:0<c
   .rw[TH (show(0:Int)<(c:Nat) by lia)]
    ac_rfl
    refine⟨by lia,by lia,λk k0 k1=>?_⟩;obtain⟨t,rfl⟩:=Ql k0
    ac_rfl
    refine⟨by lia,by lia,λk k0 k1=>?_⟩;obtain⟨v,rfl⟩:=Ql k0
    iterate 12 infer_instance
    refine tail _ ([Deed.send l x,.take l x,.send l x,.take l x,.go,.empty l] ++ [.put t v,.test t v]) _ _ _ _ _ _ (by simp) (by simp) (λd hd=>?_) ?_
    .rcases Q6.mp hd with hd|hd
     .exact d6 d hd
     .simp only[Q3,Q0,TM] at hd;rcases hd with rfl|rfl
      .exact⟨by lia,by lia⟩
      .exact⟨by lia,by lia⟩
    .rfl
   .rw[TF (show ¬(0:Int)<(c:Nat) by lia)];exact tail _ [Deed.send l x,.take l x,.send l x,.take l x,.go,.empty l] _ _ _ _ _ _ (by simp) (by simp) d6 rfl
end
section
variable {P:Uy}{w:U0}{K:Qa}{mg:Str->Option Ut}{base:Heap}{k:Nat}
abbrev zga:Stmt:=top 33
theorem zov:FnScope ["_law_deal_here", "_law_house_here", "_law_most", "_law_letters", "_law_lines", "_law_flags", "_law_hands", "_law_words", "_law_k", "_law_rooms"] ["_law_deal_here", "_law_house_here", "_law_most"] (zah zga):=⟨rfl,rfl,rfl,by decide +kernel,rfl,by decide +kernel,by decide +kernel⟩
theorem zcj(B:Blt mg)(d_law_draw:zha P w K mg base)(T:Top3 K mg "_law_standing" zga):Def3 P w K mg base 2 "_law_standing" ["_law_deal_here", "_law_house_here", "_law_most"] (spD K IsDeal 2 zo1):=by
 refine mk_D T zov (λ_ _ _ _ _ _ us hl=>len3 hl λ_ _ _=>rfl) rfl λf cdv A outer s H E O hφ C=>?_;have hO:∀j:Unit,IsDeal ((λ_:Unit=>O) j):=λ_=>hφ;refine⟨_,(zaf (zgm (h:=1000) C (zaa 1) (zav 3 (zav 4 (zav 5 (zav 6 zcc))))) (zaf (zaq 7 (zbu zac)) (zaf (zcm C (zcd (i_r1 C B (zab (zaa 4) zac))) (zbv (h:=1000) 8) (zai (zet 7 C (z1x C za0 (zef 1 ["_law_j", "_law_deal_here", "_law_house_here", "_law_most", "_law_letters", "_law_lines", "_law_flags", "_law_hands", "_law_words", "_law_k", "_law_rooms"] C (λ_=>.of rfl (by kernel_rfl)) (i_r1 C B (zab (zam 0 C d_law_draw hO (zab (zax C (zaa 2) zad) zac)) zac)) (zbv 0) zgh (zag (C.comp _ _) (zaa 4) (zam 1 (C.comp _ _) d_law_draw (upD hO) (zab (zbm (C.comp _ _) B (zab (zaa 4) zac)) zac)))))))) (zaf (zaq 9 (zcb C B (zab (zef 1 ["_law_hand", "_law_deal_here", "_law_house_here", "_law_most", "_law_letters", "_law_lines", "_law_flags", "_law_hands", "_law_words", "_law_k", "_law_rooms"] C (λ_=>.of rfl (by kernel_rfl)) (zxn C (zaa 6)) (zbv 0) zgh (zam 1 (C.comp _ _) d_law_draw (upD hO) (zab (zag (C.comp _ _) (zaa 0) zad) zac))) zac))) (zai (zar (za8 (zab (zaa 9) (zab (zcb C B (zab (zef 1 ["_law_k", "_law_deal_here", "_law_house_here", "_law_most", "_law_letters", "_law_lines", "_law_flags", "_law_hands", "_law_words", "._law_k", "_law_rooms"] C (λ_=>.of rfl (by kernel_rfl)) (i_r1 C B (zab (zaa 5) zac)) (zbv 0) zgh (zam 1 (C.comp _ _) d_law_draw (upD hO) (zab zad zac))) zac)) (zab (zcb C B (zab (zaa 7) zac)) zac)))))))))),λds Qr hn q=>?_⟩;obtain⟨h,n,rfl,ho,hn,q⟩:=q;have sz:=Uz;have hh:=ho.ok;have hm:=hh.many;have hl:=hh.lines;have hf:=hh.flags;have lo:=zi6 hh.low;have hs3:=ho.s3
 ac_rfl
 refine⟨zpv h,?_⟩
 ac_rfl
 refine⟨by lia,by lia,rfl,?_⟩;refine zbe (λj ρ=>∃(ws:List (List Nat)) (o8 o9:Option DV),ws.length=j/\(∀w∈ws,w.length<=n/\LowW w)/\ρ = [some .ob,some (.im (za2 h)),some (.im (.int (n:Nat))),some (.im (.str (tx h.ls))),some (.im (.int (h.lines:Nat))),some (.im (.int (h.flags:Nat))),some (.im (.tuple (h.hands.map zbz))),some (.own (ws.map wD)),o8,o9]) ⟨[],none,none,rfl,λw hw=>absurd hw Q0,rfl⟩ (λρ hρ=>?_) λj d ρ N hd nx hρ=>?_
 .obtain⟨ws,o8,o9,w1,w2,rfl⟩:=hρ;rw[zcy] at w1
  ac_rfl
  refine zgy (as:=h.hands) (enc:=zbz) (enc2:=nD) (good:=λm=>m<1000) (λx hx Py hPy=>?_) (by lia) λrs rk hrs=>?_
  .have:=hh.pos x hx;refine⟨rfl,_,_,rfl,rfl,_,rfl,rfl,_,rfl,by lia,by lia,λk k0 k1=>?_⟩;obtain⟨m,rfl⟩:=Ql k0;exact hPy m (by lia)
  refine⟨_,rfl,zao (λ_=>rfl) _,?_⟩
  ac_rfl
  refine⟨by lia,by lia,?_⟩;refine zgy (enc2:=nD) (good:=λm=>m<1000) (λx hx Py hPy=>?_) (by rw[ZD];lia) λfs fk hfs=>?_
  .exact z4q rfl (by decide) (by decide) λk hk=>hPy k (by lia)
  rw[ZD] at hfs
  ac_rfl
  refine q ⟨rs,fs,ws⟩ ⟨hrs,by show fs.length=_;lia,by show ws.length=_;lia,λw hw=>(w2 w hw).1,λw hw=>(w2 w hw).2⟩ λm hm=>(Q6.mp hm).elim (rk m) (fk m)
 .obtain⟨ws,o8,o9,w1,w2,rfl⟩:=hρ;obtain⟨hj,rfl⟩:=zb9 hd;refine⟨rfl,?_⟩
  ac_rfl
  refine⟨by lia,by lia,λk k0 k1=>?_⟩;obtain⟨m,rfl⟩:=Ql k0;refine⟨_,rfl,by lia,by lia,?_⟩;refine zvj (enc2:=λc=>.str (tx [c])) (good:=λc=>c∈h.ls) (λc hc Pn Py hPn hPy=>?_) (by rw[ZD];lia) λv hv hlp=>?_
  .refine iteT (B:=Pn) (zky rfl rfl hh.ne (by lia) λc hc=>hPy c hc)
  .rw[ZD] at hlp;obtain⟨ys,e1,e2,e3⟩:=z0q v (by lia);refine⟨ys,e1,e2,?_⟩;rw[e3];refine⟨rfl,by rw[Qb];lia,nx _ ⟨ws ++ [v],_,_,by rw[Qf,w1];rfl,λw hw=>?_,by rw[QI];rfl⟩⟩;rcases Q6.mp hw with hw|hw
   .exact w2 w hw
   .rw[Qn.mp hw];exact⟨by lia,λc hc=>hh.low c (hv c hc)⟩
end
section
variable {P:Uy}{w:U0}{K:Qa}{mg:Str->Option Ut}{base:Heap}{k:Nat}
abbrev zkj:Stmt:=top 34
theorem zuy:FnScope ["_law_less", "_law_more", "_law_at", "_law_letter"] ["_law_less", "_law_more"] (zah zkj):=⟨rfl,rfl,rfl,by decide +kernel,rfl,by decide +kernel,by decide +kernel⟩
theorem ze4(B:Blt mg)(T:Top3 K mg "_law_under" zkj):Def3 P w K mg base 1 "_law_under" ["_law_less", "_law_more"] (spO K (λ_=>True) 2 zpy):=by
 refine mk_O T zuy (λ_ _ _ _ _ _ us hl=>len2 hl λ_ _=>rfl) rfl λf cdv A outer s H E O hφ C=>⟨_,(zaf (zaq 2 zad) (zaf (zcm C (zcd (zxg (zaa 1))) (zbv (h:=1000) 3) (zai (s_if (t_w (zf7 (t_lt (zaa 2) (zbm C B (zab (zaa 0) zac))) (zeq (t_eq C (zag C (zaa 0) (zaa 2)) (zaa 3))))) (zai (zaq 2 (zax C (zaa 2) zad))) zap))) (zai (zar (e_eq C (zaa 2) (zbm C B (zab (zaa 0) zac))))))),λds Qr hn q=>?_⟩;obtain⟨less,more,rfl,hs,hm,q⟩:=q;have sz:=Uz;have hl:=hs.1;have hl2:=hm.1;refine⟨rfl,_,_,rfl,rfl,_,rfl,rfl,?_⟩
 refine zbe (λj ρ=>∃(at':Nat) (o3:Option DV),ρ = [some (.im (tS less)),some (.im (tS more)),some (.im (.int (at':Nat))),o3]/\eats (more.take j) less=less.drop at'/\at'<=less.length/\j<=more.length)
  ⟨0,none,rfl,rfl,QL _,QL _⟩ (λρ ⟨a,o3,e,h1,h2,h4⟩=>?_) λj d ρ N hd hN ⟨a,o3,e,h1,h2,h4⟩=>?_
 .subst e;rw[zo0,Jk] at h1;refine⟨_,_,rfl,rfl,_,_,rfl,rfl,_,zej (by lia),_,zg9,?_⟩;rw[TB Qo];unfold L6.under at q;rw[h1] at q
  have e:(less.drop a).isEmpty=decide ((a:Int)=(less.length:Nat)):=by
   by_cases z:a=less.length
   .rw[z,ZR,TH rfl];rfl
   .rw[TF (by lia)];have:0<(less.drop a).length:=by rw[QO];lia
    cases hz:less.drop a with
    | nil=>rw[hz] at this;cases this
    | cons _ _=>rfl
  rw[e] at q;exact q
 .subst e;obtain⟨c,hc,rfl⟩:=zpl hd;obtain⟨hlt,ec⟩:=Qk.mp hc
  have et:eats (more.take (j+1)) less=eat c (less.drop a):=by
   rw[JR hlt,ec];unfold eats;rw[List.foldl_append];show eat c (eats (more.take j) less)=_;rw[h1]
  refine⟨rfl,?_⟩;refine⟨_,_,rfl,rfl,_,_,rfl,rfl,_,zej (by lia),_,rfl,_,rfl,?_⟩
  by_cases ha:a<less.length
  .rw[TH (by lia)];refine iteT ⟨_,_,rfl,rfl,_,_,rfl,rfl,_,zrx ha (by lia),_,_,rfl,rfl,_,zbc (zrv ⟨by simp,λx hx=>by simp at hx;rw[hx];exact hs.2 _ (ZA ha)⟩) (zrv (w:=[c]) ⟨by simp,λx hx=>by simp at hx;rw[hx,<- ec];exact hm.2 _ (ZA hlt)⟩),_,rfl,?_⟩;rw[TB Qo,show sg c=tx [c] from rfl,znt];rw[QX ha] at et
   by_cases z:less[a]=c
   .rw[TH (by rw[z])];rw[show eat c (less[a]::less.drop (a+1))=less.drop (a+1) from T0 z] at et;exact iteT ⟨_,_,rfl,rfl,_,rfl,rfl,hN _ ⟨a+1,_,rfl,et,ha,hlt⟩⟩
   .rw[TF (by simpa using z)];rw[show eat c (less[a]::less.drop (a+1))=less[a]::less.drop (a+1) from TB z,<- QX ha] at et;exact iteF (hN _ ⟨a,_,rfl,et,h2,hlt⟩)
  .rw[TF (by lia)];have:less.drop a = []:=List.drop_eq_nil_iff.mpr (by lia);rw[this] at et;exact iteF (iteF (hN _ ⟨a,_,rfl,by rw[et,this];rfl,h2,hlt⟩))
end
section
variable {P:Uy}{w:U0}{K:Qa}{mg:Str->Option Ut}{base:Heap}{k:Nat}
abbrev zj8:Stmt:=top 35
theorem zuw:FnScope ["_law_one", "_law_other"] ["_law_one", "_law_other"] (zah zj8):=⟨rfl,rfl,rfl,by decide +kernel,rfl,by decide +kernel,by decide +kernel⟩
theorem ze8(B:Blt mg)(ze4:Def3 P w K mg base 1 "_law_under" ["_law_less", "_law_more"] (spO K (λ_=>True) 2 zpy))(T:Top3 K mg "_law_above" zj8):Def3 P w K mg base 2 "_law_above" ["_law_one", "_law_other"] (spO K (λ_=>True) 2 abvF):=by
 refine mk_O T zuw (λ_ _ _ _ _ _ us hl=>len2 hl λ_ _=>rfl) rfl λf cdv A outer s H E O hφ C=>⟨_,(zaf (s_if (t_ne C (zay C (zaa 0) za6 (za5 zad)) (zay C (zaa 1) za6 (za5 zad))) (zai (zar e_bl)) zap) (zai (zar (zw4 C B (zab (zef 2 ["_law_less", "_law_more", "_law_one", "_law_other"] C (λ_=>.of rfl (by kernel_rfl)) (zww C B (zab (zag C (zaa 1) zad) (zab (zag C (zaa 0) zad) zac))) (zf4 (C.comp _ _) (zav 0 (zav 1 zcc))) zgh (za4 (C.comp _ _) ze4 (λ_=>trivial) (zab (zaa 0) (zab (zaa 1) zac)))) zac))))),λds Qr hn q=>?_⟩;obtain⟨a,b,rfl,ha,hb,hl,q⟩:=q;have sz:=Uz;have l1:=ha.words
 (repeat first|refine⟨_,zbt a,?_⟩|refine⟨zbt a,?_⟩|refine⟨_,zbt b,?_⟩|refine⟨zbt b,?_⟩|refine⟨_,ziw a b,?_⟩|refine⟨ziw a b,?_⟩|infer_instance)
 rw[T0 rfl];unfold abvB at q;rw[<- Ue] at q
 cases a1:(decide (a.rooms=b.rooms) && decide (a.flags=b.flags)) with
 | false=>
   rw[a1,Yl] at q
   ac_rfl
   exact q
 | true=>
   rw[a1,Vg] at q
   ac_rfl
   refine⟨zao (λ_=>rfl) _,zao (λ_=>rfl) _,?_⟩;rw[zhx];refine zns (α:=List Nat×List Nat) (enc:=λp=>.tuple [wD p.1,wD p.2]) (e:=λp=>.bool (L6.under p.1 p.2)) (λp hp P hP=>?_) zo3 (by rw[VW];lia) ?_
   .refine⟨_,rfl,iteT (B:=False) ?_⟩;obtain⟨m1,m2⟩:=Jv hp
    ac_rfl
    refine⟨hb.sml _ m1,ha.sml _ m2,hP _ rfl⟩
   refine⟨_,zsq _ _,?_⟩;rw[zuc];exact q
end
section
variable {P:Uy}{w:U0}{K:Qa}{mg:Str->Option Ut}{base:Heap}{k:Nat}
abbrev zno:Stmt:=top 36
theorem zy1:FnScope ["_law_house_here", "_law_standing_here", "_law_hand", "_law_k", "_law_room", "_law_deed", "_law_goal", "_law_rooms", "_law_flags", "_law_words"] ["_law_house_here", "_law_standing_here", "_law_hand", "_law_k"] (zah zno):=⟨rfl,rfl,rfl,by decide +kernel,rfl,by decide +kernel,by decide +kernel⟩
theorem zc3(B:Blt mg)(T:Top3 K mg "_law_done" zno):Def3 P w K mg base 1 "_law_done" ["_law_house_here", "_law_standing_here", "_law_hand", "_law_k"] (spO K (λ_=>True) 4 zm8):=by
 refine mk_O T zy1 (λ_ _ _ _ _ _ us hl=>len4 hl λ_ _ _ _=>rfl) rfl λf cdv A outer s H E O hφ C=>⟨_,(zaf (zgm (h:=1000) C (zag C (zag C (zag C (zag C (zaa 0) zad) (zaa 2)) zad) (zaa 3)) (zav 4 (zav 5 (zav 6 zcc)))) (zaf (zgm (h:=1000) C (zaa 1) (zav 7 (zav 8 (zav 9 zcc)))) (zaf (s_if (t_ne C (zag C (zaa 7) (zaa 2)) (zaa 4)) (zai (zar zd5)) zap) (zaf (s_if (t_w (w_or (t_w (zf7 (t_eq C (zag C (zaa 5) zad) za0) (zeq (t_ne C (zay C (zag C (zaa 9) (zag C (zaa 5) zad)) za6 (za5 zad)) (zag C (zaa 5) zad))))) (zlz (t_w (zf7 (t_eq C (zag C (zaa 5) zad) za0) (zeq (t_ne C (zag C (zaa 9) (zag C (zaa 5) zad)) za0))))))) (zai (zar zd5)) zap) (zaf (s_if (t_w (zf7 (t_eq C (zag C (zaa 5) zad) za0) (zeq (t_ne C (zag C (zaa 8) (zag C (zaa 5) zad)) (zag C (zaa 5) zad))))) (zai (zar zd5)) zap) (zaf (z4m 9 8 C (zhd C B (zab (zaa 9) zac)) (zhd C B (zab (zaa 8) zac))) (zaf (s_if (t_eq C (zag C (zaa 5) zad) za0) (zai (zrk 9 C (zax C (zag C (zaa 9) (zag C (zaa 5) zad)) (zag C (zaa 5) zad)) (zag C (zaa 5) zad))) zap) (zaf (s_if (t_eq C (zag C (zaa 5) zad) za0) (zai (zrk 9 C (zay C (zag C (zaa 9) (zag C (zaa 5) zad)) (za5 zad) za6) (zag C (zaa 5) zad))) zap) (zaf (s_if (t_eq C (zag C (zaa 5) zad) za0) (zai (zrk 8 C (zag C (zaa 5) zad) (zag C (zaa 5) zad))) zap) (zai (zar (za8 (zab (zax C (zax C (zay C (zaa 7) za6 (za5 (zaa 2))) (za8 (zab (zaa 6) zac))) (zay C (zaa 7) (za5 (zax C (zaa 2) zad)) za6)) (zab (zcb C B (zab (zaa 8) zac)) (zab (zcb C B (zab (zaa 9) zac)) zac))))))))))))))),λds Qr hn q=>?_⟩;obtain⟨h,s,i,k,hd,r,rfl,ho,hs,hi,hk,q⟩:=q;have sz:=Uz;obtain⟨il,de⟩:=zz5 ho hi hk;have lr:i<s.rooms.length:=by rw[hs.rooms];exact il
 have ro:=hs.rooms;have fl:=hs.flags;have wo:=hs.words;have m1:=ho.many;have m2:=ho.lines;have m3:=ho.flags;have lo:=zi6 ho.low
 (repeat first|refine⟨_,zas (f:=zbz) hi,?_⟩|refine⟨zas (f:=zbz) hi,?_⟩|refine⟨_,zas (f:=zda) hk,?_⟩|refine⟨zas (f:=zda) hk,?_⟩|infer_instance)
 refine⟨zfm r,?_⟩
 ac_rfl
 refine⟨zfk s,?_⟩;show seqD _ _ _ [some (.im (za2 h)),some (.im (zak s)),some (.im (.int (i:Nat))),some (.im (.int (k:Nat))),some (.im (.int (r.p:Nat))),some (.im (zb5 r.d)),some (.im (.int (r.q:Nat))),some (.im (.tuple (s.rooms.map nD))),some (.im (.tuple (s.flags.map nD))),some (.im (.tuple (s.words.map wD)))]
 (repeat first|refine⟨_,zas (f:=nD) (za3 (z:=0) lr),?_⟩|refine⟨zas (f:=nD) (za3 (z:=0) lr),?_⟩|infer_instance)
 rw[zg4];unfold zf6 at q;have ff:∀{α:Type} {f:α->Uu} (xs:List α),(∀x,flat (f x)=true)->flats (xs.map f)=true:=λxs h=>zao h _;have rl:(s.rooms.map nD).length<=1000:=by rw[Qb];lia
 have a1:addF (.tuple (cutL (s.rooms.map nD) none (some (i:Int)))) (.tuple [nD r.q])=some (.o (.tuple (cutL (s.rooms.map nD) none (some (i:Int)) ++ [nD r.q]))):=zcl (by have:=zem (s.rooms.map nD) none (some (i:Int));rw[Qz];lia)
 have a2:addF (.tuple (cutL (s.rooms.map nD) none (some (i:Int)) ++ [nD r.q])) (.tuple (cutL (s.rooms.map nD) (some ((i:Int)+1)) none))=some (.o (.tuple ((s.rooms.set i r.q).map nD))):=by
  rw[zcl (by have:=zem (s.rooms.map nD) none (some (i:Int));have:=zem (s.rooms.map nD) (some ((i:Int)+1)) none;rw[Qf,Qz];lia),zjy (by rw[Qb];exact lr),ZG]
 by_cases e1:s.rooms.getD i 0=r.p
 .rw[TH e1];obtain⟨p,d,g⟩:=r;have a1:addF (.tuple (cutL (s.rooms.map nD) none (some (i:Int)))) (.tuple [nD g])=some (.o (.tuple (cutL (s.rooms.map nD) none (some (i:Int)) ++ [nD g]))):=a1;have a2:addF (.tuple (cutL (s.rooms.map nD) none (some (i:Int)) ++ [nD g])) (.tuple (cutL (s.rooms.map nD) (some ((i:Int)+1)) none))=some (.o (.tuple ((s.rooms.set i g).map nD))):=a2;have se:∀(l:Nat) (v:List Nat),(s.words.map wD).set l (wD v)=(s.words.set l v).map wD:=λl v=>ZG.symm;have sf:∀(l:Nat) (v:Nat),(s.flags.map nD).set l (nD v)=(s.flags.set l v).map nD:=λl v=>ZG.symm
  cases d with
  | go=>
    rw[T0 ⟨e1,rfl⟩] at q
    ac_rfl
    refine⟨ff _ λ_=>rfl,ff _ λ_=>rfl,?_⟩;show seqD _ _ _ [some (.im (za2 h)),some (.im (zak s)),some (.im (.int (i:Nat))),some (.im (.int (k:Nat))),some (.im (.int (p:Nat))),some (.im (zb5 (.go))),some (.im (.int (g:Nat))),some (.im (.tuple (s.rooms.map nD))),some (.own (s.flags.map nD)),some (.own (s.words.map wD))]
    (repeat first|refine⟨_,a1,?_⟩|refine⟨a1,?_⟩|refine⟨_,a2,?_⟩|refine⟨a2,?_⟩|infer_instance)
    exact q
  | send l c=>
    have ll:l<s.words.length:=by rw[wo];exact de.1
    have sw:=hs.sml _ (zbj (z:=[]) ll);have ad:addF (wD (s.words.getD l [])) (wD [c])=some (.o (wD (s.words.getD l [] ++ [c]))):=zil (by have:=sw.1;rw[Qz];lia);rw[T0 ⟨e1,rfl⟩] at q
    ac_rfl
    refine⟨ff _ λ_=>rfl,ff _ λ_=>rfl,?_⟩;show seqD _ _ _ [some (.im (za2 h)),some (.im (zak s)),some (.im (.int (i:Nat))),some (.im (.int (k:Nat))),some (.im (.int (p:Nat))),some (.im (zb5 (.send l c))),some (.im (.int (g:Nat))),some (.im (.tuple (s.rooms.map nD))),some (.own (s.flags.map nD)),some (.own (s.words.map wD))]
    (repeat first|refine⟨_,zdj (f:=wD) (za3 (z:=[]) ll),?_⟩|refine⟨zdj (f:=wD) (za3 (z:=[]) ll),?_⟩|refine⟨_,ad,?_⟩|refine⟨ad,?_⟩|infer_instance)
    refine⟨by rw[Qb];exact ll,rfl,?_⟩
    (repeat first|refine⟨_,a1,?_⟩|refine⟨a1,?_⟩|refine⟨_,a2,?_⟩|refine⟨a2,?_⟩|infer_instance)
    have q:Qr (.o (.tuple [.tuple ((s.rooms.set i g).map nD),.tuple (s.flags.map nD),.tuple ((s.words.set l (s.words.getD l [] ++ [c])).map wD)])):=q;rw[<- se] at q;exact q
  | take l c=>
    have ll:l<s.words.length:=by rw[wo];exact de.1
    have sw:=hs.sml _ (zbj (z:=[]) ll);have ne1:eqF true (wD ((s.words.getD l []).take 1)) (wD [c])=some (.o (.bool (!decide ((s.words.getD l []).head? = some c)))):=zxw sw.2 (lo c de.2);have sl1:slcF none (some 1) (wD (s.words.getD l []))=some (.o (wD ((s.words.getD l []).take 1))):=zyd (by have:=sw.1;lia);have sl2:slcF (some 1) none (wD (s.words.getD l []))=some (.o (wD ((s.words.getD l []).drop 1))):=zy8 (by have:=sw.1;lia)
    (repeat first|refine⟨_,zas (f:=wD) (za3 (z:=[]) ll),?_⟩|refine⟨zas (f:=wD) (za3 (z:=[]) ll),?_⟩|refine⟨_,sl1,?_⟩|refine⟨sl1,?_⟩|refine⟨_,ne1,?_⟩|refine⟨ne1,?_⟩|infer_instance)
    by_cases e2:(s.words.getD l []).head? = some c
    .rw[TH e2];rw[T0 ⟨e1,TH e2⟩] at q
     ac_rfl
     refine⟨ff _ λ_=>rfl,ff _ λ_=>rfl,?_⟩;show seqD _ _ _ [some (.im (za2 h)),some (.im (zak s)),some (.im (.int (i:Nat))),some (.im (.int (k:Nat))),some (.im (.int (p:Nat))),some (.im (zb5 (.take l c))),some (.im (.int (g:Nat))),some (.im (.tuple (s.rooms.map nD))),some (.own (s.flags.map nD)),some (.own (s.words.map wD))]
     (repeat first|refine⟨_,zdj (f:=wD) (za3 (z:=[]) ll),?_⟩|refine⟨zdj (f:=wD) (za3 (z:=[]) ll),?_⟩|refine⟨_,sl2,?_⟩|refine⟨sl2,?_⟩|infer_instance)
     refine⟨by rw[Qb];exact ll,rfl,?_⟩
     (repeat first|refine⟨_,a1,?_⟩|refine⟨a1,?_⟩|refine⟨_,a2,?_⟩|refine⟨a2,?_⟩|infer_instance)
     have q:Qr (.o (.tuple [.tuple ((s.rooms.set i g).map nD),.tuple (s.flags.map nD),.tuple ((s.words.set l ((s.words.getD l []).drop 1)).map wD)])):=q;rw[<- se] at q;exact q
    .rw[TF e2];rw[TB λz=>e2 (Tz z.2)] at q
     ac_rfl
     exact q
  | empty l=>
    have ll:l<s.words.length:=by rw[wo];exact de
    have sw:=hs.sml _ (zbj (z:=[]) ll)
    (repeat first|refine⟨_,zas (f:=wD) (za3 (z:=[]) ll),?_⟩|refine⟨zas (f:=wD) (za3 (z:=[]) ll),?_⟩|infer_instance)
    (repeat first|refine⟨_,zsr sw.2,?_⟩|refine⟨zsr sw.2,?_⟩|infer_instance)
    by_cases e2:s.words.getD l [] = []
    .rw[TH e2];rw[T0 ⟨e1,TH e2⟩] at q
     ac_rfl
     refine⟨ff _ λ_=>rfl,ff _ λ_=>rfl,?_⟩;show seqD _ _ _ [some (.im (za2 h)),some (.im (zak s)),some (.im (.int (i:Nat))),some (.im (.int (k:Nat))),some (.im (.int (p:Nat))),some (.im (zb5 (.empty l))),some (.im (.int (g:Nat))),some (.im (.tuple (s.rooms.map nD))),some (.own (s.flags.map nD)),some (.own (s.words.map wD))]
     (repeat first|refine⟨_,a1,?_⟩|refine⟨a1,?_⟩|refine⟨_,a2,?_⟩|refine⟨a2,?_⟩|infer_instance)
     exact q
    .rw[TF e2];rw[TB λz=>e2 (Tz z.2)] at q
     ac_rfl
     exact q
  | put f v=>
    have ll:f<s.flags.length:=by rw[fl];exact de.1
    rw[T0 ⟨e1,rfl⟩] at q
    ac_rfl
    refine⟨ff _ λ_=>rfl,ff _ λ_=>rfl,?_⟩;show seqD _ _ _ [some (.im (za2 h)),some (.im (zak s)),some (.im (.int (i:Nat))),some (.im (.int (k:Nat))),some (.im (.int (p:Nat))),some (.im (zb5 (.put f v))),some (.im (.int (g:Nat))),some (.im (.tuple (s.rooms.map nD))),some (.own (s.flags.map nD)),some (.own (s.words.map wD))]
    ac_rfl
    refine⟨by rw[Qb];exact ll,rfl,?_⟩
    (repeat first|refine⟨_,a1,?_⟩|refine⟨a1,?_⟩|refine⟨_,a2,?_⟩|refine⟨a2,?_⟩|infer_instance)
    have q:Qr (.o (.tuple [.tuple ((s.rooms.set i g).map nD),.tuple ((s.flags.set f v).map nD),.tuple (s.words.map wD)])):=q;rw[<- sf] at q;exact q
  | test f v=>
    have ll:f<s.flags.length:=by rw[fl];exact de.1
    (repeat first|refine⟨_,zas (f:=nD) (za3 (z:=0) ll),?_⟩|refine⟨zas (f:=nD) (za3 (z:=0) ll),?_⟩|infer_instance)
    rw[zg4]
    by_cases e2:s.flags.getD f 0=v
    .rw[TH e2];rw[T0 ⟨e1,TH e2⟩] at q
     ac_rfl
     refine⟨ff _ λ_=>rfl,ff _ λ_=>rfl,?_⟩;show seqD _ _ _ [some (.im (za2 h)),some (.im (zak s)),some (.im (.int (i:Nat))),some (.im (.int (k:Nat))),some (.im (.int (p:Nat))),some (.im (zb5 (.test f v))),some (.im (.int (g:Nat))),some (.im (.tuple (s.rooms.map nD))),some (.own (s.flags.map nD)),some (.own (s.words.map wD))]
     (repeat first|refine⟨_,a1,?_⟩|refine⟨a1,?_⟩|refine⟨_,a2,?_⟩|refine⟨a2,?_⟩|infer_instance)
     exact q
    .rw[TF e2];rw[TB λz=>e2 (Tz z.2)] at q
     ac_rfl
     exact q
 .rw[TF e1];rw[TB λz=>e1 z.1] at q
  ac_rfl
  exact q
end
section
variable {P:Uy}{w:U0}{K:Qa}{mg:Str->Option Ut}{base:Heap}{k:Nat}
abbrev zl7:Stmt:=top 37
theorem zzd:FnScope ["_law_house_here", "_law_standing_here", "_law_step_here", "_law_word", "_law_one", "_law_two", "_law_lost", "_law_words"] ["_law_house_here", "_law_standing_here", "_law_step_here"] (zah zl7):=⟨rfl,rfl,rfl,by decide +kernel,rfl,by decide +kernel,by decide +kernel⟩
theorem zc8(B:Blt mg)(zc3:Def3 P w K mg base 1 "_law_done" ["_law_house_here", "_law_standing_here", "_law_hand", "_law_k"] (spO K (λ_=>True) 4 zm8))(T:Top3 K mg "_law_step" zl7):Def3 P w K mg base 2 "_law_step" ["_law_house_here", "_law_standing_here", "_law_step_here"] (spO K (λ_=>True) 3 zme):=by
 refine mk_O T zzd (λ_ _ _ _ _ _ us hl=>len3 hl λ_ _ _=>rfl) rfl λf cdv A outer s H E O hφ C=>⟨_,(zaf (zgm (h:=1000) C (zaa 2) (zav 3 (zav 4 (zav 5 zcc)))) (zaf (s_if (t_eq C (zaa 3) za0) (zaf (s_if (t_w (w_or (zfw (zly zad (zaa 4) (zbm C B (zab (zag C (zaa 0) zad) zac)))) (zlz (zfw (zly zad (zaa 5) (zbm C B (zab (zag C (zag C (zag C (zaa 0) zad) (zaa 4)) zad) zac))))))) (zai (zar zd5)) zap) (zai (zar (za4 C zc3 (λ_=>trivial) (zab (zaa 0) (zab (zaa 1) (zab (zaa 4) (zab (zaa 5) zac)))))))) zap) (zaf (s_if (t_w (w_or (t_ne C (zaa 3) za0) (w_or (zfw (zly zad (zaa 4) (zag C (zaa 0) zad))) (zlz (zfw (zly zad (zaa 5) (zbm C B (zab (zag C (zag C (zaa 1) zad) (zaa 4)) zac)))))))) (zai (zar zd5)) zap) (zaf (zaq 6 (zag C (zag C (zaa 1) zad) (zaa 4))) (zaf (zaq 7 (zax C (zax C (zay C (zag C (zaa 1) zad) za6 (za5 (zaa 4))) (za8 (zab (zax C (zay C (zaa 6) za6 (za5 (zaa 5))) (zay C (zaa 6) (za5 (zax C (zaa 5) zad)) za6)) zac))) (zay C (zag C (zaa 1) zad) (za5 (zax C (zaa 4) zad)) za6))) (zai (zar (zax C (zay C (zaa 1) za6 (za5 zad)) (za8 (zab (zaa 7) zac)))))))))),λds Qr hn q=>?_⟩;obtain⟨h,n,s,t,rfl,ho,hs,hn3,q⟩:=q;have sz:=Uz;have hh:=ho.ok;obtain⟨a,i,j⟩:=t
 have ek:eqF false (.str (kdR a)) (.str "do")=some (.o (.bool a)):=by
  cases a <;> (rw[zbc (by decide +kernel) (by decide +kernel),TB Qo];exact congrArg (λb=>some (R.o (.bool b))) (by decide +kernel))
 (repeat first|refine⟨_,ek,?_⟩|refine⟨ek,?_⟩|infer_instance)
 cases a with
 | true=>
   have none_:(¬∃(a k:Nat) (hd:Hnd),i=a/\j=k/\h.hands[a]? = some hd/\k<hd.rs.length)->Qr (.o .none):=λz=>by rw[zty z] at q;exact q
   ac_rfl
   refine iteB (λz1=>?_) λz1=>?_
   .have z1:=Tz z1;obtain⟨a,rfl⟩:=Ql z1
    ac_rfl
    rw[Qb]
    cases z2:decide ((a:Int)<(h.hands.length:Nat)) with
    | false=>
      have z2:=TJ z2
      ac_rfl
      refine none_ λ⟨a',k,hd,e,_,e2,_⟩=>z2 ?_;have:=(Qk.mp e2).1;lia
    | true=>
      have z2:=Tz z2;have ha:h.hands[a]? = some h.hands[a]:=Qi (by lia);generalize h.hands[a]=hd at ha
      (repeat first|refine⟨_,zas (f:=zbz) ha,?_⟩|refine⟨zas (f:=zbz) ha,?_⟩|infer_instance)
      refine iteB (λz3=>?_) λz3=>?_
      .have z3:=Tz z3;obtain⟨k,rfl⟩:=Ql z3
       (repeat first|refine⟨_,zas (f:=zbz) ha,?_⟩|refine⟨zas (f:=zbz) ha,?_⟩|infer_instance)
       rw[Qb]
       cases z4:decide ((k:Int)<(hd.rs.length:Nat)) with
       | false=>
         have z4:=TJ z4
         ac_rfl
         refine none_ λ⟨a',k',hd',e,e1,e2,e3⟩=>z4 ?_;obtain rfl:a'=a:=by lia
         rw[ha] at e2;cases e2;lia
       | true=>
         have z4:=Tz z4;have hk:hd.rs[k]? = some hd.rs[k]:=Qi (by lia);generalize hd.rs[k]=r at hk;rw[zwf ha hk] at q
         ac_rfl
         exact⟨h,s,a,k,hd,r,rfl,hh,zgp hs (by lia),ha,hk,q⟩
      .have z3:=TJ z3
       ac_rfl
       exact none_ λ⟨a,k,hd,_,e,_⟩=>z3 (by show 0<=j;lia)
   .have z1:=TJ z1
    ac_rfl
    exact none_ λ⟨a,k,hd,e,_⟩=>z1 (by show 0<=i;lia)
 | false=>
   have el:eqF true (.str (kdR false)) (.str "lose")=some (.o (.bool false)):=by rw[zbc (by decide +kernel) (by decide +kernel),T0 rfl];exact congrArg (λb=>some (R.o (.bool b))) (by decide +kernel)
   have none_:(¬∃a k:Nat,i=a/\j=k/\a<s.words.length/\k<(s.words.getD a []).length)->Qr (.o .none):=λz=>by rw[zq7 z] at q;exact q
   have wo:=hs.words
   (repeat first|refine⟨_,el,?_⟩|refine⟨el,?_⟩|infer_instance)
   refine iteB (λz1=>?_) λz1=>?_
   .have z1:=Tz z1;obtain⟨a,rfl⟩:=Ql z1
    ac_rfl
    cases z2:decide ((a:Int)<(h.lines:Nat)) with
    | false=>
      have z2:=TJ z2
      ac_rfl
      exact none_ λ⟨a',k,e,_,e2,_⟩=>z2 (by lia)
    | true=>
      have z2:=Tz z2;have ha:s.words[a]? = some (s.words.getD a []):=za3 (by lia);have hw:=Q5 (hs.short _ (zbj (z:=[]) (show a<s.words.length by lia))) hn3;have m2:=hh.lines;generalize hv:s.words.getD a []=v at ha hw
      (repeat first|refine⟨_,zas (f:=wD) ha,?_⟩|refine⟨zas (f:=wD) ha,?_⟩|infer_instance)
      refine iteB (λz3=>?_) λz3=>?_
      .have z3:=Tz z3;obtain⟨k,rfl⟩:=Ql z3
       (repeat first|refine⟨_,zas (f:=wD) ha,?_⟩|refine⟨zas (f:=wD) ha,?_⟩|refine⟨_,zej (w:=v) (by lia),?_⟩|refine⟨zej (w:=v) (by lia),?_⟩|infer_instance)
       cases z4:decide ((k:Int)<(v.length:Nat)) with
       | false=>
         have z4:=TJ z4
         ac_rfl
         refine none_ λ⟨a',k',e,e1,e2,e3⟩=>z4 ?_;obtain rfl:a'=a:=by lia
         rw[hv] at e3;lia
       | true=>
         have z4:=Tz z4;rw[zq0 (show a<s.words.length by lia) (show k<(s.words.getD a []).length by rw[hv];lia)] at q;have c1:slcF none (some (k:Int)) (wD v)=some (.o (wD (v.take k))):=by rw[zex (by lia),zdq]
         have c2:slcF (some ((k:Int)+1)) none (wD v)=some (.o (wD (v.drop (k+1)))):=by rw[zex (by lia),show((k:Int)+1)=((k+1:Nat):Int) from rfl,zcx]
         have c3:addF (wD (v.take k)) (wD (v.drop (k+1)))=some (.o (wD (v.take k++v.drop (k+1)))):=zil (by rw[QB,QO];lia);have rl:(s.words.map wD).length<=1000:=by rw[Qb];lia
         have b1:=zem (s.words.map wD) none (some (a:Int));have b2:=zem (s.words.map wD) (some ((a:Int)+1)) none;have a1:addF (.tuple (cutL (s.words.map wD) none (some (a:Int)))) (.tuple [wD (v.take k++v.drop (k+1))])=some (.o (.tuple (cutL (s.words.map wD) none (some (a:Int)) ++ [wD (v.take k++v.drop (k+1))]))):=zcl (by rw[Qz];lia)
         have a2:addF (.tuple (cutL (s.words.map wD) none (some (a:Int)) ++ [wD (v.take k++v.drop (k+1))])) (.tuple (cutL (s.words.map wD) (some ((a:Int)+1)) none))=some (.o (.tuple ((s.words.set a (v.take k++v.drop (k+1))).map wD))):=by
          rw[zcl (by rw[Qf,Qz];lia),zjy (by rw[Qb];lia),ZG]
         (repeat first|refine⟨_,zas (f:=wD) ha,?_⟩|refine⟨zas (f:=wD) ha,?_⟩|refine⟨_,c1,?_⟩|refine⟨c1,?_⟩|refine⟨_,c2,?_⟩|refine⟨c2,?_⟩|refine⟨_,c3,?_⟩|refine⟨c3,?_⟩|refine⟨_,a1,?_⟩|refine⟨a1,?_⟩|refine⟨_,a2,?_⟩|refine⟨a2,?_⟩|refine⟨_,zbt s,?_⟩|refine⟨zbt s,?_⟩|infer_instance)
         refine⟨zao (λ_=>rfl) _,?_⟩
         (repeat first|refine⟨_,zbt s,?_⟩|refine⟨zbt s,?_⟩|infer_instance)
         unfold zl3 at q;rw[hv] at q;exact q
      .have z3:=TJ z3
       ac_rfl
       exact none_ λ⟨a,k,_,e,_⟩=>z3 (by show 0<=j;lia)
   .have z1:=TJ z1
    ac_rfl
    exact none_ λ⟨a,k,e,_⟩=>z1 (by show 0<=i;lia)
end
section
variable {P:Uy}{w:U0}{K:Qa}{mg:Str->Option Ut}{base:Heap}{k:Nat}
abbrev zkm:Stmt:=top 38
theorem zvo:FnScope ["_law_which", "_law_house_here", "_law_begin", "_law_asked", "_law_paper", "_law_found", "e"] ["_law_which", "_law_house_here", "_law_begin", "_law_asked", "_law_paper"] (zah zkm):=⟨rfl,rfl,rfl,by decide +kernel,rfl,by decide +kernel,by decide +kernel⟩
theorem zco(B:Blt mg)(EC:ErrC K mg ea)(rNoPaper:zh0 K ea)(d_run_holds:Def3x P w K mg base 6 "run_holds" ["house", "begin", "asked", "run"] (spX K mg (λ_=>True) 4 zqu))(T:Top3 K mg "_law_heard" zkm):Def3 P w K mg base 7 "_law_heard" ["_law_which", "_law_house_here", "_law_begin", "_law_asked", "_law_paper"] (spG K (λ_=>True) 5 (zsj mg)):=by
 refine mk_G T zvo (λ_ _ _ _ _ _ us hl=>len5 hl λ_ _ _ _ _=>rfl) rfl λf cdv A outer s H E O hφ C=>⟨_,(zaf (zaq 5 za0) (zaf (z4u 6 C EC.le EC.cc (z1u C (zu7 0 C d_run_holds (λ_=>trivial) (zab (zaa 1) (zab (zaa 2) (zab (zaa 3) (zab (zaa 4) zac))))) (zai (zaq 5 e_bl)) zap) (zai (s_if (t_w (zf7 (zg7 (zyt 6 C.mk2 B EC.np)) (zeq (zg7 (zzf (cv:=.type "ValueError") 6 C.mk2 B EC.vb))))) (zai (s_if (zfw (zg7 (zzv 6 C.mk2 B (zc0 C.mk2 EC.ng (zc0 C.mk2 EC.nh (zc0 C.mk2 EC.nr (zc0 C.mk2 EC.ns (zc0 C.mk2 EC.nt (zc0 C.mk2 EC.tm zz2))))))))) (zai (zaq 5 (zpw 6 C.mk2))) zap)) zap))) (zai (zar (zaa 5))))),λrs Qr hn q=>?_⟩;obtain⟨h,n,b,a,r,rfl,ho,hb,ha,hn,q⟩:=q;have sz:=Uz;refine⟨rfl,rfl,_,_,rfl,rfl,_,_,rfl,rfl,_,_,rfl,rfl,_,_,rfl,rfl,rfl,h,n,b,a,r,rfl,ho,hb,ha,hn,?_⟩
 cases hR:zgs h b a r with
 | none=>
   rw[hR] at q;dsimp only [ziq,zrd];rw[T0 (show isT (R.o (VO true)).d=true from rfl)]
   ac_rfl
   exact q
 | some k=>
   rw[hR] at q;refine⟨"NoPaper",["at"],[.int (k:Nat)],ea.np,rfl,EC.np,rNoPaper.lost,rfl,?_⟩;refine⟨_,_,_,true,rfl,rNoPaper.get,zwj,_,rfl,iteT ?_⟩;refine⟨_,_,_,true,rfl,rNoPaper.get,rNoPaper.val,_,rfl,iteT ?_⟩;refine⟨_,_,_,false,rfl,rNoPaper.get,(by show 6<=sizeLine;lia),zo2 rNoPaper.oth,_,rfl,iteT ?_⟩;refine⟨_,_,_,.int (k:Nat),rfl,rNoPaper.get,rNoPaper.nof,rfl,rfl,rfl,?_⟩
   ac_rfl
   exact q
end
theorem zir(s:Sta)(a:Nat):∀(rs ts:List Rul) (i:Nat),za7 s a (rs++ts) i=za7 s a rs i++za7 s a ts (i+rs.length)
 | [],ts,i=>by rw[ZQ,za7,ZQ];rfl
 | r::rs,ts,i=>by rw[ZT,za7,za7,zir s a rs ts (i+1),Zy,Qj,show i+1+rs.length=i+(rs.length+1) by lia]
theorem zi2(s:Sta):∀(xs ys:List Hnd) (a:Nat),zba s (xs++ys) a=zba s xs a++zba s ys (a+xs.length)
 | [],ys,a=>by rw[ZQ,zba,ZQ];rfl
 | x::xs,ys,a=>by rw[ZT,zba,zba,zi2 s xs ys (a+1),Zy,Qj,show a+1+xs.length=a+(xs.length+1) by lia]
theorem zhs:∀(xs ys:List (List Nat)) (a:Nat),zau (xs++ys) a=zau xs a++zau ys (a+xs.length)
 | [],ys,a=>by rw[ZQ,zau,ZQ];rfl
 | x::xs,ys,a=>by rw[ZT,zau,zau,zhs xs ys (a+1),Zy,Qj,show a+1+xs.length=a+(xs.length+1) by lia]
theorem zj4{α:Type}{xs:List α}{i:Nat}{x:α}(h:xs[i]? = some x):xs.take (i+1)=xs.take i ++ [x]:=by rw[Vy,h];rfl
section
variable {P:Uy}{w:U0}{K:Qa}{mg:Str->Option Ut}{base:Heap}{k:Nat}
abbrev ze6:Stmt:=top 39
theorem zn2:FnScope ["_law_house_here", "_law_standing_here", "_law_found", "_law_hand", "_law_k", "_law_line", "_law_word"] ["_law_house_here", "_law_standing_here"] (zah ze6):=⟨rfl,rfl,rfl,by decide +kernel,rfl,by decide +kernel,by decide +kernel⟩
theorem zcw(B:Blt mg)(zc3:Def3 P w K mg base 1 "_law_done" ["_law_house_here", "_law_standing_here", "_law_hand", "_law_k"] (spO K (λ_=>True) 4 zm8))(T:Top3 K mg "_law_steps_here" ze6):Def3 P w K mg base 2 "_law_steps_here" ["_law_house_here", "_law_standing_here"] (spO K (λ_=>True) 2 zsl):=by
 refine mk_O T zn2 (λ_ _ _ _ _ _ us hl=>len2 hl λ_ _=>rfl) rfl λf cdv A outer s H E O hφ C=>⟨_,(zaf (zaq 2 (zbu zac)) (zaf (zcm C (zcd (i_r1 C B (zab (zbm C B (zab (zag C (zaa 0) zad) zac)) zac))) (zbv (h:=1000) 3) (zai (zcm C (zcd (i_r1 C B (zab (zbm C B (zab (zag C (zag C (zag C (zaa 0) zad) (zaa 3)) zad) zac)) zac))) (zbv (h:=1000) 4) (zai (s_if (z0g (za4 C zc3 (λ_=>trivial) (zab (zaa 0) (zab (zaa 1) (zab (zaa 3) (zab (zaa 4) zac))))) zd5) (zai (zet 2 C (za8 (zab za0 (zab (zaa 3) (zab (zaa 4) zac)))))) zap))))) (zaf (zcm C (zcd (zfg C B (zag C (zaa 1) zad))) (zf4 (h:=1000) C (zav 5 (zav 6 zcc))) (zai (z5g 2 C (zef 1 ["_law_k", "_law_house_here", "_law_standing_here", "_law_found", "_law_hand", "._law_k", "_law_line", "_law_word"] C (λ_=>.of rfl (by kernel_rfl)) (i_r1 C B (zab (zbm C B (zab (zaa 6) zac)) zac)) (zbv 0) zgh (za8 (zab za0 (zab (zaa 6) (zab (zaa 0) zac)))))))) (zai (zin 2))))),λds Qr hn q=>?_⟩;obtain⟨h,n,s,rfl,ho,hs,hn3,q⟩:=q;have sz:=Uz;have hh:=ho.ok;have h2:=ho.h2;have l2:=ho.l2;have wo:=hs.words
 ac_rfl
 rw[Qb];refine⟨by lia,by lia,rfl,?_⟩;have rl:∀(hd:Hnd),hd∈h.hands->hd.rs.length<=5:=ho.r5;refine zbe (λj ρ=>∃o3 o4 o5 o6:Option DV,ρ = [some (.im (za2 h)),some (.im (zak s)),some (.own ((zba s (h.hands.take j) 0).map zaz)),o3,o4,o5,o6]) ⟨none,none,none,none,rfl⟩ (λρ hρ=>?_) λj d ρ N hd hN hρ=>?_
 .obtain⟨o3,o4,o5,o6,rfl⟩:=hρ;rw[zcy,ZI,Jk];have sl:=zdy s h.hands 0 λx hx=>by have:=rl x hx;lia
  ac_rfl
  refine⟨zao (λ_=>rfl) _,rfl,?_⟩;rw[zvk];refine zbe (λj ρ=>∃o3 o4 o5 o6:Option DV,ρ = [some (.im (za2 h)),some (.im (zak s)),some (.own ((zba s h.hands 0++zau (s.words.take j) 0).map zaz)),o3,o4,o5,o6]) ⟨o3,o4,o5,o6,by rw[Uf,zau,QF]⟩ (λρ hρ=>?_) λj d ρ N hd hN hρ=>?_
  .obtain⟨o3,o4,o5,o6,rfl⟩:=hρ;rw[Qb,List.length_zipIdx,Jk]
   ac_rfl
   exact q
  .obtain⟨o3,o4,o5,o6,rfl⟩:=hρ;rw[Qs] at hd;obtain⟨⟨w,l⟩,hx,rfl⟩:=Q4.mp hd;have hx0:(s.words.zipIdx)[j]? = some (w,l):=hx;rw[YV,ZH] at hx0;obtain⟨w',hw',e⟩:=Q4.mp hx0;cases e;have lw:=hs.short w (Zm hw');have jl:=(Qk.mp hw').1;have tl:=zdk (n:=89) s.words 0 λx hx=>Q5 (hs.short x hx) hn3;have tt:(zau (s.words.take j) 0).length<=89 * (s.words.take j).length:=zdk (n:=89) _ 0 λx hx=>Q5 (hs.short x (Je hx)) hn3;rw[QB] at tt;refine⟨rfl,?_⟩
   ac_rfl
   refine⟨_,zej (w:=w) (by lia),?_⟩
   ac_rfl
   refine⟨by lia,by lia,?_⟩;rw[ZI,show zer 0 w.length=(ZN w.length).map λi:Nat=>.int (0+(i:Nat)) from rfl];refine zzk (α:=Nat) (enc:=λi:Nat=>.int (0+(i:Nat))) (e:=λi=>zaz (.lose j i)) (λi hi P hP=>?_) (by rw[ZD];lia) ?_
   .ac_rfl
    refine hP _ ?_;show PyData.tuple [.str "lose",.int (j:Nat),.int (0+(i:Nat))] = .tuple [.str "lose",.int (j:Nat),.int (i:Nat)];rw[show(0:Int)+(i:Nat)=(i:Nat) by lia]
   .have et:zau (s.words.take (j+1)) 0=zau (s.words.take j) 0++(ZN w.length).map λi=>Stp1.lose j i:=by
     rw[zj4 hw',zhs,QB,Jw (JL jl),ZH,zau,zau,QF];rfl
    refine⟨_,rfl,zao (λ_=>rfl) _,by rw[Qb,Qb,Qf,ZD];lia,?_⟩;refine hN _ ⟨o3,o4,some (.im (.int (j:Nat))),some (.im (wD w)),?_⟩;rw[et,<- Zy,QI (l₂:=(ZN w.length).map _),Jt];rfl
 .obtain⟨o3,o4,o5,o6,rfl⟩:=hρ;obtain⟨hj,rfl⟩:=zb9 hd;rw[ZI] at hj;have ha:h.hands[j]? = some h.hands[j]:=Qi hj;have mx:=ZA hj;have et:h.hands.take (j+1)=h.hands.take j ++ [h.hands[j]]:=zj4 ha;generalize h.hands[j]=x at ha mx et;have r5:=rl x mx;have e0:(0:Int)+(j:Nat)=(j:Nat):=by lia
  refine⟨rfl,?_⟩;rw[e0]
  (repeat first|refine⟨_,zas (f:=zbz) ha,?_⟩|refine⟨zas (f:=zbz) ha,?_⟩|infer_instance)
  rw[Qb];refine⟨by lia,by lia,rfl,?_⟩;have hl:=zdy s (h.hands.take j) 0 λy hy=>by have:=rl y (Je hy);lia
  rw[QB] at hl;refine zbe (λi ρ=>∃o4 o5 o6:Option DV,ρ = [some (.im (za2 h)),some (.im (zak s)),some (.own ((zba s (h.hands.take j) 0++za7 s j (x.rs.take i) 0).map zaz)),some (.im (.int (j:Nat))),o4,o5,o6]) ⟨o4,o5,o6,by rw[Uf,za7,QF];rfl⟩ (λρ hρ=>?_) λi d ρ N2 hd2 hN2 hρ=>?_
  .obtain⟨o4,o5,o6,rfl⟩:=hρ;rw[zcy,ZI,Jk];refine hN _ ⟨some (.im (.int (j:Nat))),o4,o5,o6,?_⟩;rw[et,zi2,QB,Jw (JL hj),ZH,zba,zba,QF]
  .obtain⟨o4,o5,o6,rfl⟩:=hρ;obtain⟨hi,rfl⟩:=zb9 hd2;rw[ZI] at hi;have hr:x.rs[i]? = some x.rs[i]:=Qi hi;have er:x.rs.take (i+1)=x.rs.take i ++ [x.rs[i]]:=zj4 hr;generalize x.rs[i]=r at hr er;have e1:(0:Int)+(i:Nat)=(i:Nat):=by lia
   have hrl:=zfx s j (x.rs.take i) 0;rw[QB] at hrl;refine⟨rfl,?_⟩;rw[e1]
   ac_rfl
   refine⟨h,s,j,i,x,r,rfl,hh,zgp hs (by lia),ha,hr,?_⟩
   have ed:za7 s j (x.rs.take (i+1)) 0=za7 s j (x.rs.take i) 0++(if(zf6 s j r).isSome=true then[.act j i] else[]):=by
    rw[er,zir,QB,Jw (JL hi),ZH,za7,za7,QF];refine congrArg _ ?_;unfold zf6
    by_cases z:s.rooms.getD j 0=r.p/\zd0 s r.d=true
    .rw[T0 ((zhc s j r).mpr z),T0 z,T0 (show(some (zfy s j r)).isSome=true from rfl)]
    .rw[TB (λw=>z ((zhc s j r).mp w)),TB z,TB (by simp)]
   cases e:zf6 s j r with
   | none=>
     rw[e,TB (by simp),QF] at ed
     ac_rfl
     refine hN2 _ ⟨some (.im (.int (i:Nat))),o5,o6,?_⟩;rw[ed];rfl
   | some y=>
     rw[e,T0 (show(some y).isSome=true from rfl)] at ed
     ac_rfl
     refine⟨by rw[Qb,Qf];lia,?_⟩;refine hN2 _ ⟨some (.im (.int (i:Nat))),o5,o6,?_⟩;rw[ed,<- Zy,QI (l₂:=[Stp1.act j i])];rfl
end
theorem zlj(h:Hou):∀(r:List Stp1) (b:Sta),∃xs,b::zbd h b r=xs ++ [endS h b r]
 | [],b=>⟨[],rfl⟩
 | t::r,b=>by
   obtain⟨xs,e⟩:=zlj h r (zce h b t);exact⟨b::xs,by rw[zbd,e,endS];rfl⟩
section
variable {P:Uy}{w:U0}{K:Qa}{mg:Str->Option Ut}{base:Heap}{k:Nat}
abbrev zrm:Stmt:=top 40
theorem z3c:FnScope ["_law_deal_here", "_law_house_here", "_law_begin", "_law_most", "_law_run_here", "_law_standings", "_law_turn", "_law_some", "_law_doings"] ["_law_deal_here", "_law_house_here", "_law_begin", "_law_most"] (zah zrm):=⟨rfl,rfl,rfl,by decide +kernel,rfl,by decide +kernel,by decide +kernel⟩
theorem zgw(B:Blt mg)(d_law_draw:zha P w K mg base)(zc8:Def3 P w K mg base 2 "_law_step" ["_law_house_here", "_law_standing_here", "_law_step_here"] (spO K (λ_=>True) 3 zme))(zcw:Def3 P w K mg base 2 "_law_steps_here" ["_law_house_here", "_law_standing_here"] (spO K (λ_=>True) 2 zsl))(T:Top3 K mg "_law_run" zrm):Def3 P w K mg base 3 "_law_run" ["_law_deal_here", "_law_house_here", "_law_begin", "_law_most"] (spD K IsDeal 3 zpt):=by
 refine mk_D T z3c (λ_ _ _ _ _ _ us hl=>len4 hl λ_ _ _ _=>rfl) rfl λf cdv A outer s H E O hφ C=>?_;have hO:∀j:Unit,IsDeal ((λ_:Unit=>O) j):=λ_=>hφ;refine⟨_,(zaf (z2k 4 5 C (za8 zac) (zbu (zab (zaa 2) zac))) (zaf (zcm C (zcd (i_r1 C B (zab (zag C (zbu (zab (zam 0 C d_law_draw hO (zab (zax C (zaa 3) zad) zac)) (zab zad zac))) (znh C B (zab (e_eq C (zam 0 C d_law_draw hO (zab zad zac)) zad) zac))) zac))) (zbv (h:=1000) 6) (zaf (zaq 7 (za4 C zcw (λ_=>trivial) (zab (zaa 1) (zab (zag C (zaa 5) zdx) zac)))) (zaf (z3f 8 1 ["_law_step_here", "_law_deal_here", "_law_house_here", "_law_begin", "_law_most", "_law_run_here", "_law_standings", "_law_turn", "_law_some", "_law_doings"] C (λ_=>.of rfl (by kernel_rfl)) (z3y C (zaa 7)) (zbv 0) (z6c (t_eq (C.comp _ _) (zag (C.comp _ _) (zaa 0) zad) za0)) (zaa 0)) (zaf (s_if (t_w (zf7 (t_ne C (zaa 8) (zbu zac)) (zeq (t_gt (zam 0 C d_law_draw hO (zab zad zac)) zad)))) (zai (z5u 8 (z1t 7 8))) zap) (zai (s_if (t_ne C (zaa 7) (zbu zac)) (zaf (zaq 4 (zax C (zaa 4) (za8 (zab (zag C (zaa 7) (zam 0 C d_law_draw hO (zab (zbm C B (zab (zaa 7) zac)) zac))) zac)))) (zai (zet 5 C (za4 C zc8 (λ_=>trivial) (zab (zaa 1) (zab (zag C (zaa 5) zdx) (zab (zag C (zaa 4) zdx) zac))))))) zap)))))) (zai (zar (za8 (zab (zaa 4) (zab (zaa 5) zac))))))),λds Qr hn q=>?_⟩;obtain⟨h,b,m,rfl,ho,hb,hm,q⟩:=q;have sz:=Uz;have hh:=ho.ok
 ac_rfl
 refine⟨by simp[flats];exact zcq b,?_⟩
 ac_rfl
 refine⟨by lia,by lia,λk k0 k1=>?_⟩;obtain⟨u,rfl⟩:=Ql k0
 ac_rfl
 refine⟨by decide,by decide,λc c0 c1=>?_⟩
 ac_rfl
 have edo:eqF false (.str "do") (.str "do")=some (.o (.bool true)):=by rw[zbc (by decide +kernel) (by decide +kernel),TB Qo];exact congrArg (λb=>some (R.o (.bool b))) (by decide +kernel)
 have elo:eqF false (.str "lose") (.str "do")=some (.o (.bool false)):=by rw[zbc (by decide +kernel) (by decide +kernel),TB Qo];exact congrArg (λb=>some (R.o (.bool b))) (by decide +kernel)
 have ene:∀us:List Stp1,eqF true (.list (us.map zaz)) (.list [])=some (.o (.bool (!us.isEmpty))):=λus=>by
  rw[zxl (neg:=true) (zmb (f:=zaz) (l:=us) λu _=>zxq u).list (zfs 0).list (q:=us.isEmpty) (hq:=by cases us <;> simp)];rfl
 have ht:∀d:Bool,∃t:Nat,t<=60/\idxF (.list [.int (u:Nat),.int 60]) (.int (if d then 1 else 0))=some (.o (.int (t:Nat))):=λd=>by
  cases d with
  | true=>exact⟨60,Qm _,rfl⟩
  | false=>exact⟨u,by lia,rfl⟩
 obtain⟨t,t60,et⟩:=ht (decide (c=0));refine⟨_,et,?_⟩
 ac_rfl
 refine⟨by lia,by lia,rfl,?_⟩;refine zbe (λj ρ=>∃(r:List Stp1) (o6 o7 o8:Option DV),ρ = [some .ob,some (.im (za2 h)),some (.im (zak b)),some (.im (.int (m:Nat))),some (.im (.tuple (r.map zaz))),some (.own ((b::zbd h b r).map zak)),o6,o7,o8]/\zc9 h b r/\r.length<=j) ⟨[],none,none,none,rfl,trivial,Qm _⟩ (λρ hρ=>?_) λj d ρ N hd hN hρ=>?_
 .obtain⟨r,o6,o7,o8,rfl,h1,h2⟩:=hρ;rw[zcy] at h2
  ac_rfl
  exact q r h1 (by lia)
 .obtain⟨r,o6,o7,o8,rfl,h1,h2⟩:=hρ;obtain⟨hj,rfl⟩:=zb9 hd;have hs1:=znw hh r hb h1;have j60:j<60:=by lia
  obtain⟨xs,ex⟩:=zlj h r b;have ix:idxF (.list ((b::zbd h b r).map zak)) (.int (-1))=some (.o (zak (endS h b r))):=by rw[ex];exact zeu
  refine⟨rfl,?_⟩
  (repeat first|refine⟨_,ix,?_⟩|refine⟨ix,?_⟩|infer_instance)
  refine⟨h,4+r.length,endS h b r,rfl,ho,hs1,by lia,?_⟩;have hM:∀t∈zbr h (endS h b r)++zau (endS h b r).words 0,May h (endS h b r) t:=λt ht=>ht;have tot:=zi0 hh (endS h b r);have tot2:=zoq hh hs1 (by lia);have tl:(zbr h (endS h b r)++zau (endS h b r).words 0).length<=100000+100000:=by rw[Qf];lia
  generalize zbr h (endS h b r)++zau (endS h b r).words 0=S at hM tl;refine⟨zao zj2 _,?_⟩
  ac_rfl
  refine zwo (α:=Stp1) (enc:=zaz) (p:=zl1) (e:=zaz) (λs _ Pn Py hn hy=>?_) (by lia) ?_
  .cases s with
   | act=>(repeat first|refine⟨_,edo,?_⟩|refine⟨edo,?_⟩|infer_instance);exact hy rfl _ rfl
   | lose=>(repeat first|refine⟨_,elo,?_⟩|refine⟨elo,?_⟩|infer_instance);exact hn rfl
  .refine⟨zao zj2 _,?_⟩;have fM:∀t∈S.filter zl1,May h (endS h b r) t:=λt ht=>hM t (JX.mp ht).1;have fl:(S.filter zl1).length<=S.length:=YN _ _;generalize S.filter zl1=F at fM fl;dsimp only;refine zd9 (λρ=>∃(S':List Stp1) (v:DV) (o8:Option DV),ρ = [some .ob,some (.im (za2 h)),some (.im (zak b)),some (.im (.int (m:Nat))),some (.im (.tuple (r.map zaz))),some (.own ((b::zbd h b r).map zak)),some (.im (.int (0+(j:Int)))),some v,o8]/\seeR v=some (.list (S'.map zaz))/\S'.length<=200000/\∀t∈S',May h (endS h b r) t) (λN2 hN2=>?_) λρ zz=>?_
   .have a0:N2 [some .ob,some (.im (za2 h)),some (.im (zak b)),some (.im (.int (m:Nat))),some (.im (.tuple (r.map zaz))),some (.own ((b::zbd h b r).map zak)),some (.im (.int (0+(j:Int)))),some (.own (S.map zaz)),some (.own (F.map zaz))]:=hN2 _ ⟨S,_,_,rfl,rfl,by lia,hM⟩;have a1:N2 [some .ob,some (.im (za2 h)),some (.im (zak b)),some (.im (.int (m:Nat))),some (.im (.tuple (r.map zaz))),some (.own ((b::zbd h b r).map zak)),some (.im (.int (0+(j:Int)))),some (.im (.list (F.map zaz))),some (.im (.list (F.map zaz)))]:=hN2 _ ⟨F,_,_,rfl,rfl,by lia,fM⟩
    (repeat first|refine⟨_,ene F,?_⟩|refine⟨ene F,?_⟩|infer_instance)
    refine iteB (λz=>?_) λz=>a0
    ac_rfl
    refine⟨by decide,by decide,λd d0 d1=>?_⟩
    ac_rfl
    refine iteB (λz=>?_) λz=>a0;exact .inr ⟨_,rfl,_,rfl,a1⟩
   .obtain⟨S',v,o8,e,hv,hS,hMay⟩:=zz;subst e;refine⟨_,_,rfl,hv,QL _,_,ene S',_,rfl,iteB (λz=>?_) λz=>?_⟩
    .have n0:0<S'.length:=by cases S' with|nil=>cases z|cons=>exact Nat.succ_pos _
     ac_rfl
     have sl:(S'.map zaz).length=S'.length:=Qb ..;refine⟨_,_,rfl,hv,znv rfl rfl hv rfl (by lia) (by lia) λi hi=>?_⟩;rw[sl] at hi;have ht:=hMay _ (ZA hi);refine⟨_,zfh (d:=zaz S'[i]) (by rw[Qs,Qi hi];rfl),?_⟩;generalize S'[i]=u at ht;have ad:addF (.tuple (r.map zaz)) (.tuple [zaz u])=some (.o (.tuple ((r ++ [u]).map zaz))):=by rw[zcl (by rw[Qb,Qz];lia),QI];rfl
     have il:idxF (.tuple ((r ++ [u]).map zaz)) (.int (-1))=some (.o (zaz u)):=by
      exact zeu (f:=zaz) (us:=r) (u:=u)
     (repeat first|refine⟨_,ad,?_⟩|refine⟨ad,?_⟩|infer_instance)
     refine⟨zao zj2 _,?_⟩
     (repeat first|refine⟨_,ix,?_⟩|refine⟨ix,?_⟩|refine⟨_,il,?_⟩|refine⟨il,?_⟩|infer_instance)
     refine⟨h,4+r.length,endS h b r,rsOf u,by rw[<- zm0];rfl,ho,hs1,by lia,?_⟩
     have eQ:zb4 h (endS h b r) (rsOf u)=some (zce h (endS h b r) u):=by
      unfold zb4;rw[T0 (zv4 ht),zik]
     rw[eQ];refine⟨zcq _,by rw[Qb,Qj,zh2];lia,?_⟩;refine hN _ ⟨r ++ [u],some (.im (.int (0+(j:Int)))),some v,o8,?_,(zps h r b [u]).mpr ⟨h1,ht,trivial⟩,by rw[Qf,Qz];lia⟩;rw[zne,<- ZT,QI (l₂:=zbd h (endS h b r) [u])];rfl
    .exact hN _ ⟨r,_,_,_,rfl,h1,by lia⟩
end
abbrev stBS(t:RSt)(a:Bool)(i j k:Int):DSt:=[some .ob,some (.im (zan t)),some (.im (.str (kdR a))),some (.im (.int i)),some (.im (.int j)),some (.im (.int k))]
theorem zsw{vs:List Int}{k:Nat}(h:k<vs.length):∃v:Int,(vs.map JW)[k]? = some (.int v):=by
 rw[Qs,Qi h];exact⟨_,rfl⟩
section
variable {P:Uy}{w:U0}{K:Qa}{mg:Str->Option Ut}{base:Heap}{k:Nat}
abbrev zfz:Stmt:=top 41
theorem zok:FnScope ["_law_deal_here", "_law_step_here", "_law_word", "_law_one", "_law_two", "_law_way"] ["_law_deal_here", "_law_step_here"] (zah zfz):=⟨rfl,rfl,rfl,by decide +kernel,rfl,by decide +kernel,by decide +kernel⟩
theorem zdb(B:Blt mg)(d_law_draw:zha P w K mg base)(T:Top3 K mg "_law_bent_step" zfz):Def3 P w K mg base 2 "_law_bent_step" ["_law_deal_here", "_law_step_here"] (spD K IsDeal 1 zt1):=by
 refine mk_D T zok (λ_ _ _ _ _ _ us hl=>len2 hl λ_ _=>rfl) rfl λf cdv A outer s H E O hφ C=>?_;have hO:∀j:Unit,IsDeal ((λ_:Unit=>O) j):=λ_=>hφ;refine⟨_,(zaf (zgm (h:=1000) C (zaa 1) (zav 2 (zav 3 (zav 4 zcc)))) (zaf (zaq 5 (zam 0 C d_law_draw hO (zab zad zac))) (zaf (s_if (t_eq C (zaa 5) zad) (zai (zaq 2 (zag C (zbu (zab za0 (zab za0 zac))) (znh C B (zab (e_eq C (zaa 2) za0) zac))))) zap) (zaf (s_if (t_eq C (zaa 5) zad) (zai (zaq 3 (zax C (zaa 3) (zag C (zbu (zab zad (zab zdx (zab (zl5 zdx (zaa 3)) (zab zad zac))))) (zam 0 C d_law_draw hO (zab zad zac)))))) zap) (zaf (s_if (t_gt (zaa 5) zad) (zai (zaq 4 (zax C (zaa 4) (zag C (zbu (zab zad (zab zdx (zab (zl5 zdx (zaa 4)) (zab zad (zab (z6e zad zad) zac)))))) (zam 0 C d_law_draw hO (zab zad zac)))))) zap) (zai (zar (za8 (zab (zaa 2) (zab (zaa 3) (zab (zaa 4) zac))))))))))),λds Qr hn q=>?_⟩;obtain⟨t,rfl,q⟩:=q;have sz:=Uz;obtain⟨a,i,j⟩:=t
 ac_rfl
 refine⟨by decide,by decide,λk k0 k1=>⟨rfl,?_⟩⟩;dsimp only;refine zd9 (λρ=>∃a',ρ=stBS ⟨a,i,j⟩ a' i j k) (λN hN=>?_) λρ zz=>?_
 .ac_rfl
  refine iteB (λz=>?_) λz=>hN _ ⟨a,rfl⟩
  ac_rfl
  have e:eqF false (.str (kdR a)) (.str "do")=some (.o (.bool a)):=by
   cases a <;> (rw[zbc (by decide +kernel) (by decide +kernel),TB Qo];exact congrArg (λb=>some (R.o (.bool b))) (by decide +kernel))
  refine⟨_,e,?_⟩
  cases a with
  | true=>ac_rfl;exact hN _ ⟨false,rfl⟩
  | false=>ac_rfl;exact hN _ ⟨true,rfl⟩
 .obtain⟨a',e⟩:=zz;subst e;refine zd9 (λρ=>∃i',ρ=stBS ⟨a,i,j⟩ a' i' j k) (λN hN=>?_) λρ zz=>?_
  .ac_rfl
   refine iteB (λz=>?_) λz=>hN _ ⟨i,rfl⟩
   ac_rfl
   refine⟨by decide,by decide,λd d0 d1=>?_⟩;obtain⟨d,rfl⟩:=Ql d0;obtain⟨v,hv⟩:=zsw (vs:=[1,-1,-1-i,7]) (k:=d) (by show d<4;lia);refine⟨_,zfh hv,?_⟩
   ac_rfl
   exact hN _ ⟨_,rfl⟩
  .obtain⟨i',e⟩:=zz;subst e;refine zd9 (λρ=>∃j',ρ=stBS ⟨a,i,j⟩ a' i' j' k) (λN hN=>?_) λρ zz=>?_
   .ac_rfl
    refine iteB (λz=>?_) λz=>hN _ ⟨j,rfl⟩
    ac_rfl
    refine⟨⟨by decide,by decide,by decide⟩,by show 5<=sizeLine;lia,?_⟩
    ac_rfl
    refine⟨by decide,by decide,λd d0 d1=>?_⟩;obtain⟨d,rfl⟩:=Ql d0;obtain⟨v,hv⟩:=zsw (vs:=[1,-1,-1-j,7,10 ^ 20]) (k:=d) (by show d<5;lia);refine⟨_,zfh hv,?_⟩
    ac_rfl
    exact hN _ ⟨_,rfl⟩
   .obtain⟨j',e⟩:=zz;subst e
    ac_rfl
    exact q ⟨a',i',j'⟩
end
theorem zb2{xs ys:List RSt}(h:xs.length+ys.length<=1000):addF (.tuple (xs.map zan)) (.tuple (ys.map zan))=some (.o (.tuple ((xs++ys).map zan))):=by
 have sz:=Uz;rw[zcl (by rw[Qb,Qb];lia),QI]
section
variable {P:Uy}{w:U0}{K:Qa}{mg:Str->Option Ut}{base:Heap}{k:Nat}
abbrev zm9:Stmt:=top 42
theorem zyi:FnScope ["_law_deal_here", "_law_run_here", "_law_at", "_law_other", "_law_way", "_law_some"] ["_law_deal_here", "_law_run_here"] (zah zm9):=⟨rfl,rfl,rfl,by decide +kernel,rfl,by decide +kernel,by decide +kernel⟩
theorem zd2(B:Blt mg)(d_law_draw:zha P w K mg base)(zdb:Def3 P w K mg base 2 "_law_bent_step" ["_law_deal_here", "_law_step_here"] (spD K IsDeal 1 zt1))(T:Top3 K mg "_law_bent" zm9):Def3 P w K mg base 3 "_law_bent" ["_law_deal_here", "_law_run_here"] (spD K IsDeal 1 ztm):=by
 refine mk_D T zyi (λ_ _ _ _ _ _ us hl=>len2 hl λ_ _=>rfl) rfl λf cdv A outer s H E O hφ C=>?_;have hO:∀j:Unit,IsDeal ((λ_:Unit=>O) j):=λ_=>hφ;refine⟨_,(zaf (s_if (t_eq C (zbm C B (zab (zaa 1) zac)) zad) (zai (zar (za8 (zab (za8 (zab za0 (zab (zl5 (zam 0 C d_law_draw hO (zab zad zac)) zad) (zab (zl5 (zam 0 C d_law_draw hO (zab zad zac)) zad) zac)))) zac)))) zap) (zaf (zlv 2 3 C (zab (zam 0 C d_law_draw hO (zab (zbm C B (zab (zaa 1) zac)) zac)) (zab (zam 0 C d_law_draw hO (zab (zbm C B (zab (zaa 1) zac)) zac)) zac))) (zaf (zaq 4 (zam 0 C d_law_draw hO (zab zad zac))) (zaf (s_if (t_eq C (zaa 4) zad) (zai (zar (zax C (zay C (zaa 1) za6 (za5 (zaa 2))) (zay C (zaa 1) (za5 (zax C (zaa 2) zad)) za6)))) zap) (zaf (s_if (t_w (zf7 (t_eq C (zaa 4) zad) (zeq (t_lt (zbm C B (zab (zaa 1) zac)) zad)))) (zai (zar (zax C (zax C (zay C (zaa 1) za6 (za5 (zaa 3))) (zay C (zaa 1) (za5 (zaa 2)) (za5 (zax C (zaa 2) zad)))) (zay C (zaa 1) (za5 (zaa 3)) za6)))) zap) (zaf (s_if (t_eq C (zaa 4) zad) (zaf (zaq 5 (zhd C B (zab (zaa 1) zac))) (zaf (z2u 5 2 3 C) (zai (zar (zcb C B (zab (zaa 5) zac)))))) zap) (zai (zar (zax C (zax C (zay C (zaa 1) za6 (za5 (zaa 2))) (za8 (zab (zam 0 C zdb hO (zab (zag C (zaa 1) (zaa 2)) zac)) zac))) (zay C (zaa 1) (za5 (zax C (zaa 2) zad)) za6)))))))))),λds Qr hn q=>?_⟩;obtain⟨r,rfl,lr,q⟩:=q;have sz:=Uz
 ac_rfl
 rw[Qb];refine iteB (λz=>?_) λz=>?_
 .ac_rfl
  refine⟨by decide,by decide,λa a0 a1=>?_⟩
  ac_rfl
  refine⟨by decide,by decide,λb b0 b1=>?_⟩
  ac_rfl
  exact q [⟨true,a-1,b-1⟩] (by show 1<=60;decide)
 have z:=TJ z
 ac_rfl
 rw[Qb];refine⟨by lia,by lia,λa a0 a1=>?_⟩;obtain⟨a,rfl⟩:=Ql a0
 ac_rfl
 rw[Qb];refine⟨by lia,by lia,λb b0 b1=>?_⟩;obtain⟨b,rfl⟩:=Ql b0;have la:a<r.length:=by lia
 have lb:b<r.length:=by lia
 have c1:slcF none (some (a:Int)) (.tuple (r.map zan))=some (.o (.tuple ((r.take a).map zan))):=zm6 r a;have c2:slcF (some ((a:Int)+1)) none (.tuple (r.map zan))=some (.o (.tuple ((r.drop (a+1)).map zan))):=zni r (a+1);have c3:slcF none (some (b:Int)) (.tuple (r.map zan))=some (.o (.tuple ((r.take b).map zan))):=zm6 r b;have c4:slcF (some (b:Int)) none (.tuple (r.map zan))=some (.o (.tuple ((r.drop b).map zan))):=zni r b
 have c5:slcF (some (a:Int)) (some ((a:Int)+1)) (.tuple (r.map zan))=some (.o (.tuple (((r.take (a+1)).drop a).map zan))):=by
  rw[zy3,show((a:Int)+1)=((a+1:Nat):Int) from rfl,zyn]
 have ta:(r.take a).length=a:=by rw[QB];lia
 have tb:(r.take b).length=b:=by rw[QB];lia
 have da:(r.drop (a+1)).length=r.length-(a+1):=QO;have db:(r.drop b).length=r.length-b:=QO;have dc:((r.take (a+1)).drop a).length=1:=by rw[QO,QB];lia
 have ix:=zoy (d:=zan r[a]) (ds:=r.map zan) (i:=a) (by rw[Qs,Qi la];rfl)
 ac_rfl
 refine⟨by decide,by decide,λk k0 k1=>⟨rfl,?_⟩⟩;show seqD _ _ _ [some .ob,some (.im (.tuple (r.map zan))),some (.im (.int (a:Nat))),some (.im (.int (b:Nat))),some (.im (.int k)),none]
 ac_rfl
 refine iteB (λz1=>?_) λz1=>?_
 ·(repeat first|refine⟨_,c1,?_⟩|refine⟨c1,?_⟩|refine⟨_,c2,?_⟩|refine⟨c2,?_⟩|refine⟨_,zb2 (xs:=r.take a) (ys:=r.drop (a+1)) (by lia),?_⟩|refine⟨zb2 (xs:=r.take a) (ys:=r.drop (a+1)) (by lia),?_⟩|infer_instance)
  exact q _ (by rw[Qf];lia)
 dsimp only;refine zd9 (λρ=>ρ = [some .ob,some (.im (.tuple (r.map zan))),some (.im (.int (a:Nat))),some (.im (.int (b:Nat))),some (.im (.int k)),none]) (λN hN=>?_) λρ e=>?_
 .ac_rfl
  refine iteB (λz2=>?_) λz2=>hN _ rfl
  ac_rfl
  rw[Qb];refine iteB (λz3=>?_) λz3=>hN _ rfl;have z3:=Tz z3
  (repeat first|refine⟨_,c3,?_⟩|refine⟨c3,?_⟩|refine⟨_,c5,?_⟩|refine⟨c5,?_⟩|refine⟨_,zb2 (xs:=r.take b) (ys:=(r.take (a+1)).drop a) (by lia),?_⟩|refine⟨zb2 (xs:=r.take b) (ys:=(r.take (a+1)).drop a) (by lia),?_⟩|refine⟨_,c4,?_⟩|refine⟨c4,?_⟩|refine⟨_,zb2 (xs:=r.take b++(r.take (a+1)).drop a) (ys:=r.drop b) (by rw[Qf];lia),?_⟩|refine⟨zb2 (xs:=r.take b++(r.take (a+1)).drop a) (ys:=r.drop b) (by rw[Qf];lia),?_⟩|infer_instance)
  exact q _ (by rw[Qf,Qf];lia)
 subst e
 ac_rfl
 refine iteB (λz3=>?_) λz3=>?_
 .ac_rfl
  refine⟨zao zg6 _,?_⟩;refine⟨r.map zan,a,b,zan r[a],zan r[b],rfl,rfl,rfl,by rw[Qs,Qi la];rfl,by rw[Qs,Qi lb];rfl,?_⟩;have es:((r.map zan).set a (zan r[b])).set b (zan r[a])=((r.set a r[b]).set b r[a]).map zan:=by rw[ZG,ZG]
  rw[es]
  ac_rfl
  exact q _ (by rw[QC,QC];exact lr)
 (repeat first|refine⟨_,c1,?_⟩|refine⟨c1,?_⟩|refine⟨_,ix,?_⟩|refine⟨ix,?_⟩|infer_instance)
 refine λt=>?_
 (repeat first|refine⟨_,zb2 (xs:=r.take a) (ys:=[t]) (by rw[Qz];lia),?_⟩|refine⟨zb2 (xs:=r.take a) (ys:=[t]) (by rw[Qz];lia),?_⟩|refine⟨_,c2,?_⟩|refine⟨c2,?_⟩|refine⟨_,zb2 (xs:=r.take a ++ [t]) (ys:=r.drop (a+1)) (by rw[Qf,Qz];lia),?_⟩|refine⟨zb2 (xs:=r.take a ++ [t]) (ys:=r.drop (a+1)) (by rw[Qf,Qz];lia),?_⟩|infer_instance)
 exact q _ (by rw[Qf,Qf,Qz];lia)
end
section
variable {P:Uy}{w:U0}{K:Qa}{mg:Str->Option Ut}{base:Heap}{k:Nat}
abbrev zqn:Stmt:=top 43
theorem z2v:FnScope ["_law_house_here", "_law_begin", "_law_asked", "_law_run_here", "_law_here", "_law_at", "_law_step_here"] ["_law_house_here", "_law_begin", "_law_asked", "_law_run_here"] (zah zqn):=⟨rfl,rfl,rfl,by decide +kernel,rfl,by decide +kernel,by decide +kernel⟩
theorem zev(B:Blt mg)(ze8:Def3 P w K mg base 2 "_law_above" ["_law_one", "_law_other"] (spO K (λ_=>True) 2 abvF))(zc8:Def3 P w K mg base 2 "_law_step" ["_law_house_here", "_law_standing_here", "_law_step_here"] (spO K (λ_=>True) 3 zme))(T:Top3 K mg "_law_due" zqn):Def3 P w K mg base 3 "_law_due" ["_law_house_here", "_law_begin", "_law_asked", "_law_run_here"] (spO K (λ_=>True) 4 zwq):=by
 refine mk_O T z2v (λ_ _ _ _ _ _ us hl=>len4 hl λ_ _ _ _=>rfl) rfl λf cdv A outer s H E O hφ C=>⟨_,(zaf (zaq 4 (zaa 1)) (zaf (zcm C (zcd (zfg C B (zaa 3))) (zf4 (h:=1000) C (zav 5 (zav 6 zcc))) (zaf (zaq 4 (za4 C zc8 (λ_=>trivial) (zab (zaa 0) (zab (zaa 4) (zab (zaa 6) zac))))) (zai (s_if (t_is (zaa 4) zd5) (zai (zar (zaa 5))) zap)))) (zai (zar (zag C (zbu (zab (zbm C B (zab (zaa 3) zac)) (zab e_bl zac))) (znh C B (zab (za4 C ze8 (λ_=>trivial) (zab (zaa 4) (zab (zaa 2) zac))) zac))))))),λds Qr hn q=>?_⟩;obtain⟨h,n,b,a,r,rfl,ho,hb,ha,hn,q⟩:=q;have sz:=Uz;have hh:=ho.ok
 ac_rfl
 refine⟨zfk b,?_⟩;refine⟨_,_,rfl,rfl,_,rfl,zao zg6 _,rfl,?_⟩;refine zbe (λj ρ=>∃(s1:Sta) (o5 o6:Option DV),ρ = [some (.im (za2 h)),some (.im (zak b)),some (.im (zak a)),some (.im (.tuple (r.map zan))),some (.im (zak s1)),o5,o6]/\dueQ h a (r.drop j) j r.length s1=dueQ h a r 0 r.length b/\StOk h (n+j) s1) ⟨b,none,none,rfl,rfl,hb⟩ (λρ hρ=>?_) λj d ρ N hd hN hρ=>?_
 .obtain⟨s1,o5,o6,rfl,h1,h2⟩:=hρ;rw[zc1,Qb] at h2;rw[zc1,Qb,ZR,dueQ] at h1;rw[<- h1] at q;have sH:=zgp h2 (by lia)
  ac_rfl
  rw[Qb];refine⟨sH.w ho,ha.w,by rw[h2.words,ha.n],?_⟩
  cases e:abvB s1 a with
  | true=>
    rw[e,T0 rfl] at q
    ac_rfl
    exact q
  | false=>
    rw[e,TB Qo] at q
    ac_rfl
    exact q
 .obtain⟨s1,o5,o6,rfl,h1,h2⟩:=hρ;obtain⟨z,hz,rfl⟩:=zdn hd;rw[Qs] at hz;obtain⟨t,ht,rfl⟩:=Q4.mp hz;have hj:j<r.length:=(Qk.mp ht).1;rw[zhk ht,dueQ] at h1
  ac_rfl
  refine⟨h,n+j,s1,t,rfl,ho,h2,by lia,?_⟩
  cases e:zb4 h s1 t with
  | none=>
    rw[e] at h1;rw[<- h1] at q
    ac_rfl
    exact q
  | some y=>
    rw[e] at h1;refine⟨zcq y,?_⟩
    ac_rfl
    exact hN _ ⟨y,_,_,rfl,h1,zu4 hh h2 e⟩
end
theorem zis(h:Hou):∀(r:List Stp1) (b:Sta),∃xs,b::zbd h b r=xs ++ [endS h b r]
 | [],b=>⟨[],rfl⟩
 | t::r,b=>by
   obtain⟨xs,e⟩:=zis h r (zce h b t);exact⟨b::xs,by rw[zbd,e,endS];rfl⟩
theorem zpa(h:Hou)(a:Sta)(m:Nat):∀(r:List RSt) (i k:Nat) (s:Sta),dueQ h a r i m s=some k->k<=m\/k<=i+r.length
 | [],i,k,s,e=>by
   rw[dueQ] at e
   split at e
   .cases e
   .cases e;exact .inl (Qm _)
 | t::ts,i,k,s,e=>by
   rw[dueQ] at e
   split at e
   .cases e;exact .inr (Y5 _ _)
   .have:=zpa h a m ts (i+1) k _ e;rw[Qj];lia
theorem zn0(h:Hou)(b a:Sta)(r:List RSt)(hr:r.length<=60):∃x,zfu [dueP (dueQ h a r 0 r.length b)]=some (.o (.str x))/\QR x=true:=by
 cases e:dueQ h a r 0 r.length b with
 | none=>exact⟨_,rfl,by decide +kernel⟩
 | some k=>
   have:=zpa h a _ r 0 k b e;exact(zut (n:=k) (by lia)).repr
theorem zvr(o:Option Nat):flat (dueP o)=true:=by cases o <;> rfl
theorem zma(r:List RSt):flat (.tuple (r.map zan))=true:=by rw[flat];exact zao zg6 _
section
variable {P:Uy}{w:U0}{K:Qa}{mg:Str->Option Ut}{base:Heap}{k:Nat}
abbrev sLaw:Stmt:=top 44
theorem z5b:FnScope ["_law_script", "_law_deal_here", "_law_house_here", "_law_begin", "_law_run_here", "_law_standings", "_law_some", "_law_asked", "_law_words", "_law_good", "_law_turn", "_law_bent_here"] ["_law_script"] (zah sLaw):=⟨rfl,rfl,rfl,by decide +kernel,rfl,by decide +kernel,by decide +kernel⟩
theorem z4c(B:Blt mg)(d_run_holds:Def3x P w K mg base 6 "run_holds" ["house", "begin", "asked", "run"] (spX K mg (λ_=>True) 4 zqu))(d_law_deal:Def3 P w K mg base 1 "_law_deal" ["_law_script", "_law_base"] (zjt K))(d_law_draw:zha P w K mg base)(ze7:Def3 P w K mg base 2 "_law_house" ["_law_deal_here"] (spD K IsDeal 0 zoz))(zcj:Def3 P w K mg base 2 "_law_standing" ["_law_deal_here", "_law_house_here", "_law_most"] (spD K IsDeal 2 zo1))(zco:Def3 P w K mg base 7 "_law_heard" ["_law_which", "_law_house_here", "_law_begin", "_law_asked", "_law_paper"] (spG K (λ_=>True) 5 (zsj mg)))(zgw:Def3 P w K mg base 3 "_law_run" ["_law_deal_here", "_law_house_here", "_law_begin", "_law_most"] (spD K IsDeal 3 zpt))(zd2:Def3 P w K mg base 3 "_law_bent" ["_law_deal_here", "_law_run_here"] (spD K IsDeal 1 ztm))(zev:Def3 P w K mg base 3 "_law_due" ["_law_house_here", "_law_begin", "_law_asked", "_law_run_here"] (spO K (λ_=>True) 4 zwq))(Fu:Fun K "law" "law" sLaw f₁ fd₁):FnOk P w K mg base CX0 8 f₁ fd₁ ["_law_script"] (zii K):=by
 obtain⟨_,_,_,mV_run_holds,_,_⟩:=d_run_holds.ex;refine zzg (k:=7) Fu z5b rfl (λf cdv A outer s H E C=>?_) (λf cdv A outer s H E C=>?_)
 .obtain⟨fP,fdP,G,mP,kpP,bnP⟩:=d_law_deal.ex;exact zc5 (i:=1) (Tz (by kernel_rfl)) rfl (by first|exact Or.inl rfl|exact Or.inr rfl) (zfq (k:=7) (G.mono (by decide)) (C.room ()) rfl mP kpP bnP .nil zim (zaw (zal (i:=0) rfl (by first|exact Or.inl rfl|exact Or.inr (Or.inl rfl)|exact Or.inr (Or.inr rfl))) (zaw zbb zbk)))
 .have hO:∀j:Addr×Addr,IsDeal ((λj:Addr×Addr=>ziz j.1 j.2) j):=λj=>ztq _ _;refine⟨_,(zaf (zaq 2 (zam 1 C ze7 hO zac)) (zaf (zaq 3 (zam 1 C zcj hO (zab (zaa 2) (zab zad zac)))) (zaf (z1w C (zam 1 C zgw hO (zab (zaa 2) (zab (zaa 3) (zab zad zac)))) (zpr 4 (zpr 5 z1o))) (zaf (zaq 6 (zbu (zab (zag C (zaa 5) zdx) (zab (zag C (zaa 5) (zam 1 C d_law_draw hO (zab (zbm C B (zab (zaa 5) zac)) zac))) (zab (zam 1 C zcj hO (zab (zaa 2) (zab zad zac))) zac))))) (zaf (zaq 7 (zag C (zaa 6) (zam 1 C d_law_draw hO (zab zad zac)))) (zaf (zaq 8 (zcb C B (zab (zef 1 ["_law_word", "_law_script", "_law_deal_here", "_law_house_here", "_law_begin", "_law_run_here", "_law_standings", "_law_some", "_law_asked", "_law_words", "_law_good", "_law_turn", "_law_bent_here"] C (λ_=>.of rfl (by kernel_rfl)) (zxn C (zag C (zaa 7) zad)) (zbv 0) zgh (zay (C.comp _ _) (zaa 0) za6 (za5 (zam 2 (C.comp _ _) d_law_draw (upD hO) (zab zad zac))))) zac))) (zaf (zaq 7 (zax C (zay C (zaa 7) za6 (za5 zad)) (za8 (zab (zaa 8) zac)))) (zaf (zaq 9 (za4 C zev (λ_=>trivial) (zab (zaa 2) (zab (zaa 3) (zab (zaa 7) (zab (zaa 4) zac)))))) (zaf (s_if (t_ne C (zfr C B (zab (zkf C zco (λ_=>trivial) (g_fn C mV_run_holds (g_im (zaa 2) (g_im (zaa 3) (g_im (zaa 7) (g_im (zaa 4) zro)))))) zac)) (zfr C B (zab (zaa 9) zac))) (zai (zar e_bl)) zap) (zaf (zcm C (zcd (i_r1 C B (zab zad zac))) (zbv (h:=1000) 10) (zaf (zaq 11 (zam 1 C zd2 hO (zab (zaa 4) zac))) (zaf (s_if (t_gt (zaa 10) zad) (zai (zaq 11 (zam 1 C zd2 hO (zab (zaa 11) zac)))) zap) (zaf (s_if (t_ne C (zfr C B (zab (zkf C zco (λ_=>trivial) (g_fn C mV_run_holds (g_im (zaa 2) (g_im (zaa 3) (g_im (zaa 7) (g_im (zaa 11) zro)))))) zac)) (zfr C B (zab (za4 C zev (λ_=>trivial) (zab (zaa 2) (zab (zaa 3) (zab (zaa 7) (zab (zaa 11) zac))))) zac))) (zai (zar e_bl)) zap) (zai (s_if (t_ne C (zfr C B (zab (zkf C zco (λ_=>trivial) (g_fn C mV_run_holds (g_im (zaa 2) (g_im (zaa 3) (g_im (zaa 7) (g_im (zaa 4) zro)))))) zac)) (zfr C B (zab (zaa 9) zac))) (zai (zar e_bl)) zap)))))) (zai (zar e_bl)))))))))))),?_⟩;have sz:=Uz
  ac_rfl
  refine λh ho=>⟨zpv h,?_⟩;have hh:=ho.ok
  ac_rfl
  refine⟨ho,by decide,λb hb bnum=>⟨zcq b,?_⟩⟩
  ac_rfl
  refine⟨zvs ⟨rfl,rfl,rfl,rfl,rfl,rfl,rfl,rfl,rfl,rfl,rfl,rfl,trivial⟩,?_⟩
  ac_rfl
  refine⟨ho,hb,by decide,λr hr lr=>?_⟩
  ac_rfl
  obtain⟨xs,ex⟩:=zis h r b;have ix:idxF (.list ((b::zbd h b r).map zak)) (.int (-1))=some (.o (zak (endS h b r))):=by rw[ex];exact zeu
  have hS:∀x∈b::zbd h b r,StOk h 64 x:=λx hx=>by
   rcases Q3.mp hx with rfl|hx
   .exact hb.up (by decide)
   .exact(zpj (n:=4) hh r hb hr x hx).up (by lia)
  have hE:StOk h 64 (endS h b r):=(znw (n:=4) hh r hb hr).up (by lia);have sl:((b::zbd h b r).map zak).length=r.length+1:=by rw[Qb,Qj,zh2]
  (repeat first|refine⟨_,ix,?_⟩|refine⟨ix,?_⟩|infer_instance)
  rw[sl];refine⟨by lia,by lia,λk k0 k1=>?_⟩;obtain⟨k,rfl⟩:=Ql k0;have kl:k<(b::zbd h b r).length:=by rw[Qb] at sl;lia
  have hk:=hS _ (ZA kl);have ik:=zfh (d:=zak (b::zbd h b r)[k]) (ds:=(b::zbd h b r).map zak) (i:=k) (by rw[Qs,Qi kl];rfl);generalize (b::zbd h b r)[k]=u at hk ik;generalize (b::zbd h b r).map zak=S at ik;generalize endS h b r=v at hE;rw[zpc r];have lq:(r.map rsOf).length<=60:=by rw[Qb];exact lr
  generalize r.map rsOf=q at lq
  (repeat first|refine⟨_,ik,?_⟩|refine⟨ik,?_⟩|infer_instance)
  refine⟨ho,by decide,λz hz _=>?_⟩;refine⟨by show 3<=sizeLine;lia,by show flats ([v,u,z].map zak)=true;exact zao zcq _,?_⟩;have hz2:StOk h 64 z:=hz.up (by decide)
  ac_rfl
  refine⟨by decide,by decide,λc c0 c1=>?_⟩
  obtain⟨t,ht,et⟩:∃t,StOk h 64 t/\idxF (.list [zak v,zak u,zak z]) (.int c)=some (.o (zak t)):=by
   rcases(by lia:c=0\/c=1\/c=2) with rfl|rfl|rfl
   .exact⟨v,hE,rfl⟩
   .exact⟨u,hk,rfl⟩
   .exact⟨z,hz2,rfl⟩
  refine⟨_,et,zcq t,?_⟩;clear et ik ix ex
  ac_rfl
  refine zgy (as:=t.words) (enc:=wD) (enc2:=wD) (good:=λw=>w.length<=64/\∀c∈w,c<128) (λx hx Py hPy=>?_) (by have:=ht.words;have:=ho.l2;lia) λws hw hl=>?_
  .ac_rfl
   refine⟨by decide,by decide,λd d0 d1=>?_⟩;obtain⟨d,rfl⟩:=Ql d0;have hx2:=ht.short x hx;have sx:slcF none (some ((d:Nat):Int)) (wD x)=some (.o (wD (x.take d))):=by rw[zex (by lia),zdq]
   (repeat first|refine⟨_,sx,?_⟩|refine⟨sx,?_⟩|infer_instance)
   exact hPy _ ⟨by rw[QB];lia,λc hc=>zi6 (ht.low x hx) c (Je hc)⟩
  ac_rfl
  refine⟨zao (λ_=>rfl) _,?_⟩;have ad:addF (.tuple [.tuple (t.rooms.map nD),.tuple (t.flags.map nD)]) (.tuple [.tuple (ws.map wD)])=some (.o (zak ⟨t.rooms,t.flags,ws⟩)):=zcl (by show 2+1<=16777216;decide);have tw:=(zgp ht (by decide)).w ho;have ak:AskOk h ⟨t.rooms,t.flags,ws⟩:=⟨⟨tw.rooms,tw.flags,by show ws.length<=20;rw[hl];exact tw.words,λw z=>⟨Q5 (hw w z).1 (by decide),(hw w z).2⟩⟩,by show ws.length=_;rw[hl];exact ht.words⟩;obtain⟨a,ad,ak⟩:∃a:Sta,addF (.tuple [.tuple (t.rooms.map nD),.tuple (t.flags.map nD)]) (.tuple [.tuple (ws.map wD)])=some (.o (zak a))/\AskOk h a:=⟨_,ad,ak⟩
  (repeat first|refine⟨_,zbt t,?_⟩|refine⟨zbt t,?_⟩|refine⟨_,ad,?_⟩|refine⟨ad,?_⟩|infer_instance)
  refine⟨zcq a,?_⟩
  ac_rfl
  refine⟨h,4,b,a,q,rfl,ho,hb,ak,by lia,zvr _,?_⟩;obtain⟨x,rx,xo⟩:=zn0 h b a q lq;have hd:=zk9 h b a q
  ac_rfl
  refine⟨h,4,b,a,q,rfl,ho,hb,ak,by lia,?_⟩;rw[hd]
  (repeat first|refine⟨_,rx,?_⟩|refine⟨rx,?_⟩|refine⟨_,zcz xo,?_⟩|refine⟨zcz xo,?_⟩|infer_instance)
  refine⟨by decide,by decide,rfl,?_⟩;refine zbe (λj ρ=>∃(o5 o6 o8 o10 o11:Option DV),ρ = [none,some .ob,some (.im (za2 h)),some (.im (zak b)),some (.im (.tuple (q.map zan))),o5,o6,some (.im (zak a)),o8,some (.im (dueP (dueQ h a q 0 q.length b))),o10,o11]) ⟨_,_,_,_,_,rfl⟩ (λρ hρ=>?_) λj d ρ N hd2 nx hρ=>?_
  .obtain⟨o5,o6,o8,o10,o11,rfl⟩:=hρ;exact rfl
  .obtain⟨o5,o6,o8,o10,o11,rfl⟩:=hρ;obtain⟨hj,rfl⟩:=zb9 hd2;refine⟨rfl,?_⟩
   ac_rfl
   refine⟨lq,λq1 l1=>⟨zma q1,?_⟩⟩;dsimp only;refine zd9 (λρ=>∃q2:List RSt,q2.length<=60/\ρ = [none,some .ob,some (.im (za2 h)),some (.im (zak b)),some (.im (.tuple (q.map zan))),o5,o6,some (.im (zak a)),o8,some (.im (dueP (dueQ h a q 0 q.length b))),some (.im (.int (0+(j:Int)))),some (.im (.tuple (q2.map zan)))]) (λN2 hN2=>?_) λρ zz=>?_
   .ac_rfl
    refine iteB (λ_=>?_) λ_=>hN2 _ ⟨q1,l1,rfl⟩
    ac_rfl
    exact⟨l1,λq2 l2=>⟨zma q2,hN2 _ ⟨q2,l2,rfl⟩⟩⟩
   .obtain⟨q2,l2,e⟩:=zz;subst e;obtain⟨y,ry,yo⟩:=zn0 h b a q2 l2
    ac_rfl
    refine⟨h,4,b,a,q2,rfl,ho,hb,ak,by lia,?_⟩;rw[zk9 h b a q2]
    (repeat first|refine⟨_,ry,?_⟩|refine⟨ry,?_⟩|refine⟨_,zcz yo,?_⟩|refine⟨zcz yo,?_⟩|infer_instance)
    refine⟨h,4,b,a,q2,rfl,ho,hb,ak,by lia,?_⟩
    (repeat first|refine⟨_,ry,?_⟩|refine⟨ry,?_⟩|refine⟨_,zcz yo,?_⟩|refine⟨zcz yo,?_⟩|infer_instance)
    refine⟨h,4,b,a,q,rfl,ho,hb,ak,by lia,?_⟩;rw[hd]
    (repeat first|refine⟨_,rx,?_⟩|refine⟨rx,?_⟩|refine⟨_,zcz xo,?_⟩|refine⟨zcz xo,?_⟩|infer_instance)
    exact nx _ ⟨_,_,_,_,_,rfl⟩
end
def DIn(K:Qa)(x:Str)(st:Stmt):Prop:=∃(f:Addr) (od an:Option Addr) (sl:Array (Option Ut)) (oc kV dc pm cd ct:Ut),Qy K mainGlobals x=some (some (.ref f))/\K.lookup f=some ⟨oc,od,.func (Zq x x (zb8 st) (zbi st) (zah st) .none kV dc pm an cd ct),sl⟩/\Ji K cd x=true/\Zt K (.ref f)=true
theorem din_mk{K:Qa}{x:Str}{st:Stmt}{f:Addr}{od an:Option Addr}{sl:Array (Option Ut)}{oc kV dc pm cd ct:Ut}(a:Qy K mainGlobals x=some (some (.ref f)))(l:K.lookup f=some ⟨oc,od,.func (Zq x x (zb8 st) (zbi st) (zah st) .none kV dc pm an cd ct),sl⟩)(c:Ji K cd x=true)(k:Zt K (.ref f)=true):DIn K x st:=⟨f,od,an,sl,oc,kV,dc,pm,cd,ct,a,l,c,k⟩
theorem zat{K:Qa}{x:Str}{st:Stmt}{h:Heap}{mg:Str->Option Ut}(X:K.In h)(G:h.Ns mainGlobals mg)(D:DIn K x st):Top3 K mg x st:=by obtain⟨f,_,_,_,_,_,_,_,_,_,a,l,c,k⟩:=D;exact⟨f,_,zs2 (st:=st) l c k,ZL X G a⟩
theorem all_mk{l:YF}{w:U0}{K:Qa}{h:Heap}{mg:Str->Option Ut}{fa:Addr}{ea:EA}(X:K.In h)(G:h.Ns mainGlobals mg)(hfa:mg "law" = some (.ref fa))
 (D1:DIn K "places" zj9)
 (D2:DIn K "lies_under" zf9)
 (D3:DIn K "is_there" zhv)
 (D4:DIn K "is_above" zht)
 (D5:DIn K "put_at" zmz)
 (D6:DIn K "lets_do" zkd)
 (D7:DIn K "may_be_done" zgg)
 (D8:DIn K "steps_here" zf5)
 (D9:DIn K "words_behind" zec)
 (D10:DIn K "flags_behind" zed)
 (D11:DIn K "behind_rule" ze9)
 (D12:DIn K "behind_loss" zfa)
 (D13:DIn K "behind" zkc)
 (D14:DIn K "can_be" zmc)
 (D15:DIn K "walked" zkk)
 (D16:DIn K "run_holds" zg0)
 (D17:DIn K "_law_deal" zqt)
 (D18:DIn K "_law_draw" zp0)
 (D19:DIn K "_law_house" zj3)
 (D20:DIn K "_law_standing" zga)
 (D21:DIn K "_law_under" zkj)
 (D22:DIn K "_law_above" zj8)
 (D23:DIn K "_law_done" zno)
 (D24:DIn K "_law_step" zl7)
 (D25:DIn K "_law_heard" zkm)
 (D26:DIn K "_law_steps_here" ze6)
 (D27:DIn K "_law_run" zrm)
 (D28:DIn K "_law_bent_step" zfz)
 (D29:DIn K "_law_bent" zm9)
 (D30:DIn K "_law_due" zqn)
 (D31:DIn K "law" sLaw)
 (z1:Qy K mainGlobals "len" = some none)
 (z2:Qy K mainGlobals "all" = some none)
 (z3:Qy K mainGlobals "any" = some none)
 (z4:Qy K mainGlobals "sorted" = some none)
 (z5:Qy K mainGlobals "min" = some none)
 (z6:Qy K mainGlobals "max" = some none)
 (z7:Qy K mainGlobals "repr" = some none)
 (z8:Qy K mainGlobals "int" = some none)
 (z9:Qy K mainGlobals "list" = some none)
 (z10:Qy K mainGlobals "tuple" = some none)
 (z11:Qy K mainGlobals "range" = some none)
 (z12:Qy K mainGlobals "set" = some none)
 (z13:Qy K mainGlobals "isinstance" = some none)
 (z14:Qy K mainGlobals "enumerate" = some none)
 (z15:Qy K mainGlobals "zip" = some none)
 (z16:Qy K mainGlobals "reversed" = some none)
 (z17:Qy K mainGlobals "str" = some none)
 (z18:Qy K mainGlobals "sum" = some none)
 (z19:Qy K mainGlobals "dict" = some none)
 (z20:Qy K mainGlobals "bool" = some none)
 (XE:ErrIn K ea) (rNoStep:zko K ea) (rNoPaper:zh0 K ea)
 : ∃fd:UM,(∀(s:Ux) (v:Ut),Te s fd ⟨[v],[]⟩ [("_law_script",v)])/\∀base:Heap,K.In base->base.Ns mainGlobals mg->FnOk l.prog w K mg base CX0 8 fa fd ["_law_script"] (zii K):=by
 have T1:=zat X G D1;have T2:=zat X G D2;have T3:=zat X G D3;have T4:=zat X G D4;have T5:=zat X G D5;have T6:=zat X G D6;have T7:=zat X G D7;have T8:=zat X G D8;have T9:=zat X G D9;have T10:=zat X G D10;have T11:=zat X G D11;have T12:=zat X G D12;have T13:=zat X G D13;have T14:=zat X G D14;have T15:=zat X G D15;have T16:=zat X G D16;have T17:=zat X G D17;have T18:=zat X G D18;have T19:=zat X G D19;have T20:=zat X G D20;have T21:=zat X G D21;have T22:=zat X G D22;have T23:=zat X G D23;have T24:=zat X G D24;have T25:=zat X G D25;have T26:=zat X G D26;have T27:=zat X G D27;have T28:=zat X G D28;have T29:=zat X G D29;have T30:=zat X G D30;have T31:=zat X G D31;have B:Blt mg:=⟨Q8 X G z1,Q8 X G z2,Q8 X G z3,Q8 X G z4,Q8 X G z5,Q8 X G z6,Q8 X G z7,Q8 X G z8,Q8 X G z9,Q8 X G z10,Q8 X G z11,Q8 X G z12,Q8 X G z13,Q8 X G z14,Q8 X G z15,Q8 X G z16,Q8 X G z17,Q8 X G z18,Q8 X G z19,Q8 X G z20⟩;have EC:=XE.errC X G;obtain⟨f31,od31,an31,sl31,oc31,kV31,dc31,pm31,cd31,ct31,a31,l31,c31,k31⟩:=D31;have e:=hfa.symm.trans (ZL X G a31);cases e;refine⟨Zq "law" "law" (zb8 sLaw) (zbi sLaw) (zah sLaw) .none kV31 dc31 pm31 an31 cd31 ct31,λs v=>.of_eq rfl,λbase _ _=>?_⟩;have e1:=zic (P:=l.prog) (w:=w) (base:=base) B T1;have e2:=zek B e1 T2;have e3:=zd1 (P:=l.prog) (w:=w) (base:=base) B T3;have e4:=zfv B e2 T4;have e5:=zb3 (P:=l.prog) (w:=w) (base:=base) B T5;have e6:=zg2 (P:=l.prog) (w:=w) (base:=base) B T6;have e7:=zdu B e6 T7;have e8:=zel B e7 T8;have e9:=zdg B e5 T9;have e10:=zdd B e5 T10;have e11:=zds B e5 e9 e10 T11;have e12:=zdt B e5 T12;have e13:=zh1 B e11 e12 T13;have e14:=zh5 B e3 e8 T14;have e15:=zhz B EC rNoStep e13 e14 T15;have e16:=d_run_holds B EC rNoStep rNoPaper e4 e15 T16;have e17:=d_law_deal (P:=l.prog) (w:=w) (base:=base) B T17;have e18:=d_law_draw (P:=l.prog) (w:=w) (base:=base) B T18;have e19:=ze7 B e18 T19;have e20:=zcj B e18 T20;have e21:=ze4 (P:=l.prog) (w:=w) (base:=base) B T21;have e22:=ze8 B e21 T22;have e23:=zc3 (P:=l.prog) (w:=w) (base:=base) B T23;have e24:=zc8 B e23 T24;have e25:=zco B EC rNoPaper e16 T25;have e26:=zcw B e23 T26;have e27:=zgw B e18 e24 e26 T27;have e28:=zdb B e18 T28;have e29:=zd2 B e18 e28 T29;have e30:=zev B e22 e24 T30;exact z4c B e16 e17 e18 e19 e20 e25 e27 e29 e30 (zs2 (st:=sLaw) l31 c31 k31)
theorem walk{l:YF}{q:Uy}{loose:List Str}{XP:(Str->Option Ut)->Heap->Prop}{YP:U0->Heap->Prop}{d:DefRec}{K:Params->Qa}(hn:l.most=some 63)(hdf:d.params.defaults = [])
 (hY:∀(w:U0) (h:Heap),YP w h->(K w.params).In h)
 (F:∀(w:U0) (mg:Str->Option Ut) (fa:Addr) (h:Heap),(K w.params).In h->h.Ns mainGlobals mg->mg d.name=some (.ref fa) ->
  ∃fd:UM,(∀(s:Ux) (u:Ut),Te s fd ⟨[u],[]⟩ [("_law_script",u)])/\∀base:Heap,(K w.params).In base->base.Ns mainGlobals mg->FnOk l.prog w (K w.params) mg base CX0 8 fa fd ["_law_script"] (zii (K w.params))) :
 Ui q loose XP YP l.row.toRowW d [] (λf vs=>VZ f vs) :=
 L2.walk_of (n:=63) (k:=8) (x := "_law_script") (CX:=λ_=>CX0) (sp:=λw=>zii (K w.params)) hn (by decide) hdf ⟨rfl,by decide,by decide,rfl⟩ hY F (λ_ _ a ns hl _ hS=>⟨a,ns,rfl,hS,hl,λ_=>rfl⟩) λ_ _ _ _ _ z=>z
end L44
theorem PySem.W.Fast.tw15069397365343152340 : True := trivial
theorem PySem.W.Fast.tw18046361341867248477 : True := trivial
theorem PySem.W.Fast.tw4656973718545467807 : True := trivial
theorem PySem.W.Fast.tw1051880695233126229 : True := trivial
theorem PySem.W.Fast.tw5232958342703096071 : True := trivial
theorem PySem.W.Fast.tw4506794324650581606 : True := trivial
theorem PySem.W.Fast.tw15334415103088981982 : True := trivial
theorem PySem.W.Fast.tw8980712596941554655 : True := trivial
theorem PySem.W.Fast.tw480701563434004592 : True := trivial
theorem PySem.W.Fast.tw15131265668985148331 : True := trivial
theorem PySem.W.Fast.tw15340984147761408020 : True := trivial
theorem PySem.W.Fast.tw13086166457005501721 : True := trivial
theorem PySem.W.Fast.tw7808766706417337154 : True := trivial
theorem PySem.W.Fast.tw10610017477598719253 : True := trivial
theorem PySem.W.Fast.tw11218134641023056884 : True := trivial
theorem PySem.W.Fast.tw8974842098778131906 : True := trivial
theorem PySem.W.Fast.tw7970568857111659944 : True := trivial
theorem PySem.W.Fast.tw9941256363835366435 : True := trivial
theorem PySem.W.Fast.tw3987790465882157418 : True := trivial
theorem PySem.W.Fast.tw14802917297332033812 : True := trivial
theorem PySem.W.Fast.tw14474864032672707269 : True := trivial
theorem PySem.W.Fast.tw11922649826997169162 : True := trivial
theorem PySem.W.Fast.tw13354613404844461442 : True := trivial
theorem PySem.W.Fast.tw8415743078423686335 : True := trivial
theorem PySem.W.Fast.tw9167517809270942790 : True := trivial
theorem PySem.W.Fast.tw3810599700494595661 : True := trivial
theorem PySem.W.Fast.tw4292763815081698045 : True := trivial
theorem PySem.W.Fast.tw5536523268931078932 : True := trivial
open PySem PySem.W PyProof.Rows
set_option maxRecDepth 100000 in
set_option maxHeartbeats 0 in
theorem PySem.Challenge.cw_lostpost_k44_runs_looked_at_holds : PySem.Challenge.rw_lostpost_k44_runs_looked_at.Holds := by
 w_on;o_law;k_head;(case hw=>w_witness2)
 k_fill
 refine L44.walk (l:=PySem.Challenge.rw_lostpost_k44_runs_looked_at) rfl rfl (λw h Y=>PySem.W.kIn_of Y) ?F
 case F=>
  intro w mg fa h KX G hmg;refine' L44.all_mk KX G hmg (L44.din_mk ?a1 ?l1 ?c1 ?k1) (L44.din_mk ?a2 ?l2 ?c2 ?k2) (L44.din_mk ?a3 ?l3 ?c3 ?k3) (L44.din_mk ?a4 ?l4 ?c4 ?k4) (L44.din_mk ?a5 ?l5 ?c5 ?k5) (L44.din_mk ?a6 ?l6 ?c6 ?k6) (L44.din_mk ?a7 ?l7 ?c7 ?k7) (L44.din_mk ?a8 ?l8 ?c8 ?k8) (L44.din_mk ?a9 ?l9 ?c9 ?k9) (L44.din_mk ?a10 ?l10 ?c10 ?k10) (L44.din_mk ?a11 ?l11 ?c11 ?k11) (L44.din_mk ?a12 ?l12 ?c12 ?k12) (L44.din_mk ?a13 ?l13 ?c13 ?k13) (L44.din_mk ?a14 ?l14 ?c14 ?k14) (L44.din_mk ?a15 ?l15 ?c15 ?k15) (L44.din_mk ?a16 ?l16 ?c16 ?k16) (L44.din_mk ?a17 ?l17 ?c17 ?k17) (L44.din_mk ?a18 ?l18 ?c18 ?k18) (L44.din_mk ?a19 ?l19 ?c19 ?k19) (L44.din_mk ?a20 ?l20 ?c20 ?k20) (L44.din_mk ?a21 ?l21 ?c21 ?k21) (L44.din_mk ?a22 ?l22 ?c22 ?k22) (L44.din_mk ?a23 ?l23 ?c23 ?k23) (L44.din_mk ?a24 ?l24 ?c24 ?k24) (L44.din_mk ?a25 ?l25 ?c25 ?k25) (L44.din_mk ?a26 ?l26 ?c26 ?k26) (L44.din_mk ?a27 ?l27 ?c27 ?k27) (L44.din_mk ?a28 ?l28 ?c28 ?k28) (L44.din_mk ?a29 ?l29 ?c29 ?k29) (L44.din_mk ?a30 ?l30 ?c30 ?k30) (L44.din_mk ?a31 ?l31 ?c31 ?k31) ?z1 ?z2 ?z3 ?z4 ?z5 ?z6 ?z7 ?z8 ?z9 ?z10 ?z11 ?z12 ?z13 ?z14 ?z15 ?z16 ?z17 ?z18 ?z19 ?z20 (L3.errIn_mk ?xe1 ?xe2 ?xe3 ?xe4 ?xe5 ?xe6 ?xe7 ?xe8 ?xe9 ?xe10 ?xe11 ?xe12 ?xe13 ?xe14) (L3.raise1_mk ?xNoSteph1 ?xNoSteph2 ?xNoSteph3 ?xNoSteph4 ?xNoSteph5 ?xNoSteph6 ?xNoSteph7 ?xNoSteph8 ?xNoSteph9 ?xNoSteph10 ?xNoSteph11 ?xNoSteph12 ?xNoSteph13 ?xNoSteph14 ?xNoSteph15 ?xNoSteph16 ?xNoSteph17 ?xNoSteph18 ?xNoSteph19 ?xNoSteph20 (L3.no_cons ?xNoStepn0a ?xNoStepn0b ?xNoStepn0c ?xNoStepn0d (L3.no_cons ?xNoStepn1a ?xNoStepn1b ?xNoStepn1c ?xNoStepn1d (L3.no_cons ?xNoStepn2a ?xNoStepn2b ?xNoStepn2c ?xNoStepn2d (L3.no_cons ?xNoStepn3a ?xNoStepn3b ?xNoStepn3c ?xNoStepn3d (L3.no_cons ?xNoStepn4a ?xNoStepn4b ?xNoStepn4c ?xNoStepn4d (L3.no_cons ?xNoStepn5a ?xNoStepn5b ?xNoStepn5c ?xNoStepn5d L3.no_nil)))))) (L3.init1_mk ?xNoStepi1 ?xNoStepi2 ?xNoStepi3 ?xNoStepi4 ?xNoStepi5 ?xNoStepi6)) (L3.raise1_mk ?xNoPaperh1 ?xNoPaperh2 ?xNoPaperh3 ?xNoPaperh4 ?xNoPaperh5 ?xNoPaperh6 ?xNoPaperh7 ?xNoPaperh8 ?xNoPaperh9 ?xNoPaperh10 ?xNoPaperh11 ?xNoPaperh12 ?xNoPaperh13 ?xNoPaperh14 ?xNoPaperh15 ?xNoPaperh16 ?xNoPaperh17 ?xNoPaperh18 ?xNoPaperh19 ?xNoPaperh20 (L3.no_cons ?xNoPapern0a ?xNoPapern0b ?xNoPapern0c ?xNoPapern0d (L3.no_cons ?xNoPapern1a ?xNoPapern1b ?xNoPapern1c ?xNoPapern1d (L3.no_cons ?xNoPapern2a ?xNoPapern2b ?xNoPapern2c ?xNoPapern2d (L3.no_cons ?xNoPapern3a ?xNoPapern3b ?xNoPapern3c ?xNoPapern3d (L3.no_cons ?xNoPapern4a ?xNoPapern4b ?xNoPapern4c ?xNoPapern4d (L3.no_cons ?xNoPapern5a ?xNoPapern5b ?xNoPapern5c ?xNoPapern5d L3.no_nil)))))) (L3.init1_mk ?xNoPaperi1 ?xNoPaperi2 ?xNoPaperi3 ?xNoPaperi4 ?xNoPaperi5 ?xNoPaperi6))
  (case a1=>k_is);(case l1=>k_is);(case c1=>k_is);(case k1=>k_is)
  (case a2=>k_is);(case l2=>k_is);(case c2=>k_is);(case k2=>k_is)
  (case a3=>k_is);(case l3=>k_is);(case c3=>k_is);(case k3=>k_is)
  (case a4=>k_is);(case l4=>k_is);(case c4=>k_is);(case k4=>k_is)
  (case a5=>k_is);(case l5=>k_is);(case c5=>k_is);(case k5=>k_is)
  (case a6=>k_is);(case l6=>k_is);(case c6=>k_is);(case k6=>k_is)
  (case a7=>k_is);(case l7=>k_is);(case c7=>k_is);(case k7=>k_is)
  (case a8=>k_is);(case l8=>k_is);(case c8=>k_is);(case k8=>k_is)
  (case a9=>k_is);(case l9=>k_is);(case c9=>k_is);(case k9=>k_is)
  (case a10=>k_is);(case l10=>k_is);(case c10=>k_is);(case k10=>k_is)
  (case a11=>k_is);(case l11=>k_is);(case c11=>k_is);(case k11=>k_is)
  (case a12=>k_is);(case l12=>k_is);(case c12=>k_is);(case k12=>k_is)
  (case a13=>k_is);(case l13=>k_is);(case c13=>k_is);(case k13=>k_is)
  (case a14=>k_is);(case l14=>k_is);(case c14=>k_is);(case k14=>k_is)
  (case a15=>k_is);(case l15=>k_is);(case c15=>k_is);(case k15=>k_is)
  (case a16=>k_is);(case l16=>k_is);(case c16=>k_is);(case k16=>k_is)
  (case a17=>k_is);(case l17=>k_is);(case c17=>k_is);(case k17=>k_is)
  (case a18=>k_is);(case l18=>k_is);(case c18=>k_is);(case k18=>k_is)
  (case a19=>k_is);(case l19=>k_is);(case c19=>k_is);(case k19=>k_is)
  (case a20=>k_is);(case l20=>k_is);(case c20=>k_is);(case k20=>k_is)
  (case a21=>k_is);(case l21=>k_is);(case c21=>k_is);(case k21=>k_is)
  (case a22=>k_is);(case l22=>k_is);(case c22=>k_is);(case k22=>k_is)
  (case a23=>k_is);(case l23=>k_is);(case c23=>k_is);(case k23=>k_is)
  (case a24=>k_is);(case l24=>k_is);(case c24=>k_is);(case k24=>k_is)
  (case a25=>k_is);(case l25=>k_is);(case c25=>k_is);(case k25=>k_is)
  (case a26=>k_is);(case l26=>k_is);(case c26=>k_is);(case k26=>k_is)
  (case a27=>k_is);(case l27=>k_is);(case c27=>k_is);(case k27=>k_is)
  (case a28=>k_is);(case l28=>k_is);(case c28=>k_is);(case k28=>k_is)
  (case a29=>k_is);(case l29=>k_is);(case c29=>k_is);(case k29=>k_is)
  (case a30=>k_is);(case l30=>k_is);(case c30=>k_is);(case k30=>k_is)
  (case a31=>k_is);(case l31=>k_is);(case c31=>k_is);(case k31=>k_is)
  (case z1=>k_is)
  (case z2=>k_is)
  (case z3=>k_is)
  (case z4=>k_is)
  (case z5=>k_is)
  (case z6=>k_is)
  (case z7=>k_is)
  (case z8=>k_is)
  (case z9=>k_is)
  (case z10=>k_is)
  (case z11=>k_is)
  (case z12=>k_is)
  (case z13=>k_is)
  (case z14=>k_is)
  (case z15=>k_is)
  (case z16=>k_is)
  (case z17=>k_is)
  (case z18=>k_is)
  (case z19=>k_is)
  (case z20=>k_is)
  (case xe1=>k_is)
  (case xe2=>k_is)
  (case xe3=>k_is)
  (case xe4=>k_is)
  (case xe5=>k_is)
  (case xe6=>k_is)
  (case xe7=>k_is)
  (case xe8=>k_is)
  (case xe9=>k_is)
  (case xe10=>k_is)
  (case xe11=>k_is)
  (case xe12=>k_is)
  (case xe13=>exact rfl);(case xe14=>intro z;unfold L3.chA at z;exact absurd (Ul z) (by decide))
  (case xNoSteph1=>k_is)
  (case xNoSteph2=>k_is)
  (case xNoSteph3=>k_is)
  (case xNoSteph4=>k_is)
  (case xNoSteph5=>k_is)
  (case xNoSteph6=>k_is)
  (case xNoSteph7=>k_is)
  (case xNoSteph8=>k_is)
  (case xNoSteph9=>k_is)
  (case xNoSteph10=>k_is)
  (case xNoSteph11=>k_is)
  (case xNoSteph12=>k_is)
  (case xNoSteph13=>k_is)
  (case xNoSteph14=>k_is)
  (case xNoSteph15=>exact L3.strKeys_of (by kernel_rfl))
  (case xNoSteph16=>kernel_rfl)
  (case xNoSteph17=>k_is)
  (case xNoSteph18=>k_is)
  (case xNoSteph19=>k_is)
  (case xNoSteph20=>k_is)
  (case xNoStepn0a=>decide +kernel);(case xNoStepn0b=>k_is);(case xNoStepn0c=>k_is);(case xNoStepn0d=>k_is)
  (case xNoStepn1a=>decide +kernel);(case xNoStepn1b=>k_is);(case xNoStepn1c=>k_is);(case xNoStepn1d=>k_is)
  (case xNoStepn2a=>decide +kernel);(case xNoStepn2b=>k_is);(case xNoStepn2c=>k_is);(case xNoStepn2d=>k_is)
  (case xNoStepn3a=>decide +kernel);(case xNoStepn3b=>k_is);(case xNoStepn3c=>k_is);(case xNoStepn3d=>k_is)
  (case xNoStepn4a=>decide +kernel);(case xNoStepn4b=>k_is);(case xNoStepn4c=>k_is);(case xNoStepn4d=>k_is)
  (case xNoStepn5a=>decide +kernel);(case xNoStepn5b=>k_is);(case xNoStepn5c=>k_is);(case xNoStepn5d=>k_is)
  (case xNoStepi1=>k_is);(case xNoStepi2=>k_is);(case xNoStepi3=>exact⟨rfl,rfl,rfl,by decide +kernel,rfl,by decide +kernel,by decide +kernel⟩);(case xNoStepi4=>exact⟨Or.inl rfl,Or.inl rfl⟩);(case xNoStepi5=>decide +kernel);(case xNoStepi6=>exact λus hl=>L3.len2 hl λ_ _=>rfl)
  (case xNoPaperh1=>k_is)
  (case xNoPaperh2=>k_is)
  (case xNoPaperh3=>k_is)
  (case xNoPaperh4=>k_is)
  (case xNoPaperh5=>k_is)
  (case xNoPaperh6=>k_is)
  (case xNoPaperh7=>k_is)
  (case xNoPaperh8=>k_is)
  (case xNoPaperh9=>k_is)
  (case xNoPaperh10=>k_is)
  (case xNoPaperh11=>k_is)
  (case xNoPaperh12=>k_is)
  (case xNoPaperh13=>k_is)
  (case xNoPaperh14=>k_is)
  (case xNoPaperh15=>exact L3.strKeys_of (by kernel_rfl))
  (case xNoPaperh16=>kernel_rfl)
  (case xNoPaperh17=>k_is)
  (case xNoPaperh18=>k_is)
  (case xNoPaperh19=>k_is)
  (case xNoPaperh20=>k_is)
  (case xNoPapern0a=>decide +kernel);(case xNoPapern0b=>k_is);(case xNoPapern0c=>k_is);(case xNoPapern0d=>k_is)
  (case xNoPapern1a=>decide +kernel);(case xNoPapern1b=>k_is);(case xNoPapern1c=>k_is);(case xNoPapern1d=>k_is)
  (case xNoPapern2a=>decide +kernel);(case xNoPapern2b=>k_is);(case xNoPapern2c=>k_is);(case xNoPapern2d=>k_is)
  (case xNoPapern3a=>decide +kernel);(case xNoPapern3b=>k_is);(case xNoPapern3c=>k_is);(case xNoPapern3d=>k_is)
  (case xNoPapern4a=>decide +kernel);(case xNoPapern4b=>k_is);(case xNoPapern4c=>k_is);(case xNoPapern4d=>k_is)
  (case xNoPapern5a=>decide +kernel);(case xNoPapern5b=>k_is);(case xNoPapern5c=>k_is);(case xNoPapern5d=>k_is)
  (case xNoPaperi1=>k_is);(case xNoPaperi2=>k_is);(case xNoPaperi3=>exact⟨rfl,rfl,rfl,by decide +kernel,rfl,by decide +kernel,by decide +kernel⟩);(case xNoPaperi4=>exact⟨Or.inl rfl,Or.inl rfl⟩);(case xNoPaperi5=>decide +kernel);(case xNoPaperi6=>exact λus hl=>L3.len2 hl λ_ _=>rfl)

