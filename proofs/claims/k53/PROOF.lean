import PyProof.Rows.All
import Wide.All
import OpenK.AllK
import Wide.FinOn
import Lean
import PyProof.EqAt
import PyProof.EqKinds
import PyProof.TupleCall
import PyProof.StationsW
import PyProof.ExcClass2
import PyProof.ExcBaseAll.ValueError
import PyProof.InstStoreFacts
import PyProof.RulesAs
import PyProof.NsDelKeeps
import PyProof.P3Eq
import PyProof.P3In
import PyProof.ReprRoads
import PyProof.StrWalks
import PyProof.ListRange
import PyProof.ListStr
import PyProof.ConsumeWalk
import PyProof.MinMaxWalk
import PyProof.NeData
import PyProof.SliceStr2
import PyProof.Rows.SortStr
import PyProof.Rows.StrJoin2
import PyProof.Rows.SeqMore
import PyProof.SeqI3
import PyProof.StrLawsIn
import PyProof.ListMulRoad
import PyProof.StrOps2
import PyProof.ReprBulk
import PySem.Challenge.RW_lostpost_k53_least_words_of_grammars
import PyProof.Rows.SortShellK
import KE.KSortTup
import PyProof.Rows.SetFrom
import PyProof.CollectIter
import PyProof.CollectStr
import PyProof.FactsAll.set
import PySem.SetTable
import PyProof.SetScanFacts
import PyProof.TupleKey
import PyProof.IsRules
import PyProof.DictRoadsH
import KE.KDictOf
import PyProof.AttrMissHeap
import PyProof.DictWalks
import KE.KDictLaws
import PyProof.Rows.SortRuns
import PyProof.Draws
import KE.KRevIter
import PyProof.EnumStmt
import PyProof.JoinWalk
import KE.BitLaws
import PyProof.TupleOfSeq
import PyProof.StrCalls6
import PyProof.StrLawsReplace
import PyProof.ExcAttrAll.ValueError
import PyProof.ExcArgs
import KE.KIsAll
open PyProof.Rows renaming wpS_bind->Uj, wpS_pure->Uk, wpS_forRange->Ut, SortSt->U0, Keyed->U2, wpS_mono->U3, wpS_modify->U4, SortKind->U6, get?_update_seq->UA, failedOf->UD, wpS_get->UL, listUpdate_at->UV, size_push'->Ga, wpS_lift->Gb, AllBare->Gc, call_function_entry_kw->Gm, envOfC->Go, subscriptTail_builtinR->Gp, wpS_reverse->Gw, subscriptTail->G0, listItems_at->GA, seqEpoch_at->GG, IntsAre->GJ
open PySem renaming Value->Uf, PyData->Ug, wpAny_bind->Uh, Shared->Ui, starEach->Ul, Program->Um, wpAny_pure->Uo, World->Uq, sizeLine_eq->Ur, Around->Us, bootBuiltins->Uu, wpAny_mono->Uv, foldedSetIterable->Uw, cellsFrom->Ux, wpAny_Call_Name_kw->Uy, Scope->Uz, rawInt->U1, wpAny_holding->U5, backTo->U7, bindArgs->U8, compareOp->U9, swapsWith->UB, wpAny_passesOwn->UC, assignEach->UE, NameKind->UF, binaryOp->UG, FuncData->UH, codeAmong->UI, wpAny_newObj_type->UJ, sysModules->UK, attributeBase->UM, behindInMarks->UN, pushCells_keeps->UO, builtinsNs->UP, wpAny_rule->UQ, Arguments->UR, sliceBounds->US, codeAny_mono->UT, getItem->UU, letOwnedTupleGo->UW, wpAny_execs_nil->UX, Keyword->UY, newFunctionEnv->UZ, keywordEach->Gd, wpAny_truthy_bool->Ge, assign->Gf, wpAny_newList->Gg, TriplesOk->Gh, noFill_tuple_add->Gi, wpAny_callSpecial?_slot->Gj, IsPart->Gk, codeAny->Gn, wpAny_typeOf->Gq, wpAny_specialOf->Gr, builtinLookup_eq_fast->Gs, slicePicked->Gu, wpAny_loadName_local->Gv, storeName->Gx, valueAt->Gy, seq_tuple_add->Gz, wpAny_attempt->G1, wpAny_standAt->G2, call_meets->G4, typeLookup->G5, wpAny_call->G6, BindsTo->G7, backToKw->G8, concat_meets->G9, seqIndex_neg->GB, Paired->GC, seqIndex?->GD, atKey->GE, cLine->GF, seqIndex_of->GH, wpAny_field->GI, spliced->GK, bindC->GM, bindL->GN
abbrev GO:=@if_pos
abbrev GP:=@if_neg
abbrev GQ:=@of_decide_eq_true
abbrev GT:=@decide_eq_false
abbrev GU:=@decide_eq_true
abbrev GV:=@congrArg
abbrev GW:=@decide_eq_true_eq
abbrev GX:=@if_false
abbrev GY:=@beq_self_eq_true
abbrev GZ:=@if_true
open Array renaming length_toList->Zb, getElem?_eq_getElem->Zz, getElem?_toList->Z3, toList_append->JR, toList_setIfInBounds->Yf, getElem?_eq_none->Y2, toList_push->Vv, toList->Uc
open Bool renaming false_ne_true->Q3, and_eq_true->QR, false_eq_true->Zi, not_eq_true'->ZY, eq_iff_iff->Jz, not_eq_false'->Vl, and_false->VO, or_false->VW
open False renaming elim->Zl
open ForInStep renaming yield->J1
open Int renaming toNat_of_nonneg->ZN, emod_lt_of_pos->ZT, emod_nonneg->Jk
open List renaming getElem?_eq_getElem->Qb, mem_cons_of_mem->Qc, length_map->Qe, length_append->Qf, length_cons->Qi, getElem?_eq_some_iff->Qk, mem_cons_self->Ql, getElem?_map->Qm, mem_singleton->Qn, append_assoc->Qo, replicate->Qp, size_toArray->Qq, getD_eq_getElem?_getD->Qs, mem_append->Qu, mem_append_right->Qw, append_nil->Qx, getElem?_eq_none->Qz, mem_cons->Q0, getElem?_set_self->Q4, mem_of_getElem?->Q5, getElem?_append_left->Q6, range->Q7, length_take->Q8, mem_append_left->Q9, getElem?_append_right->QB, getElem?_set_ne->QC, mem_map->QD, map_append->QE, length_replicate->QG, drop_eq_getElem_cons->QJ, map_cons->QL, mem_of_mem_take->QO, getElem?_replicate->QP, take_length->QT, length_eq_zero_iff->QV, nodup_cons->QW, length_set->QX, eq_nil_of_length_eq_zero->Za, length_drop->Zd, dropLast_concat_getLast->Ze, getD->Zf, take_of_length_le->Zg, take_succ_eq_append_getElem->Zh, getElem?_range->Zk, cons_append->Zn, filter_cons->Zs, not_mem_nil->Zt, lookup_cons_self->Zu, take_append_drop->Zv, ext_getElem?->Zw, drop_eq_nil_of_le->Zx, mem_flatMap->Zy, sublist_append_right->Z0, length_range->Z1, mem_range->Z4, mem_filter->Z6, getElem?_drop->Z7, lookup_cons->Z8, nodup_append->Z9, find?_cons->ZA, pairwise_iff_getElem->ZB, length_singleton->ZC, drop_length->ZF, map_map->ZG, sublist_append_left->ZI, foldl_append->ZL, getElem_of_mem->ZM, filter_append->ZS, flatMap_cons->ZZ, getElem?_cons_succ->Jc, any_eq_true->Jd, drop_zero->Je, drop_drop->Jf, pairwise_cons->Jj, nil_append->Jl, length_filter_le->Jm, mem_iff_getElem?->Jn, mem_of_mem_drop->Jo, all_eq_true->Jr, ext_getElem->Js, reverse_append->Ju, getElem?_take_of_lt->Jv, length_erase_of_mem->Jy, length_nil->J0, getElem_range->J2, length->J4, eraseIdx_cons_succ->J7, pairwise_map->JD, eraseIdxIfInBounds_toArray->JG, perm_append_comm->JI, getElem_mem->JK, mem_erase_of_ne->JN, foldl_cons->JP, filterMap_cons->JQ, flatMap_append->JS, lt_irrefl->Yc, take_zero->Yd, getElem?_take->Ye, getElem?_zip_eq_some->Yg, any_cons->Yk, map_take->Yl, zipIdxLE->Yp, pairwise_mergeSort->Ys, perm_middle->Yt, map_nil->Yx, sublist_cons_self->Y0, length_pos_of_mem->Y1, of_mem_zip->Y4, getElem?_toArray->Y9, take_eq_take_min->YA, set_append_right->YD, not_lt->YL, drop_take->YM, reverse_reverse->YN, drop_set_of_lt->YR, perm_iff_count->YS, mergeSort_perm->YT, lt_of_le_of_lt->YU, take_succ_cons->YV, map_drop->Va, lt_trans->Vb, take_add->Vd, mem_filterMap->Ve, find?_eq_none->Vk, map_inj_right->Vn, map_replicate->Vo, reverse_cons->Vr, take_add_one->Vs, head?_filter->Vu, getElem_inj->V0, map_reverse->V6, mem_reverse->V7, getElem_map->V8, flatMap_nil->VA, forIn_cons->VC, find?_some->VE, any_append->VG, forIn_nil->VQ, take_succ->VT
open List.Perm renaming eq_of_pairwise->Yq, cons->VR
open List.Sublist renaming refl->Vt
open Nat renaming le_refl->Qg, le_trans->Qy, lt_of_lt_of_le->Q2, zero_le->QK, ne_of_lt->QN, lt_irrefl->QY, lt_or_ge->Zp, mul_le_mul_right->ZJ, le_of_succ_le->ZX, mul_le_mul->Jp, le_of_not_lt->Jq, add_mul->J8, le_of_lt->J9, lt_succ_of_lt->JB, add_zero->JE, zero_add->JF, le_succ->Yi, lt_of_succ_lt->Yj, sub_zero->Yy, one_mul->YO, lt_of_le_of_ne->Vi, add_sub_cancel->Vm, lt_trichotomy->Vw, mul_comm->Vx, min_le_right->V2, le_add_right->V9, le_zero->VB, min_eq_left->VH
open Ne renaming symm->Zr
open Option renaming map_eq_some_iff->Qt, none->QF, isSome_iff_exists->Z5, map_some->ZV, isSome_some->Vh, getD_none->V3, getD_some->V5
open Option.some renaming inj->QZ
open Prod renaming ext->VN
open PyProof.Rows renaming slot_tuple_getitem->Zj, callWith_type1->ZO, callWith_builtin1->JJ, ksk_tree->YE, ksk_rest->YF, ksk_s1->YW, ksk_l1->YX, ksk_t1->YY
open PyProof.Rows.IsTup renaming new->VZ
open PySem renaming Spec->Qh, mem_of_lookup->Zc, Builtin->JM, SetTable->VI, call->VP, Within->Ub
open PySem.Around renaming frames_deeper->YH
open PySem.Builtin.List renaming listTooLong->Jx, listLengthHint->JX, listSameRef->Yo
open PySem.Builtin.Slice renaming slicePlaces->ZU, sliceAdjust->Jt, sliceApplied->JZ
open PySem.Builtin.Str renaming strSliceIndices->JV, occurrences->Yr
open PySem.Builtin.Tuple renaming tupleExact->Ja, tupleItemsOf->Ya
open PySem.Calls renaming spliced_cons->ZE, spliced_nil->ZW, Name_function_global->JY, callWith_builtin->Yw, evalArgs_plain->YI
open PySem.F renaming plainAttrs_list->ZK, args_tuple_add_2->Jw, entry_tuple_add->J5, slot_tuple_add->JA, slot_list_extend->Ym, type_list_extend->Yn, slot_list_pop->YB, type_list_pop->YC, entry_list_pop->V4
open PySem.Heap renaming get?_push_of_some->Qj, lt_size->Qv, get?_push_size->Q1, get?_update_ne->QI, size_push->Zm, get?_update_other->ZP, size_update->JL, SameBut->JT, get?_update_self->Y8
open PySem.Heap.Ns renaming new->Ue
open PySem.NameKind renaming free->QM, cell->QU
open PySem.Obj renaming mapSeq->QS
open PySem.Paired renaming length->YZ, snoc->Ud
open PySem.PassesOwn renaming never->Y5
open PySem.PyData renaming eqv->QH, eqvAll->ZH, strOk->Ji, canLayAll0->JC, leavesShortAll->JH, list->JO, depth->JW, showableAll->Yb, int->Yz, depthAll->Y6, canLay0->YJ, bulkAll->YK, leavesShort->Vj, showable->VD, str->VS
open PySem.Str renaming empty->Z2, ofString->JU, length->Vg
open PySem.Txt renaming find3->Ua
open PySem.Value renaming ref->ZD, bool->Jg, type->Yv, int->Vy, str->Vz, none->VJ, isStrOf->VU
open PySem.W renaming Frag->Qa, mg_none_of->QA, nsIn->QQ, fnOf->Zo, kia_one->Zq, keepIn->ZR, codeIn->Jb, cellsFrom_some->Jh, methodObj->Yh, instObj->Y3, OpenLaw->Y7, lookIn->YG, mg_of->Vc, kitx_tuple->Vf, kitx_list->Vp, kitx_dict->Vq, plainGet->V1, kla_obj->VF, findIn->VL, kitOne->VM, WalkO->VX, tabIn->VY
open Sum renaming inr->Yu, inl->YQ
open True renaming intro->ZQ
set_option autoImplicit true
set_option relaxedAutoImplicit true
set_option Elab.async false
set_option linter.all false
set_option maxRecDepth 100000
local macro_rules|`(tactic|lia)=>`(tactic|first|with_reducible(first|assumption|exact Nat.le_refl _|exact Nat.zero_le _|exact Nat.le_of_lt ‹_›|exact Nat.le_succ_of_le ‹_›|exact Nat.lt_succ_of_lt ‹_›|exact Nat.lt_of_succ_lt ‹_›|exact Nat.lt_succ_of_le ‹_›|exact Nat.le_of_lt_succ ‹_›|exact Nat.pos_of_ne_zero ‹_›|exact Nat.ne_of_gt ‹_›|exact Nat.ne_of_lt ‹_›|exact Nat.le_of_not_lt ‹_›|exact Nat.lt_of_not_le ‹_›|exact Nat.succ_pos _|exact Nat.lt_succ_self _|exact Nat.lt_of_lt_of_le ‹_› ‹_›|exact Nat.lt_of_le_of_lt ‹_› ‹_›|exact Nat.le_trans ‹_› ‹_›)|grind -ring -linarith -ac -order -mbtc -ext -funext -funCC -etaStruct (ematch:=0) [-Prod]|cutsat)
local macro_rules|`(tactic|ac_rfl)=>`(tactic|(repeat infer_instance))
namespace L2
open PySem PySem.Spec PyProof.Rows
abbrev Key:=Sum Int Str
def zf5:Key->Uf->Bool
 | .inl k,v=>Value.isInt k v
 | .inr x,v=>VU x v
def keyH(w:Uq):Key->Int
 | .inl k=>hashInt k
 | .inr x=>hashStr w x
theorem zbf:∀{k:Key} {v:Uf},zf5 k v=true->(∃i t,k=YQ i/\v=Vy i t)\/(∃x t,k=Yu x/\v=Vz x t)
 | .inl i,v,h=>by
   obtain⟨t,e⟩:=Value.isInt_shape (k:=i) (v:=v) h;exact .inl ⟨i,t,rfl,e⟩
 | .inr x,v,h=>by
   obtain⟨t,e⟩:=Value.isStrOf_shape (x:=x) (v:=v) h;exact .inr ⟨x,t,rfl,e⟩
theorem zqb(i:Int)(t:Tok):zf5 (.inl i) (.int i t)=true:=by simp[zf5,Value.isInt]
theorem zq2(x:Str)(t:Tok):zf5 (.inr x) (.str x t)=true:=by simp[zf5,VU]
theorem zxs(a b:Int):decide ((YQ a:Key)=YQ b)=(a == b):=by
 by_cases e:a=b
 .subst e;simp
 .have h:¬(YQ a:Key)=YQ b:=λq=>e (Sum.inl.inj q);rw[GT h];exact(beq_eq_false_iff_ne.mpr e).symm
theorem zy2(a b:Str):decide ((Yu a:Key)=Yu b)=decide (a=b):=by
 by_cases e:a=b
 .subst e;simp
 .have h:¬(Yu a:Key)=Yu b:=λq=>e (Sum.inr.inj q);rw[GT h,GT e]
theorem zw7(a:Int)(b:Str):decide ((YQ a:Key)=Yu b)=false:=GT (λq=>nomatch q)
theorem zxr(a:Str)(b:Int):decide ((Yu a:Key)=YQ b)=false:=GT (λq=>nomatch q)
def zbb(prog:Um)(w:Uq):PySem.KeyKind prog w Key where
 is:=zf5
 hash:=keyH w
 inj:=λv a b ha hb=>by
  rcases zbf ha with ⟨i,t,rfl,rfl⟩|⟨x,t,rfl,rfl⟩
  .rcases zbf hb with ⟨j,u,rfl,e⟩|⟨y,u,rfl,e⟩
   .injection e with e1 _;rw[e1]
   .exact nomatch e
  .rcases zbf hb with ⟨j,u,rfl,e⟩|⟨y,u,rfl,e⟩
   .exact nomatch e
   .injection e with e1 _;rw[e1]
 byValue:=λk v h=>by
  rcases zbf h with ⟨i,t,rfl,rfl⟩|⟨x,t,rfl,rfl⟩ <;> rfl
 pyHash:=λhv h=>by
  rcases zbf hv with ⟨i,t,rfl,rfl⟩|⟨x,t,rfl,rfl⟩
  .exact wpAny_pyHash_int h
  .exact wpAny_pyHash_str h
 eqBool:=λhu hv h=>by
  rcases zbf hu with ⟨i,t,rfl,rfl⟩|⟨x,t,rfl,rfl⟩
  .rcases zbf hv with ⟨j,u,rfl,rfl⟩|⟨y,u,rfl,rfl⟩
   .rw[zxs] at h;exact wpAny_eqBool_int h
   .rw[zw7] at h;exact SeqAt.EqAt.int_str i t y u _ _ _ _ h
  .rcases zbf hv with ⟨j,u,rfl,rfl⟩|⟨y,u,rfl,rfl⟩
   .rw[zxr] at h;exact SeqAt.EqAt.str_int x t j u _ _ _ _ h
   .rw[zy2] at h;exact wpAny_eqBool_str h
 «strs»:=λk x t v h=>by
  rcases zbf h with ⟨i,u,rfl,e⟩|⟨y,u,rfl,e⟩
  .exact nomatch e
  .injection e with e1 _;subst e1;cases v <;> rfl
theorem zm0(prog:Um)(w:Uq)(i:Int)(t:Tok):(zbb prog w).is (.inl i) (.int i t)=true:=zqb i t
theorem zmw(prog:Um)(w:Uq)(x:Str)(t:Tok):(zbb prog w).is (.inr x) (.str x t)=true:=zq2 x t
inductive V where
 | non|bl (b:Bool)|int (i:Int)|str (x:Str)|byt (b:Array UInt8)|flt (b:UInt64)|ref (a:Addr)|ty (n:String)
 deriving DecidableEq
def RelV:V->Uf->Prop
 | .non,u=>u=VJ
 | .bl b,u=>u=Jg b
 | .int i,u=>∃t,u=Vy i t
 | .str x,u=>∃t,u=Vz x t
 | .byt b,u=>∃t,u=Value.bytes b t
 | .flt b,u=>∃t,u=Value.float b t
 | .ref a,u=>u=ZD a
 | .ty n,u=>u=Yv n
abbrev Vals:List V->List Uf->Prop:=GC RelV
theorem Vals.length(r:Vals xs us):xs.length=us.length:=YZ r
theorem Vals.get:∀{xs:List V} {us:List Uf} {i:Nat} {x:V},Vals xs us->xs[i]? = some x->∃u,us[i]? = some u/\RelV x u
 | _,_,_,_,.nil,e=>by simp at e
 | _,_,0,_,.cons r _,e=>by simp at e;subst e;exact⟨_,rfl,r⟩
 | _,_,i+1,x,.cons _ t,e=>by
   obtain⟨u,h1,h2⟩:=Vals.get (i:=i) (x:=x) t (by simpa using e);exact⟨u,by simpa using h1,h2⟩
theorem Vals.set(r:RelV x u):∀{xs:List V} {us:List Uf} (i:Nat),Vals xs us->Vals (xs.set i x) (us.set i u)
 | _,_,_,.nil=>.nil
 | _,_,0,.cons _ t=>.cons r t
 | _,_,i+1,.cons q t=>.cons q (Vals.set r i t)
theorem Vals.append:∀{xs ys:List V} {us ws:List Uf},Vals xs us->Vals ys ws->Vals (xs++ys) (us++ws)
 | _,_,_,_,.nil,s=>s
 | _,_,_,_,.cons r t,s=>.cons r (Vals.append t s)
theorem Vals.take:∀{xs:List V} {us:List Uf} (n:Nat),Vals xs us->Vals (xs.take n) (us.take n)
 | _,_,0,_=>.nil
 | _,_,_+1,.nil=>.nil
 | _,_,n+1,.cons r t=>.cons r (Vals.take n t)
theorem Vals.drop:∀{xs:List V} {us:List Uf} (n:Nat),Vals xs us->Vals (xs.drop n) (us.drop n)
 | _,_,0,r=>r
 | _,_,_+1,.nil=>.nil
 | _,_,n+1,.cons _ t=>Vals.drop n t
def RelO:Option V->Option Uf->Prop
 | some v,some u=>RelV v u
 | none,none=>True
 | _,_=>False
def KV{κ:Type}:List (κ×V)->List (κ×Uf)->Prop:=GC λ(p:κ×V) (q:κ×Uf)=>p.1=q.1/\RelV p.2 q.2
def kV:Key->V
 | .inl i=>.int i
 | .inr x=>.str x
inductive HO where
 | lst (xs:List V)
 | tup (xs:List V)
 | dK (kvs:List (Key×V))|dT (kvs:List (List Key×V))
 | set (S:Int->Bool) (n:Nat)
 | ins (C dx:Addr) (fs:List (Str×V))
 | own (x:Addr)
 | xd (fs:List (Str×V))
 | met (f x:Addr)
 | rng (lo hi:Int)
 | frz (o:Obj) (u:HO)
 | tbl (ps:Array Uf)
 | cod (ps:Array Uf) (qs:List (Pos×Str))
 | ext (φ:Heap->Prop)
abbrev Hp:=Addr->Option HO
def upd(H:Hp)(a:Addr)(o:HO):Hp:=λb=>if b=a then some o else H b
theorem zac: upd H a o a=some o:=by unfold upd;rw[GO rfl]
theorem zaa(h:b≠a):upd H a o b=H b:=by unfold upd;rw[GP h]
theorem z0f{H:Hp}{a b:Addr}{o u:HO}(h:H a=some o)(h':H b=some u)(d:o≠u):a≠b:=by
 intro e;subst e;rw[h] at h';exact d (QZ h')
theorem zar{H:Hp}{a b:Addr}{o:HO}(h:H a=some o)(h':H b=none):a≠b:=by
 intro e;subst e;rw[h] at h';cases h'
section
variable (P:Um)(w:Uq)
def z0i(H:Hp)(cv:Uf)(q:Str):Prop:=∃(c:Addr) (oc:Obj) (vs:Array Uf) (t:Tok),cv = .ref c/\H c=some (.frz oc (.own 0))/\oc.data = .fields vs/\vs[1]? = some (.str q t)
def ObjOk(H:Hp)(h:Heap)(a:Addr):HO->Prop
 | .lst xs=>xs.length<=sizeLine/\∃(its:List Uf) (n:Nat),Vals xs its/\h.get? a=some { cls:=.type "list",data:=.seq its.toArray n }
 | .tup xs=>xs.length<=sizeLine/\∃its:List Uf,Vals xs its/\IsTup h a its.toArray
 | .dK kvs=>kvs.length<=sizeLine/\(a == UK)=false/\∃vs,KV kvs vs/\h.DictOf (zbb P w) a vs
 | .dT kvs=>kvs.length<=sizeLine/\(a == UK)=false/\∃xs:List (List Key×Addr×Uf),
  GC (λ(p:List Key×V) (q:List Key×Addr×Uf)=>p.1=q.1/\H q.2.1=some (.tup (p.1.map kV))/\RelV p.2 q.2.2) kvs xs /\
  ∃o es ep,h.get? a=some o/\o.ExactDict/\o.data = .dict es ep/\es.toList=xs.map (entryOfKey (tupleKind (zbb P w)))/\(xs.map (·.1)).Nodup
 | .set S n=>h.SetOf (intKind P w) a S n
 | .ins C dx fs=>H dx=some (.own a)/\fs.length<=1000/\dx≠a/\h.get? a=some (Y3 C dx) /\
  ∃mA,h.Ns1 dx mA/\(∀f,RelO (fs.lookup f) (mA f))/\Ub mA (fs.map (·.1))
 | .own _=>∃o,h.get? a=some o
 | .xd fs=>∃mA,h.Ns1 a mA/\∀f,RelO (fs.lookup f) (mA f)
 | .rng lo hi=>∃t u v,h.get? a=some { cls:=.type "range",data:=.fields #[.int lo t,.int hi u,.int 1 v] }
 | .frz o u=>h.get? a=some o/\ObjOk H h a u
 | .tbl ps=>h.get? a=some { cls:=.none,data:=.fields ps }
 | .cod ps qs=>h.get? a=some { cls:=.none,data:=.fields ps }/\Gh ps.toList/\∀p∈qs,∀cv,UI p.1 ps.toList=some cv->z0i H cv p.2
 | .met f x=>h.get? a=some (Yh (.ref f) (.ref x))
 | .ext φ=>φ h/\(∃o,h.get? a=some o)/\∀h1 h2:Heap,φ h1->(∀o,h1.get? a=some o->h2.get? a=some o)->φ h2
def HOk(H:Hp)(h:Heap):Prop:=∀a o,H a=some o->ObjOk P w H h a o
end
section
variable {P:Um}{w:Uq}{H H':Hp}{h h':Heap}{a:Addr}{o:HO}
theorem ObjOk.lt(x:ObjOk P w H h a o):a<h.objs.size:=by
 cases o with
 | lst xs=>obtain⟨_,_,_,_,e⟩:=x;exact Qv e
 | tup xs=>obtain⟨_,_,_,p⟩:=x;exact p.lt
 | dK kvs=>obtain⟨_,_,_,_,o,_,_,e,_⟩:=x;exact Qv e
 | dT kvs=>obtain⟨_,_,_,_,o,_,_,e,_⟩:=x;exact Qv e
 | set S n=>obtain⟨o,_,_,_,e,_⟩:=x;exact Qv e
 | ins C dx fs=>obtain⟨_,_,_,e,_⟩:=x;exact Qv e
 | own y=>obtain⟨_,e⟩:=x;exact Qv e
 | xd fs=>obtain⟨_,⟨_,_,_,e,_⟩,_⟩:=x;exact Qv e
 | rng lo hi=>obtain⟨_,_,_,e⟩:=x;exact Qv e
 | frz ob u=>obtain⟨e,_⟩:=x;exact Qv e
 | tbl ps=>exact Qv (show h.get? a=some _ from x)
 | cod ps qs=>exact Qv x.1
 | met f y=>exact Qv (show h.get? a=some _ from x)
 | ext φ=>obtain⟨_,⟨_,e⟩,_⟩:=x;exact Qv e
theorem Paired.mapP{α β:Type}{F G:α->β->Prop}:∀{l₁:List α} {l₂:List β},GC F l₁ l₂->(∀a b,F a b->G a b)->GC G l₁ l₂
 | _,_,.nil,_=>.nil
 | _,_,.cons r t,f=>.cons (f _ _ r) (Paired.mapP t f)
theorem ObjOk.stay(x:ObjOk P w H h a o)(k:∀b u,(b=a\/H b=some (.own a))->h.get? b=some u->h'.get? b=some u)
 (ho:∀b,H b=some (.own a)->H' b=some (.own a)) (ht:∀b xs,H b=some (.tup xs)->H' b=some (.tup xs)) (hf:∀b o,H b=some (.frz o (.own 0))->H' b=some (.frz o (.own 0))):ObjOk P w H' h' a o:=by
 induction o with
 | lst xs=>obtain⟨z,its,n,r,e⟩:=x;exact⟨z,its,n,r,k _ _ (.inl rfl) e⟩
 | tup xs=>obtain⟨z,its,r,ob,e,c⟩:=x;exact⟨z,its,r,ob,k _ _ (.inl rfl) e,c⟩
 | dK kvs=>obtain⟨z,y,vs,r,ob,es,ep,e,c⟩:=x;exact⟨z,y,vs,r,ob,es,ep,k _ _ (.inl rfl) e,c⟩
 | dT kvs=>
   obtain⟨z,y,xs,r,ob,es,ep,e,c⟩:=x;exact⟨z,y,xs,Paired.mapP r λp q z=>⟨z.1,ht _ _ z.2.1,z.2.2⟩,ob,es,ep,k _ _ (.inl rfl) e,c⟩
 | set S n=>obtain⟨ob,es,ep,t,e,c⟩:=x;exact⟨ob,es,ep,t,k _ _ (.inl rfl) e,c⟩
 | ins C dx fs=>
   obtain⟨d,z,ne,e,mA,⟨od,es,ep,e2,c⟩,r⟩:=x;exact⟨ho _ d,z,ne,k _ _ (.inl rfl) e,mA,⟨od,es,ep,k _ _ (.inr d) e2,c⟩,r⟩
 | own y=>obtain⟨ob,e⟩:=x;exact⟨ob,k _ _ (.inl rfl) e⟩
 | xd fs=>obtain⟨mA,⟨od,es,ep,e,c⟩,r⟩:=x;exact⟨mA,⟨od,es,ep,k _ _ (.inl rfl) e,c⟩,r⟩
 | rng lo hi=>obtain⟨t,u,v,e⟩:=x;exact⟨t,u,v,k _ _ (.inl rfl) e⟩
 | frz ob u ih=>obtain⟨e,q⟩:=x;exact⟨k _ _ (.inl rfl) e,ih q⟩
 | tbl ps=>
   have e:h.get? a=some { cls:=.none,data:=.fields ps }:=x;show h'.get? a=some { cls:=.none,data:=.fields ps };exact k a _ (.inl rfl) e
 | cod ps qs=>obtain⟨e,t,z⟩:=x;exact⟨k _ _ (.inl rfl) e,t,λp hp cv hc=>let ⟨c,oc,vs,tk,a1,a2,a3⟩:=z p hp cv hc;⟨c,oc,vs,tk,a1,hf _ _ a2,a3⟩⟩
 | met f y=>
   have e:h.get? a=some (Yh (.ref f) (.ref y)):=x;show h'.get? a=some (Yh (.ref f) (.ref y));exact k a _ (.inl rfl) e
 | ext φ=>obtain⟨p,⟨o,e⟩,st⟩:=x;exact⟨st _ _ p λo q=>k _ _ (.inl rfl) q,⟨o,k _ _ (.inl rfl) e⟩,st⟩
theorem HOk.lt(x:HOk P w H h)(e:H a=some o):a<h.objs.size:=(x a o e).lt
theorem HOk.fresh(x:HOk P w H h)(e:h.objs.size<=a):H a=none:=by
 cases q:H a with
 | none=>rfl
 | some u=>exact absurd (Q2 (x.lt q) e) (QY _)
theorem HOk.kept(x:HOk P w H h)(k:∀b u,h.get? b=some u->h'.get? b=some u):HOk P w H h':=λa o e=>
 (x a o e).stay (λb u _ q=>k b u q) (λ_ q=>q) (λ_ _ q=>q) λ_ _ q=>q
theorem HOk.laid(x:HOk P w H h)(k:∀b u,h.get? b=some u->h'.get? b=some u)(hp:h.objs.size<=a)(new:ObjOk P w (upd H a o) h' a o):HOk P w (upd H a o) h':=λb u e=>by
 have hn:=x.fresh hp
 by_cases hb:b=a
 .subst hb;rw[zac] at e;cases e;exact new
 .rw[zaa hb] at e;exact(x b u e).stay (λc v _ q=>k c v q) (λc q=>by rw[zaa (zar q hn)];exact q) (λc xs q=>by rw[zaa (zar q hn)];exact q) λc oc q=>by rw[zaa (zar q hn)];exact q
end
def Rd(H:Hp)(a:Addr)(u:HO):Prop:=H a=some u\/∃o,H a=some (.frz o u)
theorem Rd.ok(r:Rd H a u)(x:HOk P w H h):ObjOk P w H h a u:=by
 rcases r with r|⟨o,r⟩
 .exact x a u r
 .obtain⟨_,q⟩:=x a _ r;exact q
def Mut:Option HO->Prop
 | some (.lst _)=>True
 | some (.dK _)=>True
 | some (.dT _)=>True
 | some (.set _ _)=>True
 | some (.ins _ _ _)=>True
 | some (.ext _)=>True
 | _=>False
section
variable {P:Um}{w:Uq}{H:Hp}{h h':Heap}{x e:Addr}{o':HO}
theorem HOk.write(ok:HOk P w H h)(mu:Mut (H x))(he:e=x\/H e=some (.own x))(k:∀b u,b≠e->h.get? b=some u->h'.get? b=some u)(heo:∃u,h'.get? e=some u)
 (new:ObjOk P w (upd H x o') h' x o'):HOk P w (upd H x o') h':=λb u q=>by
 have nown:∀c y,H c=some (.own y)->c≠x:=λc y r z=>by subst z;rw[r] at mu;exact mu
 have ntup:∀c xs,H c=some (.tup xs)->c≠x:=λc xs r z=>by subst z;rw[r] at mu;exact mu
 have nfrz:∀c oc u,H c=some (.frz oc u)->c≠x:=λc oc u r z=>by subst z;rw[r] at mu;exact mu
 by_cases hb:b=x
 .subst hb;rw[zac] at q;cases q;exact new
 .rw[zaa hb] at q
  by_cases hbe:b=e
  .have q':H b=some (.own x):=by
    rcases he with z|z
    .exact absurd (hbe.trans z) hb
    .rw[hbe];exact z
   rw[q] at q';cases q';obtain⟨v,hv⟩:=heo;exact⟨v,by rw[hbe];exact hv⟩
  .refine(ok b u q).stay (λc v hc r=>k c v ?_ r) (λc r=>by rw[zaa (nown c b r)];exact r) (λc xs r=>by rw[zaa (ntup c xs r)];exact r) λc oc r=>by rw[zaa (nfrz c oc _ r)];exact r
   rcases hc with rfl|hc
   .exact hbe
   .rintro rfl;rcases he with z|z
    .exact nown c b hc z
    .rw[hc] at z;cases z;exact hb rfl
end
structure Un(fs ex:List Addr)(H H':Hp)(h h':Heap):Prop where
 keep:∀b o,h.get? b=some o->H b=none->b ∉ fs->b ∉ ex->h'.get? b=some o
 slot:∀b o,h.get? b=some o->H b=none->b∈fs->b ∉ ex->∃sl,h'.get? b=some { o with slots:=sl }
 free:∀b o,h.get? b=some o->H b=none->b ∉ ex->H' b=none
 there:∀b o,h.get? b=some o->b ∉ ex->∃o',h'.get? b=some o'
 tups:∀b xs,H b=some (.tup xs)->H' b=some (.tup xs)
 frzs:∀b o u,H b=some (.frz o u)->H' b=some (.frz o u)
 tbls:∀b ps,H b=some (.tbl ps)->∃more,H' b=some (.tbl (ps++more))
section
variable {fs fs' ex ex':List Addr}{H H1 H2:Hp}{h h1 h2 h':Heap}{a x e:Addr}{o:HO}
theorem Un.any(u:Un fs ex H H1 h h1)(q:h.get? b=some ob)(n:H b=none)(hx:b ∉ ex):∃sl,h1.get? b=some { ob with slots:=sl }:=by
 by_cases hb:b∈fs
 .exact u.slot b ob q n hb hx
 .exact⟨ob.slots,u.keep b ob q n hb hx⟩
theorem Un.kept(k:∀b u,h.get? b=some u->h'.get? b=some u):Un fs ex H H h h' :=
 ⟨λb ob q _ _ _=>k b ob q,λb ob q _ _ _=>⟨ob.slots,k b ob q⟩,λ_ _ _ n _=>n,λb ob q _=>⟨ob,k b ob q⟩,λ_ _ q=>q,λ_ _ _ q=>q,λ_ ps q=>⟨#[],by rw[q];simp⟩⟩
theorem Un.refl:Un fs ex H H h h:=Un.kept λ_ _ q=>q
theorem Un.laid(k:∀b u,h.get? b=some u->h'.get? b=some u)(hp:h.objs.size<=a)(hn:H a=none):Un fs ex H (upd H a o) h h' where
 keep:=λb u q _ _ _=>k b u q
 slot:=λb u q _ _ _=>⟨u.slots,k b u q⟩
 free:=λb u q n _=>by rw[zaa (QN (Q2 (Qv q) hp))];exact n
 there:=λb u q _=>⟨u,k b u q⟩
 tups:=λb xs q=>by rw[zaa (zar q hn)];exact q
 frzs:=λb u xs q=>by rw[zaa (zar q hn)];exact q
 tbls:=λb ps q=>⟨#[],by rw[zaa (zar q hn),q];simp⟩
theorem Un.write(mu:Mut (H x))(he:e=x\/H e=some (.own x))(k:∀b u,b≠e->h.get? b=some u->h'.get? b=some u)(heo:∃u,h'.get? e=some u):Un fs ex H (upd H x o) h h':=by
 have hx:∀b,H b=none->b≠x:=λb n z=>by subst z;rw[n] at mu;exact mu
 have hb:∀b,H b=none->b≠e:=λb n z=>by
  subst z;rcases he with r|r
  .exact hx b n r
  .rw[n] at r;cases r
 have hm:∀b u,H b=some u->¬Mut (some u)->b≠x:=λb u q nm z=>by subst z;rw[q] at mu;exact nm mu
 refine⟨λb u q n _ _=>k b u (hb b n) q,λb u q n _ _=>⟨u.slots,k b u (hb b n) q⟩,λb u q n _=>by rw[zaa (hx b n)];exact n,λb u q _=>?_,
  λb xs q=>by rw[zaa (hm b _ q λz=>z)];exact q,λb u xs q=>by rw[zaa (hm b _ q λz=>z)];exact q,λb ps q=>⟨#[],by rw[zaa (hm b _ q λz=>z),q];simp⟩⟩
 by_cases hbe:b=e
 .subst hbe;exact heo
 .exact⟨u,k b u hbe q⟩
end
def trk(h:Heap)(H:Hp):List Addr:=(Q7 h.objs.size).filter λa=>(H a).isSome
def hidT(h:Heap)(H:Hp):Heap:=PySem.W.hideAll h (trk h H)
theorem zp2(h:Heap)(H:Hp):(hidT h H).objs.size=h.objs.size:=PySem.W.hideAll_size _ _
theorem zsg(e:h.get? b=some o)(n:H b=none):(hidT h H).get? b=some o :=
 PySem.W.hideAll_get _ e λhm=>by
  have q:(H b).isSome=true:=(Z6.mp hm).2;rw[n] at q;simp at q
theorem zvq(e:(hidT h H).get? b=some o):h.get? b=some o/\H b=none:=by
 have e':h.get? b=some o:=PySem.W.of_hideAll (trk h H) e;refine⟨e',?_⟩
 cases q:H b with
 | none=>rfl
 | some x=>
   have hm:b∈trk h H:=Z6.mpr ⟨Z4.mpr (Qv e'),by simp[q]⟩;have z:(hidT h H).get? b=none:=PySem.W.hideAll_none (trk h H) hm;rw[z] at e;cases e
structure Mod(K:Qa)(mg:Str->Option Uf)(base:Heap):Prop where
 kin:K.In base
 glob:base.Ns mainGlobals mg
 blt:∃mb,base.Ns UP mb/\∀x:Str,x ≠ "__name__" -> mb x=Uu x
 nolimit:base.NoLimit
structure Cx where
 prog:Um
 w:Uq
 K:Qa
 mg:Str->Option Uf
 base:Heap
 A:Us
 N:List Str
 s₀:Ui
 H₀:Hp
 env:Env
 outer:List Env
 stack:List Env
 ex:List Addr
 fn:Str->Bool
 calm:Bool
 pn:List (Addr×Obj)
 xe:Uf->Ui->Prop
def frs(l:List Env):List Addr:=l.filterMap (·.frame)
abbrev Cx.fs(X:Cx):List Addr:=frs X.outer
def Vis(sc:Uz)(x:Str):Prop:=sc.names.lookup x=some .local\/sc.names.lookup x=some .cell\/sc.names.lookup x=some .free
def Loc(sc:Uz)(x:Str):Prop:=sc.names.lookup x=some .local\/sc.names.lookup x=some .cell
def Look(env:Env)(h:Heap)(m:Str->Option Uf)(x:Str)(u:Uf):Prop :=
 (env.kindOf x=some .local/\m x=some u)\/((env.kindOf x=some .cell\/env.kindOf x=some .free)/\∃c,env.cells.lookup x=some c/\h.IsCell c (some u))
structure Cx.Ok(X:Cx):Prop where
 mod:Mod X.K X.mg X.base
 kind:X.env.scope.kind = .function
 glob:X.env.globals=mainGlobals
 blt:X.env.builtins=UP
 above:X.s₀.heap.objs.size<=X.env.locals
 inj:∀x y c,X.env.cells.lookup x=some c->X.env.cells.lookup y=some c->x=y
 has:∀x,(X.env.kindOf x=some .cell\/X.env.kindOf x=some .free)->∃c,X.env.cells.lookup x=some c
 cab:∀x c,X.fn x=true->X.env.cells.lookup x=some c->X.s₀.heap.objs.size<=c
 hd:X.calm=true->X.A.handled=none
 frames:X.A.frames=some X.stack
 stk:X.stack=X.outer\/(X.stack=X.env::X.outer/\X.env.frame=some X.env.locals)
 exf:∀b∈X.ex,b≠X.env.locals/\∀x c,X.env.cells.lookup x=some c->c≠b
 bs:∀b o,X.base.get? b=some o->X.s₀.heap.get? b=some o/\X.H₀ b=none
 bsz:X.base.objs.size<=X.s₀.heap.objs.size
 noex:∀b o,X.base.get? b=some o->b ∉ X.ex
 exfs:∀b∈X.ex,b ∉ X.fs
 funs:X.s₀.heap.FunFrames X.base X.outer
 frf:∀b∈X.fs,X.H₀ b=none
structure Inv(X:Cx)(pins:List (Addr×Obj))(σ:List (Option V))(H:Hp)(s:Ui):Prop where
 ok:X.Ok
 os:s.os=X.s₀.os
 bare:Gc s.gens
 base:Un X.fs X.ex X.H₀ H X.s₀.heap s.heap
 loc:∃m,s.heap.Ns X.env.locals m/\∀(i:Nat) (x:Str) (v:V),X.N[i]? = some x->σ[i]? = some (some v)->Vis X.env.scope x->∃u,RelV v u/\Look X.env s.heap m x u
 cell:∀x c,X.env.cells.lookup x=some c->∃v,s.heap.IsCell c v
 free:H X.env.locals=none
 freeC:∀x c,X.env.cells.lookup x=some c->H c=none
 pin:∀p∈X.pn++pins,s.heap.get? p.1=some p.2/\H p.1=none/\p.1≠X.env.locals/\p.1 ∉ X.fs/\∀v,p.2.data≠.cell v
 hok:HOk X.prog X.w H s.heap
 len:σ.length=X.N.length
section
variable {X:Cx}{pins:List (Addr×Obj)}{σ:List (Option V)}{H H':Hp}{s:Ui}{h':Heap}
theorem Cx.Ok.nofr(ok:X.Ok)(e:X.base.get? b=some o):b ∉ X.fs:=λhb=>by
 have:=(ok.funs.mem hb).1;rw[e] at this;cases this
theorem Inv.bs(I:Inv X pins σ H s):∀b o,X.base.get? b=some o->s.heap.get? b=some o/\H b=none:=λb o e=>
 ⟨I.base.keep b o (I.ok.bs b o e).1 (I.ok.bs b o e).2 (I.ok.nofr e) (I.ok.noex b o e),I.base.free b o (I.ok.bs b o e).1 (I.ok.bs b o e).2 (I.ok.noex b o e)⟩
theorem Inv.bk(I:Inv X pins σ H s):∀b o,X.base.get? b=some o->s.heap.get? b=some o:=λb o e=>(I.bs b o e).1
theorem Inv.mod(I:Inv X pins σ H s):Mod X.K X.mg X.base:=I.ok.mod
theorem Inv.kIn(I:Inv X pins σ H s):X.K.In s.heap:=I.ok.mod.kin.keeps I.bk
theorem Inv.nolimit(I:Inv X pins σ H s):s.heap.NoLimit:=I.ok.mod.nolimit.keeps I.bk
theorem Inv.lt(I:Inv X pins σ H s):X.env.locals<s.heap.objs.size:=let ⟨_,hn,_⟩:=I.loc;hn.lt
theorem Inv.sz(I:Inv X pins σ H s):X.s₀.heap.objs.size<=s.heap.objs.size:=Qy I.ok.above (J9 I.lt)
theorem Inv.nofs(I:Inv X pins σ H s)(h:s.heap.objs.size<=a):a ∉ X.fs:=λhb=>by
 obtain⟨_,o,ho,_⟩:=I.ok.funs.mem hb;exact absurd (Q2 (Qv ho) (Qy I.sz h)) (QY _)
theorem Inv.cne(I:Inv X pins σ H s):∀x c,X.env.cells.lookup x=some c->c≠X.env.locals:=λx c e z=>by
 obtain⟨v,o,ho,hd⟩:=I.cell x c e;obtain⟨m,⟨o',es,ep,ho',hd',_⟩,_⟩:=I.loc;rw[z,ho'] at ho;cases ho;rw[hd'] at hd;cases hd
theorem Inv.funs(I:Inv X pins σ H s):s.heap.FunFrames X.base X.outer:=by
 have all:∀(l:List Env),(∀b∈frs l,b∈X.fs)->X.s₀.heap.FunFrames X.base l->s.heap.FunFrames X.base l:=by
  intro l
  induction l with
  | nil=>intro _ _;trivial
  | cons env r ih=>
    intro hs hl;obtain⟨hk,⟨L,o,hf,hn,ho,hd⟩,hr⟩:=hl;have hL:L∈X.fs:=hs L (by unfold frs;rw[JQ,hf];exact Ql);obtain⟨sl,e⟩:=I.base.slot L o ho (I.ok.frf L hL) hL λz=>I.ok.exfs L z hL;exact⟨hk,⟨L,_,hf,hn,e,hd⟩,ih (λb hb=>hs b (by unfold frs;rw[JQ,hf];exact Qc _ hb)) hr⟩
 exact all X.outer (λ_ hb=>hb) I.ok.funs
theorem Inv.stack(I:Inv X pins σ H s):s.heap.FunFrames X.base X.stack:=by
 rcases I.ok.stk with e|⟨e,hf⟩
 .rw[e];exact I.funs
 .rw[e];obtain⟨m,hn,_⟩:=I.loc;refine .cons (by rw[I.ok.kind];decide) hf hn ?_ I.funs;exact Heap.get?_none_of_le (Qy I.ok.bsz I.ok.above)
theorem Inv.stkSub(I:Inv X pins σ H s):∀b∈frs X.stack,b∈X.env.locals::X.fs:=λb hb=>by
 rcases I.ok.stk with e|⟨e,hf⟩
 .rw[e] at hb;exact Qc _ hb
 .rw[e] at hb;unfold frs at hb;rw[JQ,hf] at hb;exact hb
theorem Inv.stkFree(I:Inv X pins σ H s):∀b∈frs X.stack,H b=none:=λb hb=>by
 rcases Q0.mp (I.stkSub b hb) with e|hb
 .rw[e];exact I.free
 .obtain⟨_,o,ho,_⟩:=I.ok.funs.mem hb;exact I.base.free b o ho (I.ok.frf b hb) λz=>I.ok.exfs b z hb
theorem Inv.step{g':Array GenState}{t':Nat}{d':Drawn}{ch:List Addr}(I:Inv X pins σ H s)
 (hch:∀b∈ch,(b∈X.ex\/X.s₀.heap.objs.size<=b)/\b≠X.env.locals/\(∀x c,X.env.cells.lookup x=some c->c≠b)/\∀p∈X.pn++pins,p.1≠b)
 (keep:∀b o,b≠X.env.locals->b ∉ X.fs->b ∉ ch->s.heap.get? b=some o->H b=none->h'.get? b=some o)
 (slot:∀b o,b≠X.env.locals->b∈X.fs->b ∉ ch->s.heap.get? b=some o->H b=none->∃sl,h'.get? b=some { o with slots:=sl }) (free:∀b o,b ∉ ch->s.heap.get? b=some o->H b=none->H' b=none)
 (there:∀b o,b ∉ ch->s.heap.get? b=some o->∃o',h'.get? b=some o')
 (tups:∀b xs,H b=some (.tup xs)->H' b=some (.tup xs)) (frzs:∀b o u,H b=some (.frz o u)->H' b=some (.frz o u)) (tbls:∀b ps,H b=some (.tbl ps)->∃more,H' b=some (.tbl (ps++more)))
 (ns:∀m,s.heap.Ns X.env.locals m->h'.Ns X.env.locals m) (hok:HOk X.prog X.w H' h') (hg:Gc g') :
 Inv X pins σ H' { s with heap:=h',gens:=g',drawn:=d',toks:=t' }:=by
 have neL:∀b o,X.s₀.heap.get? b=some o->b≠X.env.locals:=λb o e=>QN (Q2 (Qv e) I.ok.above)
 have neC:∀b o,X.s₀.heap.get? b=some o->b ∉ X.ex->b ∉ ch:=λb o e hx hb=>by
  rcases(hch b hb).1 with z|z
  .exact hx z
  .exact absurd (Q2 (Qv e) z) (QY _)
 have cellK:∀x c,X.env.cells.lookup x=some c->∀v,s.heap.IsCell c v->h'.IsCell c v:=λx c e v ⟨o,ho,hd⟩=>by
  have nch:c ∉ ch:=λz=>(hch c z).2.2.1 x c e rfl
  by_cases hc:c∈X.fs
  .obtain⟨sl,q⟩:=slot c o (I.cne x c e) hc nch ho (I.freeC x c e);exact⟨_,q,hd⟩
  .exact⟨o,keep c o (I.cne x c e) hc nch ho (I.freeC x c e),hd⟩
 refine⟨I.ok,I.os,hg,⟨λb o e n hb hx=>?_,λb o e n hb hx=>?_,λb o e n hx=>?_,λb o e hx=>?_,λb xs e=>tups b xs (I.base.tups b xs e),λb o xs e=>frzs b o xs (I.base.frzs b o xs e),λb ps e=>?_⟩,?_,λx c e=>?_,?_,λx c e=>?_,λp hp=>?_,hok,I.len⟩
 .exact keep b o (neL b o e) hb (neC b o e hx) (I.base.keep b o e n hb hx) (I.base.free b o e n hx)
 .obtain⟨sl,e1⟩:=I.base.slot b o e n hb hx;obtain⟨sl',e2⟩:=slot b _ (neL b o e) hb (neC b o e hx) e1 (I.base.free b o e n hx);exact⟨sl',e2⟩
 .obtain⟨o',e1⟩:=I.base.there b o e hx;exact free b o' (neC b o e hx) e1 (I.base.free b o e n hx)
 .obtain⟨o',e1⟩:=I.base.there b o e hx;exact there b o' (neC b o e hx) e1
 .obtain⟨m1,e1⟩:=I.base.tbls b ps e;obtain⟨m2,e2⟩:=tbls b _ e1;exact⟨m1++m2,by rw[e2,Array.append_assoc]⟩
 .obtain⟨m,hn,hl⟩:=I.loc;refine⟨m,ns m hn,λi x v e1 e2 e3=>?_⟩;obtain⟨u,r,l⟩:=hl i x v e1 e2 e3;refine⟨u,r,?_⟩;rcases l with l|⟨k,c,e,z⟩
  .exact .inl l
  .exact .inr ⟨k,c,e,cellK x c e _ z⟩
 .obtain⟨v,z⟩:=I.cell x c e;exact⟨v,cellK x c e v z⟩
 .obtain⟨m,⟨o,_,_,ho,_⟩,_⟩:=I.loc;exact free _ o (λz=>(hch _ z).2.1 rfl) ho I.free
 .obtain⟨v,o,ho,hd⟩:=I.cell x c e;exact free c o (λz=>(hch c z).2.2.1 x c e rfl) ho (I.freeC x c e)
 .obtain⟨e,n,ne,nf,d⟩:=I.pin p hp;have nch:p.1 ∉ ch:=λz=>(hch p.1 z).2.2.2 p hp rfl;exact⟨keep p.1 p.2 ne nf nch e n,free p.1 p.2 nch e n,ne,nf,d⟩
theorem Inv.un{t':Nat}(I:Inv X pins σ H s)(u:Un X.fs [] H H' s.heap h')(hok:HOk X.prog X.w H' h'):Inv X pins σ H' { s with heap:=h',toks:=t' }:=by
 obtain⟨m,⟨o,es,ep,ho,r⟩,_⟩:=id I.loc;obtain⟨sl,hL⟩:=u.any ho I.free (by simp)
 exact I.step (g':=s.gens) (d':=s.drawn) (ch:=[]) (λ_ z=>nomatch z) (λb o _ hb _ e n=>u.keep b o e n hb (by simp)) (λb o _ hb _ e n=>u.slot b o e n hb (by simp)) (λb o _ e n=>u.free b o e n (by simp)) (λb o _ e=>u.there b o e (by simp)) u.tups u.frzs u.tbls (λm' hm=>by
  obtain⟨o',es',ep',ho',r'⟩:=hm;rw[ho] at ho';cases ho'
  exact⟨_,es',ep',hL,r'⟩) hok I.bare
theorem Inv.call{t':Nat}(I:Inv X pins σ H s)(u:Un (frs X.stack) ch H H' s.heap h')(hok:HOk X.prog X.w H' h')(hg:Gc g')
 (hch:∀b∈ch,(b∈X.ex\/X.s₀.heap.objs.size<=b)/\b≠X.env.locals/\(∀x c,X.env.cells.lookup x=some c->c≠b)/\∀p∈X.pn++pins,p.1≠b) :
 Inv X pins σ H' { s with heap:=h',gens:=g',drawn:=d',toks:=t' }:=by
 obtain⟨m,⟨o,es,ep,ho,r⟩,_⟩:=id I.loc;obtain⟨sl,hL⟩:=u.any ho I.free λz=>(hch _ z).2.1 rfl
 exact I.step (ch:=ch) hch (λb o hL hb hc e n=>u.keep b o e n (λz=>(Q0.mp (I.stkSub b z)).elim hL hb) hc) (λb o _ _ hc e n=>u.any e n hc) (λb o hc e n=>u.free b o e n hc) (λb o hc e=>u.there b o e hc) u.tups u.frzs u.tbls (λm' hm=>by
  obtain⟨o',es',ep',ho',r'⟩:=hm;rw[ho] at ho';cases ho'
  exact⟨_,es',ep',hL,r'⟩) hok hg
theorem Inv.turned{t':Nat}(I:Inv X pins σ H s)(k:∀b o,b≠it->s.heap.get? b=some o->h'.get? b=some o)(hn:H it=none)(hL:it≠X.env.locals)
 (h1:it∈X.ex\/X.s₀.heap.objs.size<=it) (h2:∀x c,X.env.cells.lookup x=some c->c≠it) (h3:∀p∈X.pn++pins,p.1≠it):Inv X pins σ H { s with heap:=h',toks:=t' }:=by
 have nit:∀b u,H b=some u->b≠it:=λb u e z=>by rw[z,hn] at e;cases e
 refine I.step (g':=s.gens) (d':=s.drawn) (ch:=[it]) (λb hb=>?_) (λb o _ _ hc e _=>k b o (λz=>hc (by simp[z])) e) (λb o _ _ hc e _=>⟨o.slots,k b o (λz=>hc (by simp[z])) e⟩) (λ_ _ _ _ n=>n)
  (λb o hc e=>⟨o,k b o (λz=>hc (by simp[z])) e⟩) (λ_ _ e=>e) (λ_ _ _ e=>e) (λb ps e=>⟨#[],by rw[e];simp⟩) (λm hm=>?_) (λb u e=>?_) I.bare
 .have e:b=it:=by simpa using hb
  subst e;exact⟨h1,hL,h2,h3⟩
 .obtain⟨o,es,ep,ho,r⟩:=hm;exact⟨o,es,ep,k _ o (Zr hL) ho,r⟩
 .refine(I.hok b u e).stay (λc v hc q=>k c v ?_ q) (λ_ q=>q) (λ_ _ q=>q) λ_ _ q=>q;rcases hc with z|z
  .rw[z];exact nit b u e
  .exact nit c _ z
theorem Inv.tok(I:Inv X pins σ H s)(t:Nat):Inv X pins σ H { s with toks:=t }:=I.un (h':=s.heap) (t':=t) Un.refl I.hok
theorem Inv.kept{t':Nat}(I:Inv X pins σ H s)(k:∀b u,s.heap.get? b=some u->h'.get? b=some u):Inv X pins σ H { s with heap:=h',toks:=t' }:=I.un (Un.kept k) (I.hok.kept k)
theorem Inv.laid{t':Nat}(I:Inv X pins σ H s)(k:∀b u,s.heap.get? b=some u->h'.get? b=some u)(hp:s.heap.objs.size<=a)(new:ObjOk X.prog X.w (upd H a o) h' a o):
 Inv X pins σ (upd H a o) { s with heap:=h',toks:=t' }:=I.un (Un.laid k hp (I.hok.fresh hp)) (I.hok.laid k hp new)
theorem Inv.write{t':Nat}(I:Inv X pins σ H s)(mu:Mut (H x))(he:e=x\/H e=some (.own x))(k:∀b u,b≠e->s.heap.get? b=some u->h'.get? b=some u)(heo:∃u,h'.get? e=some u)
 (new:ObjOk X.prog X.w (upd H x o) h' x o):Inv X pins σ (upd H x o) { s with heap:=h',toks:=t' }:=I.un (Un.write mu he k heo) (I.hok.write mu he k heo new)
theorem Inv.weak(I:Inv X pins σ H s)(hl:σ'.length=σ.length)(w:∀(i:Nat) v,σ'[i]? = some (some v)->σ[i]? = some (some v)):Inv X pins σ' H s :=
 ⟨I.ok,I.os,I.bare,I.base,let ⟨m,hn,hl'⟩:=I.loc;⟨m,hn,λi x v e1 e2 e3=>hl' i x v e1 (w i v e2) e3⟩,I.cell,I.free,I.freeC,I.pin,I.hok,hl.trans I.len⟩
theorem Inv.pins_of{pins':List (Addr×Obj)}(I:Inv X pins σ H s)(h:∀p∈pins',s.heap.get? p.1=some p.2/\H p.1=none/\p.1≠X.env.locals/\p.1 ∉ X.fs/\∀v,p.2.data≠.cell v):Inv X pins' σ H s :=
 ⟨I.ok,I.os,I.bare,I.base,I.loc,I.cell,I.free,I.freeC,λp hp=>(Qu.mp hp).elim (λz=>I.pin p (Q9 _ z)) (h p),I.hok,I.len⟩
theorem zma{N:List Str}(hN:N.Nodup){i j:Nat}{x:Str}(a:N[i]? = some x)(b:N[j]? = some x):i=j:=by
 obtain⟨h1,e1⟩:=Qk.mp a;obtain⟨h2,e2⟩:=Qk.mp b;exact(V0 hN).mp (e1.trans e2.symm)
theorem zjf{i:Nat}(I:Inv X pins σ H s)(hN:X.N.Nodup)(hi:X.N[i]? = some x)(hx:Loc X.env.scope x)(r:RelV v u)
 (h:∀s',Inv X pins (σ.set i (some v)) H s'->(∃a,JT a s.heap s'.heap/\(a=X.env.locals\/X.env.cells.lookup x=some a))->Q () s') (hf:X.fn x=true\/X.env.scope.names.lookup x=some .local:=by first|exact .inl rfl|exact .inr rfl|assumption):wpAny M A (Gx X.env x u) Q E s:=by
 obtain⟨m,hn,hl⟩:=id I.loc;have hcls:(X.env.scope.kind == .class || (X.env.scope.kind == .module && X.env.locals != X.env.globals))=false:=by rw[I.ok.kind];rfl
 have hiσ:i<σ.length:=by rw[I.len];exact(Qk.mp hi).1
 have cne:=I.cne
 have tracked:∀{a:Addr} {h':Heap},(∃o,s.heap.get? a=some o/\H a=none)->JT a s.heap h'->HOk X.prog X.w H h':=λ{a h'} ha hs b ob e=>by
  obtain⟨_,_,hfree⟩:=ha;refine(I.hok b ob e).stay (λc w' hc q=>(hs.2 c ?_).trans q) (λ_ q=>q) (λ_ _ q=>q) λ_ _ q=>q;rintro rfl;rcases hc with rfl|hc
  .rw[hfree] at e;cases e
  .rw[hfree] at hc;cases hc
 rcases hx with hk|hk
 .refine wpAny_storeName_local hk hn (λh' hn' hs=>?_) hcls;obtain⟨oL,_,_,hoL,_⟩:=id hn;refine h _ ⟨I.ok,I.os,I.bare,⟨λb o e n hb hx=>?_,λb o e n hb hx=>?_,I.base.free,λb o e hx=>?_,I.base.tups,I.base.frzs,I.base.tbls⟩,⟨_,hn',λj y v' e1 e2 e3=>?_⟩,λy c e=>?_,I.free,I.freeC,λp hp=>?_,tracked ⟨oL,hoL,I.free⟩ hs,by simpa using I.len⟩ ⟨_,hs,.inl rfl⟩
  .exact(hs.2 b (QN (Q2 (Qv e) I.ok.above))).trans (I.base.keep b o e n hb hx)
  .obtain⟨sl,e1⟩:=I.base.slot b o e n hb hx;exact⟨sl,(hs.2 b (QN (Q2 (Qv e) I.ok.above))).trans e1⟩
  .obtain⟨o',e1⟩:=I.base.there b o e hx;exact⟨o',(hs.2 b (QN (Q2 (Qv e) I.ok.above))).trans e1⟩
  .by_cases hj:j=i
   .subst hj;rw[hi] at e1;cases e1;rw[Q4 hiσ] at e2;cases e2;exact⟨u,r,.inl ⟨hk,by simp⟩⟩
   .rw[QC (Zr hj)] at e2;obtain⟨u',r',q⟩:=hl j y v' e1 e2 e3;refine⟨u',r',?_⟩;rcases q with ⟨k,e⟩|⟨k,c,e,z⟩
    .refine .inl ⟨k,?_⟩;have:y≠x:=λe=>hj (zma hN e1 (e ▸ hi));simp[this,e]
    .exact .inr ⟨k,c,e,z.sameBut hs (cne y c e)⟩
  .obtain⟨w',z⟩:=I.cell y c e;exact⟨w',z.sameBut hs (cne y c e)⟩
  .obtain⟨e,n,ne,nf,d⟩:=I.pin p hp;exact⟨(hs.2 p.1 ne).trans e,n,ne,nf,d⟩
 .have hfn:X.fn x=true:=by
   rcases hf with z|z
   .exact z
   .rw[z] at hk;cases hk
  obtain⟨c,hc⟩:=I.ok.has x (.inl hk);obtain⟨w',z⟩:=I.cell x c hc;refine wpAny_storeName_cell I.ok.kind hk hc z (λh' hc' hs=>?_);obtain⟨oc,hoc,hocd⟩:=id z;refine h { s with heap:=h' } ⟨I.ok,I.os,I.bare,⟨λb o e n hb hx=>?_,λb o e n hb hx=>?_,I.base.free,λb o e hx=>?_,I.base.tups,I.base.frzs,I.base.tbls⟩,⟨m,hn.sameBut hs (Zr (cne x c hc)),λj y v' e1 e2 e3=>?_⟩,λy c' e=>?_,I.free,I.freeC,λp hp=>?_,tracked ⟨oc,hoc,I.freeC x c hc⟩ hs,by simpa using I.len⟩ ⟨c,hs,.inr hc⟩
  .exact(hs.2 b (QN (Q2 (Qv e) (I.ok.cab x c hfn hc)))).trans (I.base.keep b o e n hb hx)
  .obtain⟨sl,e1⟩:=I.base.slot b o e n hb hx;exact⟨sl,(hs.2 b (QN (Q2 (Qv e) (I.ok.cab x c hfn hc)))).trans e1⟩
  .obtain⟨o',e1⟩:=I.base.there b o e hx;exact⟨o',(hs.2 b (QN (Q2 (Qv e) (I.ok.cab x c hfn hc)))).trans e1⟩
  .by_cases hj:j=i
   .subst hj;rw[hi] at e1;cases e1;rw[Q4 hiσ] at e2;cases e2;exact⟨u,r,.inr ⟨.inl hk,c,hc,hc'⟩⟩
   .rw[QC (Zr hj)] at e2;obtain⟨u',r',q⟩:=hl j y v' e1 e2 e3;refine⟨u',r',?_⟩;rcases q with q|⟨k,c',e,z'⟩
    .exact .inl q
    .refine .inr ⟨k,c',e,z'.sameBut hs ?_⟩;rintro rfl;exact hj (zma hN e1 (I.ok.inj _ _ _ e hc ▸ hi))
  .by_cases hcc:c'=c
   .subst hcc;exact⟨_,hc'⟩
   .obtain⟨w2,z2⟩:=I.cell y c' e;exact⟨w2,z2.sameBut hs hcc⟩
  .obtain⟨e,n,ne,nf,d⟩:=I.pin p hp;refine⟨(hs.2 p.1 ?_).trans e,n,ne,nf,d⟩;intro q;rw[q,hoc] at e;have q':oc=p.2:=QZ e;exact d w' (by rw[<- q'];exact hocd)
theorem zex{i:Nat}(I:Inv X pins σ H s)(hN:X.N.Nodup)(hi:X.N[i]? = some x)(hx:Loc X.env.scope x)(r:RelV v u)
 (h:∀s',Inv X pins (σ.set i (some v)) H s'->Q () s') (hf:X.fn x=true\/X.env.scope.names.lookup x=some .local:=by first|exact .inl rfl|exact .inr rfl|assumption):wpAny M A (Gx X.env x u) Q E s :=
 zjf I hN hi hx r (λs' I' _=>h s' I') hf
theorem Inv.call'(I:Inv X pins σ H s)(ho:s'.os=s.os)(u:Un (frs X.stack) ch H H' s.heap s'.heap)(hok:HOk X.prog X.w H' s'.heap)(hg:Gc s'.gens)
 (hch:∀b∈ch,(b∈X.ex\/X.s₀.heap.objs.size<=b)/\b≠X.env.locals/\(∀x c,X.env.cells.lookup x=some c->c≠b)/\∀p∈X.pn++pins,p.1≠b):Inv X pins σ H' s':=by
 obtain⟨h',g',d',t',o'⟩:=s';have e:o'=s.os:=ho;subst e;exact I.call (g':=g') (t':=t') (d':=d') u hok hg hch
end
abbrev XK:=Uf->Option Addr->Hp->Prop
abbrev St:=List (Option V)
abbrev VK:=V->Hp->Prop
abbrev TE:=St->Hp->VK->Prop
abbrev TT:=St->Hp->(Bool->Hp->Prop)->Prop
abbrev TA:=St->Hp->(List V->Hp->Prop)->Prop
structure Ends where
 nx:St->Hp->Prop
 rt:VK
 bk:St->Hp->Prop:=λ_ _=>False
 ct:St->Hp->Prop:=λ_ _=>False
abbrev TS:=Ends->St->Hp->Prop
def EP(X:Cx)(pins:List (Addr×Obj))(σ:St)(Q:VK)(u:Uf)(s':Ui):Prop:=∃v H',Inv X pins σ H' s'/\RelV v u/\Q v H'
def TP(X:Cx)(pins:List (Addr×Obj))(σ:St)(Q:Bool->Hp->Prop)(b:Bool)(s':Ui):Prop:=∃H',Inv X pins σ H' s'/\Q b H'
def AP(X:Cx)(pins:List (Addr×Obj))(σ:St)(Q:List V->Hp->Prop)(us:List Uf)(s':Ui):Prop:=∃vs H',Inv X pins σ H' s'/\Vals vs us/\Q vs H'
def SP(X:Cx)(pins:List (Addr×Obj))(D:Ends)(f:Flow)(s':Ui):Prop :=
 match f with
 | .next=>∃σ' H',Inv X pins σ' H' s'/\D.nx σ' H'
 | .brk=>∃σ' H',Inv X pins σ' H' s'/\D.bk σ' H'
 | .cont=>∃σ' H',Inv X pins σ' H' s'/\D.ct σ' H'
 | .ret u=>∃v σ' H',Inv X pins σ' H' s'/\RelV v u/\D.rt v H'
def PE(X:Cx)(e:Expr)(t:TE):Prop :=
 ∀(pins:List (Addr×Obj)) (s:Ui) (σ:St) (H:Hp) (Q:VK),Inv X pins σ H s->t σ H Q->wpAny (model X.prog X.w) X.A (eval e X.env) (EP X pins σ Q) X.xe s
def PT(X:Cx)(e:Expr)(t:TT):Prop :=
 ∀(pins:List (Addr×Obj)) (s:Ui) (σ:St) (H:Hp) (Q:Bool->Hp->Prop),Inv X pins σ H s->t σ H Q->wpAny (model X.prog X.w) X.A (isTrue e X.env (eval e X.env)) (TP X pins σ Q) X.xe s
def PW(X:Cx)(e:Expr)(t:TT):Prop :=
 ∀(whole:Sem Uf) (pins:List (Addr×Obj)) (s:Ui) (σ:St) (H:Hp) (Q:Bool->Hp->Prop),Inv X pins σ H s->t σ H Q->wpAny (model X.prog X.w) X.A (isTrue e X.env whole) (TP X pins σ Q) X.xe s
theorem PW.pt(h:PW X e t):PT X e t:=h _
def PA(X:Cx)(es:List Expr)(t:TA):Prop :=
 ∀(pos:Pos) (pins:List (Addr×Obj)) (s:Ui) (σ:St) (H:Hp) (Q:List V->Hp->Prop),Inv X pins σ H s->t σ H Q->wpAny (model X.prog X.w) X.A (GK (U7 pos (Ul es X.env))) (AP X pins σ Q) X.xe s
def PS(X:Cx)(st:Stmt)(t:TS):Prop :=
 ∀(pins:List (Addr×Obj)) (s:Ui) (σ:St) (H:Hp) (D:Ends),Inv X pins σ H s->t D σ H->wpAny (model X.prog X.w) X.A (exec st X.env) (SP X pins D) X.xe s
def PSs(X:Cx)(st:List Stmt)(t:TS):Prop :=
 ∀(pins:List (Addr×Obj)) (s:Ui) (σ:St) (H:Hp) (D:Ends),Inv X pins σ H s->t D σ H->wpAny (model X.prog X.w) X.A (execs st X.env) (SP X pins D) X.xe s
theorem thn{α:Type}{t:Sem α}{Q Q':α->Ui->Prop}(h:wpAny M A t Q E s)(hQ:∀a s,Q a s->Q' a s):wpAny M A t Q' E s:=Uv h hQ λ_ _ x=>x
section
variable {X:Cx}
def tVar(i:Nat):TE:=λσ H Q=>∃v,σ[i]? = some (some v)/\Q v H
def tC(v:V):TE:=λ_ H Q=>Q v H
theorem zaf{i:Nat}(hN:X.N[i]? = some x)(hv:Vis X.env.scope x)(hd:(x == ("__debug__" : Str))=false:=by decide)(hcd:(x == ("__classdict__" : Str))=false:=by decide):PE X (.Name x pos) (tVar i):=by
 intro pins s σ H Q I h;obtain⟨v,e,h⟩:=h;obtain⟨m,hn,hl⟩:=I.loc;obtain⟨u,r,l⟩:=hl i x v hN e hv;have fin:EP X pins σ Q u s:=⟨v,H,I,r,h⟩;rcases l with ⟨hk,hm⟩|⟨hk,c,hc,hcell⟩
 .exact wpAny_Name (Gv I.ok.kind hk hn hm fin) hd
 .rcases hk with hk|hk
  .exact wpAny_Name (wpAny_loadName_cell I.ok.kind hk hc hcell fin) hd
  .exact wpAny_Name (wpAny_loadName_free I.ok.kind hk hc hcell fin hcd) hd
theorem zau{i j pos}:PE X (.Constant (.int i) j pos) (tC (.int i)):=λ_ _ _ H _ I h=>wpAny_Constant_int ⟨.int i,H,I.tok _,⟨_,rfl⟩,h⟩
theorem z0c{b j pos}:PE X (.Constant (.bool b) j pos) (tC (.bl b)):=λ_ _ _ H _ I h=>Constant_bool ⟨.bl b,H,I,rfl,h⟩
theorem zw8{j pos}:PE X (.Constant .none j pos) (tC .non):=λ_ _ _ H _ I h=>Constant_none ⟨.non,H,I,rfl,h⟩
theorem zbn{x j pos}:PE X (.Constant (.str x) j pos) (tC (.str x)):=λ_ _ _ H _ I h=>Calls.Constant_str ⟨.str x,H,I.tok _,⟨_,rfl⟩,h⟩
def Gl(X:Cx)(x:Str):Prop:=X.env.kindOf x=some .globalImplicit
theorem zih{pins:List (Addr×Obj)}(I:Inv X pins σ H s)(hg:Gl X x)(hm:X.mg x=some u)(h:Q u s)
 (hd:(x == ("__debug__" : Str))=false:=by decide):wpAny (model X.prog X.w) X.A (eval (.Name x pos) X.env) Q E s :=
 JY I.ok.kind hg (Calls.loadGlobal_global (by rw[I.ok.glob];exact I.mod.glob.keeps I.bk) hm h) hd
theorem zcs{pins:List (Addr×Obj)}(I:Inv X pins σ H s)(hg:Gl X x)(hm:X.mg x=none)(hv:Uu x=some u)(h:Q u s)
 (hn:x ≠ "__name__" := by decide) (hd:(x == ("__debug__" : Str))=false:=by decide):wpAny (model X.prog X.w) X.A (eval (.Name x pos) X.env) Q E s:=by
 obtain⟨mb,h1,h2⟩:=I.mod.blt;exact JY I.ok.kind hg (Calls.loadGlobal_builtin (by rw[I.ok.glob];exact I.mod.glob.keeps I.bk) hm (by rw[I.ok.blt];exact h1.keeps I.bk) ((h2 x hn).trans hv) h) hd
theorem zui(hg:Gl X x)(hm:X.mg x=some u)(r:RelV v u)(hd:(x == ("__debug__" : Str))=false:=by decide):PE X (.Name x pos) (tC v) :=
 λ_ _ _ H _ I h=>zih I hg hm ⟨v,H,I,r,h⟩ hd
variable {a b:Expr}{ta tb:TE}{pos:Pos}
def tB(t:TE):TT:=λσ H Q=>t σ H λx H1=>∃c,x = .bl c/\Q c H1
theorem zyy(h:PE X e t)(he:∀whole,isTrue e X.env whole=(do let v <- whole;standAt e.pos;holding [v] (truthy v)):=by intro _;rfl):PT X e (tB t):=by
 intro pins s σ H Q I hw;refine isTrue_plain (thn (h pins s σ H _ I hw) λv s1 zz=>?_) (he _);obtain⟨x,H1,I1,r1,q1⟩:=zz;obtain⟨d,rfl,q⟩:=q1;cases r1;exact Ge ⟨H1,I1,q⟩
variable {tA tB':TT}{rest:List Expr}
def tAnd(t u:TT):TT:=λσ H Q=>t σ H λc H1=>if c=true then u σ H1 Q else Q false H1
def tOr(t u:TT):TT:=λσ H Q=>t σ H λc H1=>if c=true then Q true H1 else u σ H1 Q
def tNot(t:TT):TT:=λσ H Q=>t σ H λc H1=>Q (!c) H1
theorem znd(ha:PT X a tA):PW X (.BoolOp .And [a] pos) tA:=by
 intro wh pins s σ H Q I h;refine isTrue_and (thn (ha pins s σ H Q I h) λc s1 e=>?_)
 cases c with
 | true=>exact isTrue_and_nil e
 | false=>exact e
theorem zxv(ha:PT X a tA):PW X (.BoolOp .Or [a] pos) tA:=by
 intro wh pins s σ H Q I h;refine isTrue_or (thn (ha pins s σ H Q I h) λc s1 e=>?_)
 cases c with
 | false=>exact isTrue_or_nil e
 | true=>exact e
theorem zpb(ha:PT X a tA)(hb:PW X (.BoolOp .And (b::rest) pos) tB'):PW X (.BoolOp .And (a::b::rest) pos) (tAnd tA tB'):=by
 intro wh pins s σ H Q I h;refine isTrue_and (thn (ha pins s σ H _ I h) λc s1 zz=>?_);obtain⟨H1,I1,q1⟩:=zz
 cases c with
 | true=>exact hb wh pins s1 σ H1 Q I1 q1
 | false=>exact⟨H1,I1,q1⟩
theorem z0q(ha:PT X a tA)(hb:PW X (.BoolOp .Or (b::rest) pos) tB'):PW X (.BoolOp .Or (a::b::rest) pos) (tOr tA tB'):=by
 intro wh pins s σ H Q I h;refine isTrue_or (thn (ha pins s σ H _ I h) λc s1 zz=>?_);obtain⟨H1,I1,q1⟩:=zz
 cases c with
 | true=>exact⟨H1,I1,q1⟩
 | false=>exact hb wh pins s1 σ H1 Q I1 q1
theorem zyl(ha:PT X a tA):PT X (.UnaryOp .Not a pos) (tNot tA):=by
 intro pins s σ H Q I h;exact isTrue_not (ha pins s σ H (λc H1=>Q (!c) H1) I h)
def tIf(t:TT)(ta tb:TE):TE:=λσ H Q=>t σ H λc H1=>if c=true then ta σ H1 Q else tb σ H1 Q
theorem zlc(hc:PT X c tA)(ha:PE X a ta)(hb:PE X b tb):PE X (.IfExp c a b pos) (tIf tA ta tb):=by
 intro pins s σ H Q I h;refine wpAny_IfExp (thn (hc pins s σ H _ I h) λd s1 zz=>?_);obtain⟨H1,I1,q1⟩:=zz
 cases d with
 | true=>exact ha pins s1 σ H1 Q I1 q1
 | false=>exact hb pins s1 σ H1 Q I1 q1
end
def SqL(K:Qa)(H:Hp)(a:Addr)(xs:List V):Prop :=
 Rd H a (.lst xs) \/
  ∃(o:Obj) (its:Array Uf) (n:Nat),K.lookup a=some o/\o.cls = .type "list" /\ o.dict=none/\o.data = .seq its n/\its.size<=sizeLine/\Vals xs its.toList
def SqT(K:Qa)(H:Hp)(a:Addr)(xs:List V):Prop :=
 Rd H a (.tup xs) \/
  ∃(o:Obj) (its:Array Uf) (n:Nat),K.lookup a=some o/\o.cls = .type "tuple" /\ o.data = .seq its n/\its.size<=sizeLine/\Vals xs its.toList
def absV:Uf->Option V
 | .none=>some .non
 | .bool b=>some (.bl b)
 | .int i _=>some (.int i)
 | .str x _=>some (.str x)
 | .bytes b _=>some (.byt b)
 | .float b _=>some (.flt b)
 | .ref a=>some (.ref a)
 | .type n=>some (.ty n)
 | _=>none
theorem RelV.abs(r:RelV x u):absV u=some x:=by
 cases x with
 | non=>cases r;rfl
 | bl _=>cases r;rfl
 | int _=>obtain⟨t,rfl⟩:=r;rfl
 | str _=>obtain⟨t,rfl⟩:=r;rfl
 | byt _=>obtain⟨t,rfl⟩:=r;rfl
 | flt _=>obtain⟨t,rfl⟩:=r;rfl
 | ref _=>cases r;rfl
 | ty _=>cases r;rfl
theorem RelV.inj(r:RelV x u)(q:RelV y u):x=y:=QZ (r.abs.symm.trans q.abs)
theorem Vals.inj:∀{xs ys:List V} {us:List Uf},Vals xs us->Vals ys us->xs=ys
 | _,_,_,.nil,.nil=>rfl
 | _,_,_,.cons r t,.cons r' t'=>by rw[r.inj r',Vals.inj t t']
section
variable {X:Cx}{pins:List (Addr×Obj)}{σ:St}{H:Hp}{s:Ui}{a:Addr}{xs ys:List V}
theorem SqL.of{K:Qa}(h:H a=some (.lst xs)):SqL K H a xs:=.inl (.inl h)
theorem SqT.of{K:Qa}(h:H a=some (.tup xs)):SqT K H a xs:=.inl (.inl h)
theorem Inv.list(I:Inv X pins σ H s)(h:SqL X.K H a xs):∃its:List Uf,Vals xs its/\PlainL s.heap a its.toArray/\xs.length<=sizeLine:=by
 rcases h with h|⟨o,its,n,hk,hc,hd,hs,hz,r⟩
 .obtain⟨z,its,n,r,e⟩:=h.ok I.hok;exact⟨its,r,⟨_,n,e,rfl,rfl,rfl⟩,z⟩
 .refine⟨its.toList,r,⟨o,n,I.kIn a o hk,hc,hd,by simpa using hs⟩,?_⟩;have e:=r.length;simp only[Zb] at e;lia
theorem Inv.tuple(I:Inv X pins σ H s)(h:SqT X.K H a xs):∃its:List Uf,Vals xs its/\IsTup s.heap a its.toArray/\xs.length<=sizeLine:=by
 rcases h with h|⟨o,its,n,hk,hc,hs,hz,r⟩
 .obtain⟨z,its,r,p⟩:=h.ok I.hok;exact⟨its,r,p,z⟩
 .refine⟨its.toList,r,⟨o,I.kIn a o hk,hc,n,by simpa using hs⟩,?_⟩;have e:=r.length;simp only[Zb] at e;lia
theorem Inv.list_inj(I:Inv X pins σ H s)(h:SqL X.K H a xs)(h':SqL X.K H a ys):xs=ys:=by
 obtain⟨its,r,⟨o,n,e,_,_,d⟩,_⟩:=I.list h;obtain⟨its',r',⟨o',n',e',_,_,d'⟩,_⟩:=I.list h';rw[e] at e';cases e';rw[d] at d';injection d' with d1 _;have:its=its':=by simpa using GV Uc d1
 subst this;exact r.inj r'
theorem Inv.tuple_inj(I:Inv X pins σ H s)(h:SqT X.K H a xs)(h':SqT X.K H a ys):xs=ys:=by
 obtain⟨its,r,⟨o,e,_,n,d⟩,_⟩:=I.tuple h;obtain⟨its',r',⟨o',e',_,n',d'⟩,_⟩:=I.tuple h';rw[e] at e';cases e';rw[d] at d';injection d' with d1 _;have:its=its':=by simpa using GV Uc d1
 subst this;exact r.inj r'
end
abbrev Cx.wish(X:Cx)(E:Uf->Ui->Prop):Cx:={ X with xe:=E }
abbrev Cx.nox(X:Cx):Cx:=X.wish λ_ _=>False
theorem Cx.Ok.wish{X:Cx}(ok:X.Ok)(E:Uf->Ui->Prop):(X.wish E).Ok :=
 ⟨ok.mod,ok.kind,ok.glob,ok.blt,ok.above,ok.inj,ok.has,ok.cab,ok.hd,ok.frames,ok.stk,ok.exf,ok.bs,ok.bsz,ok.noex,ok.exfs,ok.funs,ok.frf⟩
theorem Cx.Ok.unwish{X:Cx}{E:Uf->Ui->Prop}(ok:(X.wish E).Ok):X.Ok :=
 ⟨ok.mod,ok.kind,ok.glob,ok.blt,ok.above,ok.inj,ok.has,ok.cab,ok.hd,ok.frames,ok.stk,ok.exf,ok.bs,ok.bsz,ok.noex,ok.exfs,ok.funs,ok.frf⟩
section
variable {X:Cx}{pins:List (Addr×Obj)}{σ:St}{H:Hp}{s:Ui}{E:Uf->Ui->Prop}
theorem Inv.wish(I:Inv X pins σ H s)(E:Uf->Ui->Prop):Inv (X.wish E) pins σ H s:=⟨I.ok.wish E,I.os,I.bare,I.base,I.loc,I.cell,I.free,I.freeC,I.pin,I.hok,I.len⟩
theorem Inv.unwish(I:Inv (X.wish E) pins σ H s):Inv X pins σ H s:=⟨I.ok.unwish,I.os,I.bare,I.base,I.loc,I.cell,I.free,I.freeC,I.pin,I.hok,I.len⟩
theorem SP.unwish(h:SP (X.wish E) pins D f s'):SP X pins D f s':=by
 cases f with
 | next=>obtain⟨σ',H',I,q⟩:=h;exact⟨σ',H',I.unwish,q⟩
 | brk=>obtain⟨σ',H',I,q⟩:=h;exact⟨σ',H',I.unwish,q⟩
 | cont=>obtain⟨σ',H',I,q⟩:=h;exact⟨σ',H',I.unwish,q⟩
 | ret u=>obtain⟨v,σ',H',I,r,q⟩:=h;exact⟨v,σ',H',I.unwish,r,q⟩
theorem PSs.nox{st:List Stmt}{t:TS}(h:PSs X.nox st t):PSs X st t:=λpins s σ H D I hw=>
 Uv (h pins s σ H D (I.wish _) hw) (λ_ _ q=>q.unwish) λ_ _ z=>Zl z
end
section
variable {X:Cx}{st:Stmt}{rest:List Stmt}{t u:TS}{e:Expr}{te:TE}{pos:Pos}
def zog:TS:=λD σ H=>D.nx σ H
def tSeq(t u:TS):TS:=λD σ H=>t { D with nx:=u D } σ H
theorem znx:PSs X [] zog:=λ_ _ σ H _ I h=>UX ⟨σ,H,I,h⟩
theorem za5(h1:PS X st t)(h2:PSs X rest u):PSs X (st::rest) (tSeq t u):=by
 intro pins s σ H D I h;refine wpAny_execs_cons (thn (h1 pins s σ H { D with nx:=u D } I h) λf s1 q=>?_)
 cases f with
 | next=>
   obtain⟨σ',H',I',q⟩:=q;exact h2 pins s1 σ' H' D I' q
 | ret v=>exact q
 | brk=>exact q
 | cont=>exact q
theorem zcj(h1:PS X st t):PSs X [st] t:=by
 intro pins s σ H D I h;refine wpAny_execs_cons (thn (h1 pins s σ H D I h) λf s1 q=>?_)
 cases f with
 | next=>exact UX q
 | ret v=>exact q
 | brk=>exact q
 | cont=>exact q
theorem Inv.quiet{pins:List (Addr×Obj)}(I:Inv X pins σ H s):interactive X.env=false:=by simp[interactive,I.ok.kind]
def ze7(te:TE):TS:=λD σ H=>te σ H λ_ H1=>D.nx σ H1
theorem zi6(he:PE X e te)(hs:UB e none pos.line X.env=pure false:=by rfl):PS X (.Expr e pos) (ze7 te):=by
 intro pins s σ H D I h;exact wpAny_Expr_any (thn (he pins s σ H _ I h) λv s1 ⟨x,H1,I1,r1,q1⟩=>⟨σ,H1,I1,q1⟩) I.quiet hs
def tRet(te:TE):TS:=λD σ H=>te σ H D.rt
theorem zdq(he:PE X e te):PS X (.Return (some e) pos) (tRet te):=by
 intro pins s σ H D I h;exact wpAny_Return_some (thn (he pins s σ H _ I h) λv s1 ⟨x,H1,I1,r1,q1⟩=>⟨x,σ,H1,I1,r1,q1⟩)
def tIfS(c:TT)(t u:TS):TS:=λD σ H=>c σ H λb H1=>if b=true then t D σ H1 else u D σ H1
theorem ztw(hc:PT X c tc)(ha:PSs X a t)(hb:PSs X b u):PS X (.If c a b pos) (tIfS tc t u):=by
 intro pins s σ H D I h;refine wpAny_If (thn (hc pins s σ H _ I h) λd s1 zz=>?_);obtain⟨H1,I1,q1⟩:=zz
 cases d with
 | true=>exact ha pins s1 σ H1 D I1 q1
 | false=>exact hb pins s1 σ H1 D I1 q1
end
abbrev TG:=V->St->Hp->(St->Hp->Prop)->Prop
abbrev TGs:=List V->St->Hp->(St->Hp->Prop)->Prop
def PG(X:Cx)(target:Expr)(t:TG):Prop :=
 ∀(pins:List (Addr×Obj)) (s:Ui) (σ:St) (H:Hp) (v:V) (u:Uf) (Q:St->Hp->Prop),Inv X pins σ H s->RelV v u->t v σ H Q ->
   wpAny (model X.prog X.w) X.A (Gf target X.env u) (λ_ s'=>∃σ' H',Inv X pins σ' H' s'/\Q σ' H') X.xe s
def PGs(X:Cx)(ts:List Expr)(t:TGs):Prop :=
 ∀(pins:List (Addr×Obj)) (s:Ui) (σ:St) (H:Hp) (vs:List V) (us:List Uf) (Q:St->Hp->Prop),Inv X pins σ H s->Vals vs us->t vs σ H Q ->
   wpAny (model X.prog X.w) X.A (assignInOrder ((UE ts X.env).map (·.2)) us) (λ_ s'=>∃σ' H',Inv X pins σ' H' s'/\Q σ' H') X.xe s
abbrev TSet:=V->V->V->Hp->(Hp->Prop)->Prop
def PSet(X:Cx)(t:TSet):Prop :=
 ∀(pins:List (Addr×Obj)) (s:Ui) (σ:St) (H:Hp) (o i v:V) (ov iv u:Uf) (Q:Hp->Prop),Inv X pins σ H s->RelV o ov->RelV i iv->RelV v u->t o i v H Q ->
   wpAny (model X.prog X.w) X.A (setItem ov iv u) (λ_ s'=>∃H',Inv X pins σ H' s'/\Q H') X.xe s
abbrev TIp:=V->V->Hp->VK->Prop
def PIp(X:Cx)(op:Operator)(t:TIp):Prop :=
 ∀(pins:List (Addr×Obj)) (s:Ui) (σ:St) (H:Hp) (x y:V) (v u:Uf) (Q:VK),Inv X pins σ H s->RelV x v->RelV y u->t x y H Q ->
   wpAny (model X.prog X.w) X.A (inplaceOp op v u) (EP X pins σ Q) X.xe s
section
variable {X:Cx}{pos:Pos}
def za0(i:Nat):TG:=λv σ H Q=>Q (σ.set i (some v)) H
theorem zdm{i:Nat}(hN:X.N.Nodup)(hi:X.N[i]? = some x)(hx:Loc X.env.scope x)(hf:X.fn x=true\/X.env.scope.names.lookup x=some .local:=by first|exact .inl rfl|exact .inr rfl|assumption):PG X (.Name x pos) (za0 i):=by
 intro pins s σ H v u Q I r h;exact wpAny_assign_Name (zex I hN hi hx r (λs' I'=>⟨_,H,I',h⟩) hf)
def gNil:TGs:=λvs σ H Q=>vs = []/\Q σ H
def zhv(t:TG)(u:TGs):TGs:=λvs σ H Q=>∃v r,vs=v::r/\t v σ H λσ' H'=>u r σ' H' Q
theorem zvz:PGs X [] gNil:=by
 intro pins s σ H vs us Q I r h;obtain⟨e,h⟩:=h;subst e;cases r;exact assignInOrder_nil ⟨σ,H,I,h⟩
theorem zr4(h1:PG X e t)(h2:PGs X es u)
 (hs:(UE (e::es) X.env).map (·.2)=Gf e X.env::(UE es X.env).map (·.2):=by rfl):PGs X (e::es) (zhv t u):=by
 intro pins s σ H vs us Q I r h;obtain⟨v,vr,e1,h⟩:=h;subst e1
 cases r with
 | cons r rr=>
   rw[hs];refine assignInOrder_cons (thn (h1 pins s σ H _ _ _ I r h) λ_ s1 zz=>?_);obtain⟨σ1,H1,I1,q1⟩:=zz;exact h2 pins s1 σ1 H1 _ _ Q I1 rr q1
def gTup(K:Qa)(n:Nat)(t:TGs):TG:=λv σ H Q=>∃a xs,v = .ref a/\SqT K H a xs/\xs.length=n/\t xs σ H Q
theorem zyi{k:Nat}{n:Nat}(hc:X.calm=true)(h:PGs X es t)
 (hn:(UE es X.env).length=n:=by rfl) (hst:(UE es X.env).findIdx? (·.1)=none:=by rfl):PG X (.Tuple es k pos) (gTup X.K n t):=by
 intro pins s σ H v u Q I r hw;obtain⟨a,xs,e1,hq,hl,hw⟩:=hw;subst e1;cases r;obtain⟨its,rv,ht,hz⟩:=I.tuple hq;refine assign_Tuple_tuple (I.ok.hd hc) ht (by simp[hn,<- hl,rv.length]) hst λh' hx=>?_;have I1:Inv X pins σ H { s with heap:=h' }:=I.kept (t':=s.toks) λb o e=>hx b o (QN (Qv e)) e;exact h pins _ σ H xs _ Q I1 (by simpa using rv) hw
def gSub(to ti:TE)(t:TSet):TG:=λv σ H Q=>to σ H λo H1=>ti σ H1 λi H2=>t o i v H2 λH3=>Q σ H3
theorem zyn{to:TE}(ho:PE X o to)(hi:PE X i ti)(hs:PSet X t)
 (ha:∀v,Gf (.Subscript o i pos) X.env v=(do
  let ov <- holding [v] (eval o X.env)
  let iv <- holding [v,ov] (eval i X.env)
  standAt pos
  holding [v,ov,iv] (setItem ov iv v)
  release [v,ov,iv] []):=by intro _;rfl):PG X (.Subscript o i pos) (gSub to ti t):=by
 intro pins s σ H v u Q I r h;rw[ha];refine Uh (U5 (thn (ho pins s σ H _ I h) λov s1 zz=>?_));obtain⟨x,H1,I1,r1,q1⟩:=zz;refine Uh (U5 (thn (hi pins s1 σ H1 _ I1 q1) λiv s2 zz=>?_));obtain⟨y,H2,I2,r2,q2⟩:=zz;refine Uh (G2 (Uh (U5 (thn (hs pins s2 σ H2 x y v ov iv u _ I2 r1 r2 r q2) λ_ s3 zz=>?_))));obtain⟨H3,I3,q3⟩:=zz;exact wpAny_release ⟨σ,H3,I3,q3⟩
def tAsg(te:TE)(g:TG):TS:=λD σ H=>te σ H λx H1=>g x σ H1 D.nx
theorem zyr(he:PE X e te)(hg:PG X tg g)(hs:swapsWithSole [tg] e pos.line X.env=pure false:=by rfl)(hw:swappedStores [tg] e X.env=pure none:=by rfl)
 (h1:(UE [tg] X.env).map (·.2) = [Gf tg X.env]:=by rfl):PS X (.Assign [tg] e pos) (tAsg te g):=by
 intro pins s σ H D I h;refine wpAny_Assign_stores (thn (he pins s σ H _ I h) λv s1 zz=>?_) hs hw;obtain⟨x,H1,I1,r1,q1⟩:=zz;rw[h1];exact thn (hg pins s1 σ H1 x v _ I1 r1 q1) λ_ s2 q=>q
theorem zb9{i:Nat}{pos':Pos}(hN:X.N.Nodup)(hi:X.N[i]? = some x)(hx:Loc X.env.scope x)(he:PE X e te)(hs:UB e (some (.Name x pos')) pos.line X.env=pure false:=by rfl)(hf:X.fn x=true\/X.env.scope.names.lookup x=some .local:=by first|exact .inl rfl|exact .inr rfl|assumption):
 PS X (.Assign [.Name x pos'] e pos) (tAsg te (za0 i)):=by
 intro pins s σ H D I h;refine wpAny_Assign_Name (thn (he pins s σ H _ I h) λv s1 zz=>?_) hs;obtain⟨y,H1,I1,r1,q1⟩:=zz;exact zex I1 hN hi hx r1 (λs2 I2=>⟨_,H1,I2,q1⟩) hf
def tAug(i:Nat)(te:TE)(ti:TIp):TS:=λD σ H=>∃x,σ[i]? = some (some x)/\te σ H λy H1=>ti x y H1 λz H2=>D.nx (σ.set i (some z)) H2
theorem zyk{i:Nat}{pos':Pos}(hN:X.N.Nodup)(hi:X.N[i]? = some x)(hx:Loc X.env.scope x)(he:PE X e te)(ho:PIp X op ti)(hf:X.fn x=true\/X.env.scope.names.lookup x=some .local:=by first|exact .inl rfl|exact .inr rfl|assumption):
 PS X (.AugAssign (.Name x pos') op e pos) (tAug i te ti):=by
 intro pins s σ H D I h;obtain⟨v,e1,h⟩:=h;obtain⟨m,hn,hl⟩:=I.loc;have vis:Vis X.env.scope x:=by rcases hx with k|k;exact .inl k;exact .inr (.inl k)
 obtain⟨u,r,l⟩:=hl i x v hi e1 vis;refine wpAny_AugAssign_Name ?_
 have go:wpAny (model X.prog X.w) X.A (eval e X.env) (λw s₂=>wpAny (model X.prog X.w) X.A (inplaceOp op u w) (λr s₃=>wpAny (model X.prog X.w) X.A (Gx X.env x r) (λ_=>SP X pins D .next) X.xe s₃) X.xe s₂) X.xe s:=by
  refine thn (he pins s σ H _ I h) λw s1 zz=>?_;obtain⟨y,H1,I1,r1,q1⟩:=zz;refine thn (ho pins s1 σ H1 v y u w _ I1 r r1 q1) λz s2 zz=>?_;obtain⟨zv,H2,I2,r2,q2⟩:=zz;exact zex I2 hN hi hx r2 (λs3 I3=>⟨_,H2,I3,q2⟩) hf
 rcases l with ⟨hk,hm⟩|⟨hk,c,hc,hcell⟩
 .exact Gv I.ok.kind hk hn hm go
 .rcases hk with hk|hk
  .exact wpAny_loadName_cell I.ok.kind hk hc hcell go
  .rcases hx with k|k
   .have:X.env.scope.names.lookup x=some .free:=hk;rw[k] at this;cases this
   .have:X.env.scope.names.lookup x=some .free:=hk;rw[k] at this;cases this
def ipI(f:Int->Int->Int):TIp:=λx y H Q=>∃i j,x = .int i/\y = .int j/\Q (.int (f i j)) H
theorem zx2:PIp X .Add (ipI λi j=>i+j):=by
 intro pins s σ H x y v u Q I r1 r2 h;obtain⟨i,j,e1,e2,q⟩:=h;subst e1;subst e2;obtain⟨t,rfl⟩:=r1;obtain⟨t',rfl⟩:=r2;exact iadd_int ⟨.int _,H,I.tok _,⟨_,rfl⟩,q⟩
end
section
variable {X:Cx}{pos:Pos}
def zlg(c:TT)(tb:TS):TS:=λD σ H=>∃W:Nat->St->Hp->Prop,(∃m,W m σ H)/\∀m σ H,W m σ H ->
 c σ H λb H1=>if b=true then ∃N:St->Hp->Prop,(∀σ' H',N σ' H'->∃m',m'<m/\W m' σ' H')/\tb { D with nx:=N,ct:=N,bk:=D.nx } σ H1 else D.nx σ H1
theorem zmh{body:List Stmt}(hp:PassesOwn (model X.prog X.w) X.A X.env X.xe)(hc:PT X c tc)(hb:PSs X body tb):PS X (.While c body [] pos) (zlg tc tb):=by
 intro pins s σ H D I h;obtain⟨W,⟨m0,w0⟩,turn⟩:=h;refine wpAny_While (codeAny_whileLoop (λn s'=>∃σ' H',Inv X pins σ' H' s'/\W n σ' H') ?_ m0 ⟨σ,H,I,w0⟩);rintro n s1 ⟨σ1,H1,I1,w1⟩;refine UC hp (thn (hc pins s1 σ1 H1 _ I1 (turn n σ1 H1 w1)) λb s2 zz=>?_);obtain⟨H2,I2,q2⟩:=zz
 cases b with
 | true=>
   obtain⟨N,hN,q2⟩:=q2;rw[GO rfl];refine UC hp (thn (hb pins s2 σ1 H2 _ I2 q2) λf s3 q3=>?_)
   cases f with
   | next=>
     obtain⟨σ3,H3,I3,n3⟩:=q3;obtain⟨m',hm,w3⟩:=hN σ3 H3 n3;exact⟨m',hm,σ3,H3,I3,w3⟩
   | cont=>
     obtain⟨σ3,H3,I3,n3⟩:=q3;obtain⟨m',hm,w3⟩:=hN σ3 H3 n3;exact⟨m',hm,σ3,H3,I3,w3⟩
   | brk=>exact q3
   | ret v=>exact q3
 | false=>
   rw[GP Q3];exact UX ⟨σ1,H2,I2,q2⟩
end
structure It where
 go:Nat->Hp->Prop
 yld:Nat->Hp->V->Hp->Prop
 stop:Nat->Hp->Prop
def FpOk(X:Cx)(pins:List (Addr×Obj))(H:Hp)(b:Addr):Prop :=
 H b=none/\b≠X.env.locals/\b ∉ X.fs/\(b∈X.ex\/X.s₀.heap.objs.size<=b)/\(∀x c,X.env.cells.lookup x=some c->c≠b)/\∀p∈X.pn++pins,p.1≠b
theorem Inv.fpOk{pins:List (Addr×Obj)}(I:Inv X pins σ H s)(hb:s.heap.objs.size<=b)(hn:H' b=none):FpOk X pins H' b:=by
 refine⟨hn,Nat.ne_of_gt (Q2 I.lt hb),I.nofs hb,.inr (Qy I.sz hb),λx c e z=>?_,λp hp z=>?_⟩
 .obtain⟨v,q⟩:=I.cell x c e;exact absurd (Q2 q.lt (by rw[z];exact hb)) (QY _)
 .exact absurd (Q2 (Qv (I.pin p hp).1) (by rw[z];exact hb)) (QY _)
structure Turn(P:Um)(w:Uq)(K:Qa)(tg:Expr)(J:It)(fp:List Addr)(it:Addr)(tn:Nat->Heap->Prop):Prop where
 mem:it∈fp
 obj:∀i h,tn i h->∀b∈fp,∃o,h.get? b=some o/\∀v,o.data≠.cell v
 keep:∀i h h',tn i h->(∀b∈fp,∀o,h.get? b=some o->h'.get? b=some o)->tn i h'
 item:∀(X:Cx),X.prog=P->X.w=w->X.K=K->X.calm=true->∀(i:Nat) (pins:List (Addr×Obj)) (s:Ui) (σ:St) (H:Hp) (E:Uf->Ui->Prop),Inv X pins σ H s->(∀b∈fp,FpOk X pins H b)->tn i s.heap->J.go i H ->
  wpAny (model P w) X.A (pyNext (.ref it)) (λr s1=>∃u,r=some u /\
   wpAny (model P w) X.A (UW tg (.ref it) u) (λ_ s2=>∃x H',Inv X pins σ H' s2/\RelV x u/\J.yld i H x H'/\tn (i+1) s2.heap/\∀b∈fp,H' b=none) E s1) E s
 done:∀(X:Cx),X.prog=P->X.w=w->X.K=K->X.calm=true->∀(i:Nat) (pins:List (Addr×Obj)) (s:Ui) (σ:St) (H:Hp) (E:Uf->Ui->Prop),Inv X pins σ H s->(∀b∈fp,FpOk X pins H b)->tn i s.heap->J.stop i H ->
  wpAny (model P w) X.A (pyNext (.ref it)) (λr s1=>r=none/\Inv X pins σ H s1) E s
 self:∀(A:Us) (i:Nat) (s:Ui) (Q:Uf->Ui->Prop) (E:Uf->Ui->Prop),tn i s.heap->Q (.ref it) s->wpAny (model P w) A (pyIter (.ref it)) Q E s
abbrev TI:=St->Hp->(It->Hp->Prop)->Prop
def PIE(X:Cx)(pins:List (Addr×Obj))(σ:St)(tg:Expr)(R:It->Hp->Prop)(itv:Uf)(s2:Ui):Prop :=
 ∃(it:Addr) (fp:List Addr) (tn:Nat->Heap->Prop) (J:It) (H':Hp),itv = .ref it/\Inv X pins σ H' s2/\Turn X.prog X.w X.K tg J fp it tn/\tn 0 s2.heap/\(∀b∈fp,FpOk X pins H' b)/\R J H'
def PI(X:Cx)(tg iter:Expr)(wi:TI):Prop :=
 ∀(pins:List (Addr×Obj)) (s:Ui) (σ:St) (H:Hp) (R:It->Hp->Prop),Inv X pins σ H s->wi σ H R ->
   wpAny (model X.prog X.w) X.A (eval iter X.env) (λv s1=>wpAny (model X.prog X.w) X.A (pyIter v) (PIE X pins σ tg R) X.xe s1) X.xe s
theorem zke(ho:s.heap.get? it=some o)(hc:o.cls = .type n)(hd:o.data = .fields vs)
 (hn:["enumerate", "zip", "dict_itemiterator", "dict_reverseitemiterator", "odict_iterator", "itertools.zip_longest", "itertools.pairwise"].contains n=false) (hQ:Q () s):wpAny M A (UW tg (.ref it) u) Q E s:=by
 unfold UW
 cases tg <;> first
  | exact Uo hQ
  | (cases u <;> first
   | exact Uo hQ
   | (refine Uh (wpAny_load ho ?_)
      rw[hc,hd];show wpAny M A (if(["enumerate", "zip", "dict_itemiterator", "dict_reverseitemiterator", "odict_iterator", "itertools.zip_longest", "itertools.pairwise"].contains n && vs[0]? == some (U1 _))=true then _ else _) Q E s;rw[GP (by intro h;rw[hn,Bool.false_and] at h;cases h)]
      exact Uo hQ))
def Itl(K:Qa)(a:Addr):It :=
 ⟨λi H=>∃xs x,SqL K H a xs/\xs[i]? = some x,λi H x H'=>H'=H/\∀xs,SqL K H a xs->xs[i]? = some x,λi H=>∃xs,SqL K H a xs/\xs.length<=i⟩
def Itt(K:Qa)(a:Addr):It :=
 ⟨λi H=>∃xs x,SqT K H a xs/\xs[i]? = some x,λi H x H'=>H'=H/\∀xs,SqT K H a xs->xs[i]? = some x,λi H=>∃xs,SqT K H a xs/\xs.length<=i⟩
def Itr(lo:Int)(n:Nat):It:=⟨λi _=>i<n,λi H x H'=>H'=H/\x = .int (lo+i),λi _=>n<=i⟩
theorem zpf{P:Um}{w:Uq}{K:Qa}{tg:Expr}(a it:Addr):Turn P w K tg (Itl K a) [it] it (λi h=>h.IsListIter it a i) where
 mem:=by simp
 obj:=λi h st b hb=>by
  have e:b=it:=by simpa using hb
  subst e;obtain⟨o,e,c,d⟩:=st;exact⟨o,e,λv z=>by rw[d] at z;cases z⟩
 keep:=λi h h' st k=>st.at λo e=>k it (by simp) o e
 item:=by
  intro X hP hw hK hc i pins s σ H E I hf st hg;subst hP hw hK;obtain⟨xs,x,hq,hx⟩:=hg;obtain⟨its,rv,p,hz⟩:=I.list hq;obtain⟨u,hu,ru⟩:=rv.get hx;obtain⟨f0,f1,f2,f3,f4,f5⟩:=hf it (by simp);refine wpAny_pyNext_list_item st p.isList (x:=u) (by simpa using hu) λh' st' sb=>?_;have I1:Inv X pins σ H { s with heap:=h' }:=I.turned (t':=s.toks) (λb o hb e=>(sb.2 b hb).trans e) f0 f1 f3 f4 f5;obtain⟨o,e,c,d⟩:=id st';exact⟨u,rfl,zke (s:={ s with heap:=h' }) e c d (by decide) ⟨x,H,I1,ru,⟨rfl,λys hy=>by rw[I.list_inj hy hq];exact hx⟩,st',λb hb=>(hf b hb).1⟩⟩
 done:=by
  intro X hP hw hK hc i pins s σ H E I hf st hg;subst hP hw hK;obtain⟨xs,hq,hx⟩:=hg;obtain⟨its,rv,p,hz⟩:=I.list hq;obtain⟨f0,f1,f2,f3,f4,f5⟩:=hf it (by simp);have hl:=rv.length;exact wpAny_pyNext_list_end (I.ok.hd hc) st p.isList (by simp;lia) λh' eb=>⟨rfl,I.turned (t':=s.toks) (λb o hb e=>eb b o hb e) f0 f1 f3 f4 f5⟩
 self:=λ_ _ _ _ _ st h=>wpAny_pyIter_listiter st h
theorem zop{P:Um}{w:Uq}{K:Qa}{tg:Expr}(a it:Addr):Turn P w K tg (Itt K a) [it] it (λi h=>h.IsTupleIter it a i) where
 mem:=by simp
 obj:=λi h st b hb=>by
  have e:b=it:=by simpa using hb
  subst e;obtain⟨o,e,c,d⟩:=st;exact⟨o,e,λv z=>by rw[d] at z;cases z⟩
 keep:=λi h h' st k=>st.at λo e=>k it (by simp) o e
 item:=by
  intro X hP hw hK hc i pins s σ H E I hf st hg;subst hP hw hK;obtain⟨xs,x,hq,hx⟩:=hg;obtain⟨its,rv,p,hz⟩:=I.tuple hq;obtain⟨u,hu,ru⟩:=rv.get hx;obtain⟨f0,f1,f2,f3,f4,f5⟩:=hf it (by simp);refine wpAny_pyNext_tuple_item st (show s.heap.IsTuple a its.toArray from p) (x:=u) (by simpa using hu) λh' st' sb=>?_;have I1:Inv X pins σ H { s with heap:=h' }:=I.turned (t':=s.toks) (λb o hb e=>(sb.2 b hb).trans e) f0 f1 f3 f4 f5;obtain⟨o,e,c,d⟩:=id st';exact⟨u,rfl,zke (s:={ s with heap:=h' }) e c d (by decide) ⟨x,H,I1,ru,⟨rfl,λys hy=>by rw[I.tuple_inj hy hq];exact hx⟩,st',λb hb=>(hf b hb).1⟩⟩
 done:=by
  intro X hP hw hK hc i pins s σ H E I hf st hg;subst hP hw hK;obtain⟨xs,hq,hx⟩:=hg;obtain⟨its,rv,p,hz⟩:=I.tuple hq;obtain⟨f0,f1,f2,f3,f4,f5⟩:=hf it (by simp);have hl:=rv.length;exact wpAny_pyNext_tuple_end (I.ok.hd hc) st (show s.heap.IsTuple a its.toArray from p) (by simp;lia) λh' eb=>⟨rfl,I.turned (t':=s.toks) (λb o hb e=>eb b o hb e) f0 f1 f3 f4 f5⟩
 self:=λ_ _ _ _ _ st h=>wpAny_pyIter_tupleiter st h
theorem zot{P:Um}{w:Uq}{K:Qa}{tg:Expr}(it:Addr)(lo:Int)(n:Nat):Turn P w K tg (Itr lo n) [it] it (λi h=>IsRangeIter h it (lo+(i:Nat) * 1) ((n:Int)-(i:Nat)) 1) where
 mem:=by simp
 obj:=λi h st b hb=>by
  have e:b=it:=by simpa using hb
  subst e
  exact⟨_,st,λv z=>by
   have z':Data.fields _=Data.cell v:=z
   cases z'⟩
 keep:=λi h h' st k=>k it (by simp) _ st
 item:=by
  intro X hP hw hK hc i pins s σ H E I hf st hg;subst hP hw hK;obtain⟨f0,f1,f2,f3,f4,f5⟩:=hf it (by simp);have W:=Walks.range (prog:=X.prog) (w:=X.w) (I.ok.hd hc) it lo 1 n;refine W.item i s _ _ hg st λv h' tk hv st' kk=>?_;obtain⟨t,rfl⟩:=hv;have I1:Inv X pins σ H { s with heap:=h',toks:=tk }:=I.turned (λb o hb e=>kk b o (by simpa using hb) e) f0 f1 f3 f4 f5;refine⟨_,rfl,zke (s:={ s with heap:=h',toks:=tk }) (n := "range_iterator") st' rfl rfl (by decide) ⟨.int (lo+i),H,I1,⟨t,?_⟩,⟨rfl,rfl⟩,st',λb hb=>(hf b hb).1⟩⟩;rw[Int.mul_one]
 done:=by
  intro X hP hw hK hc i pins s σ H E I hf st hg;subst hP hw hK;obtain⟨f0,f1,f2,f3,f4,f5⟩:=hf it (by simp);exact wpAny_pyNext_range_end (I.ok.hd hc) st (by have:n<=i:=hg;lia) λh' eb=>⟨rfl,I.turned (t':=s.toks) (λb o hb e=>eb b o hb e) f0 f1 f3 f4 f5⟩
 self:=λ_ _ _ _ _ st h=>wpAny_pyIter_rangeiter st h
section
variable {X:Cx}{tg:Expr}
def zb2(K:Qa)(tl:TE):TI:=λσ H R=>tl σ H λx H1=>∃a,x = .ref a/\(∃xs,SqL K H1 a xs)/\R (Itl K a) H1
def iTup(K:Qa)(tl:TE):TI:=λσ H R=>tl σ H λx H1=>∃a,x = .ref a/\(∃xs,SqT K H1 a xs)/\R (Itt K a) H1
theorem zdn(hl:PE X l tl):PI X tg l (zb2 X.K tl):=by
 intro pins s σ H R I h;refine thn (hl pins s σ H _ I h) λv s1 zz=>?_;obtain⟨x,H1,I1,r1,q1⟩:=zz;obtain⟨a,e,⟨xs,hq⟩,q⟩:=q1;subst e;cases r1;obtain⟨its,rv,p,hz⟩:=I1.list hq;refine wpAny_pyIter_list p.isList ?_;refine⟨s1.heap.objs.size,[s1.heap.objs.size],_,_,H1,rfl,I1.kept (t':=s1.toks) λb o e=>Qj _ e,zpf a _,⟨_,Q1 _ rfl,rfl,rfl⟩,λb hb=>?_,q⟩;have e:b=s1.heap.objs.size:=by simpa using hb
 subst e;exact I1.fpOk (Qg _) (I1.hok.fresh (Qg _))
theorem zxn(hl:PE X l tl):PI X tg l (iTup X.K tl):=by
 intro pins s σ H R I h;refine thn (hl pins s σ H _ I h) λv s1 zz=>?_;obtain⟨x,H1,I1,r1,q1⟩:=zz;obtain⟨a,e,⟨xs,hq⟩,q⟩:=q1;subst e;cases r1;obtain⟨its,rv,p,hz⟩:=I1.tuple hq;refine wpAny_pyIter_tuple (show s1.heap.IsTuple a its.toArray from p) ?_;refine⟨s1.heap.objs.size,[s1.heap.objs.size],_,_,H1,rfl,I1.kept (t':=s1.toks) λb o e=>Qj _ e,zop a _,⟨_,Q1 _ rfl,rfl,rfl⟩,λb hb=>?_,q⟩;have e:b=s1.heap.objs.size:=by simpa using hb
 subst e;exact I1.fpOk (Qg _) (I1.hok.fresh (Qg _))
theorem zsx{pins:List (Addr×Obj)}{R:It->Hp->Prop}{lo hi:Int}{tk:Nat}(I:Inv X pins σ H s)(h1:-(2 ^ 62)<=lo)(h2:lo<2 ^ 62)(h3:-(2 ^ 62)<=hi)(h4:hi<2 ^ 62)
 (q:R (Itr lo (hi-lo).toNat) H):wpAny (model X.prog X.w) X.A (pyIter (.ref s.heap.objs.size)) (PIE X pins σ tg R) E { s with heap:=s.heap.push { cls:=.type "range",data:=.fields #[.int lo t,.int hi u,.int 1 v] },toks:=tk }:=by
 refine wpAny_pyIter_range (IsRange.new ..) (small_one h1 h2 h3 h4) ?_;have I1:Inv X pins σ H { s with heap:=s.heap.push { cls:=.type "range",data:=.fields #[.int lo t,.int hi u,.int 1 v] },toks:=tk }:=I.kept λb o e=>Qj _ e
 refine⟨(s.heap.push { cls:=.type "range",data:=.fields #[.int lo t,.int hi u,.int 1 v] }).objs.size,[(s.heap.push { cls:=.type "range",data:=.fields #[.int lo t,.int hi u,.int 1 v] }).objs.size],_,_,H,rfl,
  I1.kept (t':=tk) λb o e=>Qj _ e,zot _ lo (hi-lo).toNat,?_,λb hb=>?_,q⟩
 .have e1:lo+((0:Nat):Int) * 1=lo:=by simp
  have e2:(((hi-lo).toNat:Nat):Int)-((0:Nat):Int)=Builtin.Range.rangeSize lo hi 1:=by rw[rangeSize_one];split <;> lia
  show IsRangeIter _ _ (lo+((0:Nat):Int) * 1) ((((hi-lo).toNat:Nat):Int)-((0:Nat):Int)) 1;rw[e1,e2];exact Q1 _ rfl
 .have e:b=(s.heap.push { cls:=.type "range",data:=.fields #[.int lo t,.int hi u,.int 1 v] }).objs.size:=by simpa using hb
  subst e;exact I1.fpOk (Qg _) (I1.hok.fresh (Qg _))
def zn1(ta:TA):TI:=λσ H R=>ta σ H λvs H1=>∃j:Int,vs = [.int j]/\-(2 ^ 62)<=j/\j<2 ^ 62/\R (Itr 0 j.toNat) H1
theorem zjn(hg:Gl X "range")(hm:X.mg "range" = none)(ha:PA X [a] ta)(hs:Ul [a] X.env = [(false,eval a X.env)]:=by rfl):PI X tg (.Call (.Name "range" p) [a] [] pos) (zn1 ta):=by
 intro pins s σ H R I h;refine Call_ (zcs I hg hm boot_range (ZO (thn (ha pos pins s σ H _ I h) λus s1 zz=>?_) hs rfl));obtain⟨vs,H1,I1,r1,q1⟩:=zz;obtain⟨j,e,q1,q2,q⟩:=q1;subst e
 cases r1 with
 | cons r rr=>
   cases rr;obtain⟨t,rfl⟩:=r;exact call_range_1 (zsx I1 (by lia) (by lia) q1 q2 (by simpa using q))
def tFor(wi:TI)(g:TG)(tb:TS):TS:=λD σ H=>wi σ H λJ H1=>∃W:Nat->Nat->St->Hp->Prop,(∃m,W 0 m σ H1)/\∀i m σ H,W i m σ H ->
 (J.stop i H/\D.nx σ H)\/(J.go i H/\∃N:St->Hp->Prop,(∀σ' H',N σ' H'->∃m',m'<m/\W (i+1) m' σ' H')/\∀x H',J.yld i H x H'->g x σ H' λσ2 H2=>tb { D with nx:=N,ct:=N,bk:=D.nx } σ2 H2)
def zfh(fp:List Addr)(h:Heap):List (Addr×Obj):=fp.filterMap λb=>(h.get? b).map λo=>(b,o)
theorem zdk(hb:b∈fp)(e:h.get? b=some o):(b,o)∈zfh fp h:=Ve.mpr ⟨b,hb,by rw[e];rfl⟩
theorem zq7(hp:p∈zfh fp h):p.1∈fp/\h.get? p.1=some p.2:=by
 obtain⟨b,hb,e⟩:=Ve.mp hp
 cases q:h.get? b with
 | none=>rw[q] at e;cases e
 | some o=>
   rw[q] at e;have e':(b,o)=p:=QZ e;subst e';exact⟨hb,q⟩
theorem Inv.pinned{pins:List (Addr×Obj)}(I:Inv X pins σ H s)(hf:∀b∈fp,FpOk X pins H b)(ho:∀b∈fp,∃o,s.heap.get? b=some o/\∀v,o.data≠.cell v):Inv X (pins++zfh fp s.heap) σ H s :=
 I.pins_of λp hp=>(Qu.mp hp).elim (λz=>I.pin p (Qw _ z)) λz=>by
  obtain⟨hb,e⟩:=zq7 z;obtain⟨f0,f1,f2,_⟩:=hf p.1 hb;obtain⟨o,e',d⟩:=ho p.1 hb;rw[e] at e';cases e';exact⟨e,f0,f1,f2,d⟩
theorem Inv.unpinned{pins:List (Addr×Obj)}(I:Inv X (pins++pl) σ H s):Inv X pins σ H s:=I.pins_of λp hp=>I.pin p (Qw _ (Q9 _ hp))
theorem zp8{iter:Expr}{body:List Stmt}(hp:PassesOwn (model X.prog X.w) X.A X.env X.xe)(hc:X.calm=true)(hi:PI X tg iter wi)(hg:PG X tg g)(hb:PSs X body tb)
 (hs:∀x,Uw iter X.env x=pure x:=by intro _;rfl):PS X (.For tg iter body [] pos) (tFor wi g tb):=by
 intro pins s σ H D I h;refine wpAny_For (thn (hi pins s σ H _ I h) λv s1 h1=>thn h1 λitv s2 h2=>?_) hs;obtain⟨it,fp,tn,J,H2,e,I2,T,st2,f2,W,⟨m0,w0⟩,turn⟩:=h2;subst e
 -- what stays true of the iterator's objects through the loop
 have stat:∀{H':Hp},(∀b∈fp,H' b=none)->∀b∈fp,FpOk X pins H' b:=λhn b hb=>⟨hn b hb,(f2 b hb).2⟩;refine codeAny_forLoop_any (λn s'=>∃i σ' H',Inv X pins σ' H' s'/\tn i s'.heap/\(∀b∈fp,H' b=none)/\W i n σ' H') ?_ m0 ⟨0,σ,H2,I2,st2,λb hb=>(f2 b hb).1,w0⟩;rintro n s3 ⟨i,σ3,H3,I3,st3,fr3,w3⟩;rcases turn i n σ3 H3 w3 with ⟨stop,qn⟩|⟨go,N,hN,step⟩
 .refine UC hp (thn (T.done X rfl rfl rfl hc i pins s3 σ3 H3 X.xe I3 (stat fr3) st3 stop) λr s4 zz=>?_);obtain⟨hr,I4⟩:=zz;subst hr;exact UX ⟨σ3,H3,I4,qn⟩
 .refine UC hp (thn (T.item X rfl rfl rfl hc i pins s3 σ3 H3 X.xe I3 (stat fr3) st3 go) λr s4 zz=>?_);obtain⟨u,hr,h4⟩:=zz;subst hr;refine UC hp (thn h4 λ_ s5 zz=>?_);obtain⟨x,H5,I5,r5,y5,st5,fr5⟩:=zz;have I5':=I5.pinned (stat fr5) (T.obj _ _ st5);refine UC hp (thn (hg _ s5 σ3 H5 x u _ I5' r5 (step x H5 y5)) λ_ s6 zz=>?_);obtain⟨σ6,H6,I6,q6⟩:=zz;refine UC hp (thn (hb _ s6 σ6 H6 _ I6 q6) λf s7 q7=>?_)
  have again:∀{σ7:St} {H7:Hp},Inv X (pins++zfh fp s5.heap) σ7 H7 s7->N σ7 H7->∃m,m<n/\∃i σ' H',Inv X pins σ' H' s7/\tn i s7.heap/\(∀b∈fp,H' b=none)/\W i m σ' H':=λ{σ7 H7} I7 n7=>by
   obtain⟨m',hm,w7⟩:=hN σ7 H7 n7;refine⟨m',hm,i+1,σ7,H7,I7.unpinned,T.keep _ _ _ st5 λb hb o e=>(I7.pin (b,o) (Qw _ (Qw _ (zdk hb e)))).1,λb hb=>?_,w7⟩;obtain⟨o,e,d⟩:=T.obj _ _ st5 b hb;exact(I7.pin (b,o) (Qw _ (Qw _ (zdk hb e)))).2.1
  cases f with
  | next=>obtain⟨σ7,H7,I7,n7⟩:=q7;exact again I7 n7
  | cont=>obtain⟨σ7,H7,I7,n7⟩:=q7;exact again I7 n7
  | brk=>obtain⟨σ7,H7,I7,q7⟩:=q7;exact⟨σ7,H7,I7.unpinned,q7⟩
  | ret v=>obtain⟨x7,σ7,H7,I7,r7,q7⟩:=q7;exact⟨x7,σ7,H7,I7.unpinned,r7,q7⟩
end
theorem zr7{K:Qa}{a:Addr}{xs:List V}{g:TG}{tb:TS}{D:Ends}{σ:St}{H:Hp}(Pv:Nat->St->Hp->Prop)(h0:Pv 0 σ H)(hl:∀i σ H,i<=xs.length->Pv i σ H->SqL K H a xs)
 (hs:∀i x σ H,xs[i]? = some x->Pv i σ H->g x σ H λσ2 H2=>tb { D with nx:=Pv (i+1),ct:=Pv (i+1),bk:=D.nx } σ2 H2) (hd:∀σ H,Pv xs.length σ H->D.nx σ H) :
 ∃W:Nat->Nat->St->Hp->Prop,(∃m,W 0 m σ H)/\∀i m σ H,W i m σ H ->
   ((Itl K a).stop i H/\D.nx σ H)\/((Itl K a).go i H/\∃N:St->Hp->Prop,(∀σ' H',N σ' H'->∃m',m'<m/\W (i+1) m' σ' H')/\∀x H',(Itl K a).yld i H x H'->g x σ H' λσ2 H2=>tb { D with nx:=N,ct:=N,bk:=D.nx } σ2 H2):=by
 refine⟨λi m σ H=>m=xs.length-i/\i<=xs.length/\Pv i σ H,⟨xs.length,by simp,QK _,h0⟩,?_⟩;rintro i m σ H ⟨rfl,hi,p⟩;have q:=hl i σ H hi p
 by_cases hlt:i<xs.length
 .refine .inr ⟨⟨xs,xs[i],q,by simp[hlt]⟩,Pv (i+1),λσ' H' p'=>⟨xs.length-(i+1),by lia,rfl,hlt,p'⟩,λx H' y=>?_⟩;obtain⟨e,y⟩:=y;subst e;exact hs i x σ _ (y xs q) p
 .have e:i=xs.length:=by lia
  subst e;exact .inl ⟨⟨xs,q,Qg _⟩,hd σ H p⟩
abbrev R2:=V->V->Hp->VK->Prop
def OpR(X:Cx)(f:Uf->Uf->Sem Uf)(r:R2):Prop :=
 ∀(pins:List (Addr×Obj)) (s:Ui) (σ:St) (H:Hp) (x y:V) (v u:Uf) (Q:VK),Inv X pins σ H s->RelV x v->RelV y u->r x y H Q ->
   wpAny (model X.prog X.w) X.A (f v u) (EP X pins σ Q) X.xe s
def CallR(X:Cx)(f:Uf)(r:List V->Hp->VK->Prop):Prop :=
 ∀(pins:List (Addr×Obj)) (s:Ui) (σ:St) (H:Hp) (xs:List V) (us:List Uf) (Q:VK),Inv X pins σ H s->Vals xs us->r xs H Q ->
   wpAny (model X.prog X.w) X.A (call f us) (EP X pins σ Q) X.xe s
def tOp(r:R2)(ta tb:TE):TE:=λσ H Q=>ta σ H λx H1=>tb σ H1 λy H2=>r x y H2 Q
def rI(C:Int->Int->Prop)(g:Int->Int->V):R2:=λx y H Q=>∃i j,x = .int i/\y = .int j/\C i j/\Q (g i j) H
def rI0(g:Int->Int->V):R2:=λx y H Q=>∃i j,x = .int i/\y = .int j/\Q (g i j) H
section
variable {X:Cx}{a b c:Expr}{ta tb tc:TE}{pos:Pos}
theorem binT(ha:PE X a ta)(hb:PE X b tb){pins:List (Addr×Obj)}{s:Ui}{σ:St}{H:Hp}{R:V->V->Hp->Prop}(I:Inv X pins σ H s)
 (h:ta σ H λx H1=>tb σ H1 λy H2=>R x y H2) {Q:Uf->Ui->Prop} {f:Uf->Uf->Sem Uf}
 (hf:∀v u s2 x y H2,Inv X pins σ H2 s2->RelV x v->RelV y u->R x y H2->wpAny (model X.prog X.w) X.A (f v u) Q X.xe s2) :
 wpAny (model X.prog X.w) X.A (eval a X.env) (λv s₁=>wpAny (model X.prog X.w) X.A (eval b X.env) (λu s₂=>wpAny (model X.prog X.w) X.A (f v u) Q X.xe s₂) X.xe s₁) X.xe s:=by
 refine thn (ha pins s σ H _ I h) λv s1 zz=>?_;obtain⟨x,H1,I1,r1,q1⟩:=zz;refine thn (hb pins s1 σ H1 _ I1 q1) λu s2 zz=>?_;obtain⟨y,H2,I2,r2,q2⟩:=zz;exact hf v u s2 x y H2 I2 r1 r2 q2
theorem za4(ho:OpR X (UG op) r)(ha:PE X a ta)(hb:PE X b tb):PE X (.BinOp a op b pos) (tOp r ta tb):=by
 intro pins s σ H Q I h;exact wpAny_BinOp (binT ha hb I h λv u s2 x y H2 I2 rx ry q=>ho pins s2 σ H2 x y v u Q I2 rx ry q)
theorem opI{f:Uf->Uf->Sem Uf}{C:Int->Int->Prop}{g:Int->Int->Int}
 (rule:∀(i j:Int) (t u:Tok) (s:Ui) (Q:Uf->Ui->Prop) (E:Uf->Ui->Prop),C i j->Q (.int (g i j) s.toks) { s with toks:=s.toks+1 }->wpAny (model X.prog X.w) X.A (f (.int i t) (.int j u)) Q E s) :
 OpR X f (rI C λi j=>.int (g i j)):=by
 intro pins s σ H x y v u Q I rx ry h;obtain⟨i,j,rfl,rfl,hc,q⟩:=h;obtain⟨t,rfl⟩:=rx;obtain⟨t',rfl⟩:=ry;exact rule i j t t' s _ _ hc ⟨.int (g i j),H,I.tok _,⟨_,rfl⟩,q⟩
theorem opI0{f:Uf->Uf->Sem Uf}{g:Int->Int->Int}
 (rule:∀(i j:Int) (t u:Tok) (s:Ui) (Q:Uf->Ui->Prop) (E:Uf->Ui->Prop),Q (.int (g i j) s.toks) { s with toks:=s.toks+1 }->wpAny (model X.prog X.w) X.A (f (.int i t) (.int j u)) Q E s) :
 OpR X f (rI0 λi j=>.int (g i j)):=by
 intro pins s σ H x y v u Q I rx ry h;obtain⟨i,j,rfl,rfl,q⟩:=h;obtain⟨t,rfl⟩:=rx;obtain⟨t',rfl⟩:=ry;exact rule i j t t' s _ _ ⟨.int (g i j),H,I.tok _,⟨_,rfl⟩,q⟩
theorem opB0{f:Uf->Uf->Sem Uf}{g:Int->Int->Bool}
 (rule:∀(i j:Int) (t u:Tok) (s:Ui) (Q:Uf->Ui->Prop) (E:Uf->Ui->Prop),Q (.bool (g i j)) s->wpAny (model X.prog X.w) X.A (f (.int i t) (.int j u)) Q E s) :
 OpR X f (rI0 λi j=>.bl (g i j)):=by
 intro pins s σ H x y v u Q I rx ry h;obtain⟨i,j,rfl,rfl,q⟩:=h;obtain⟨t,rfl⟩:=rx;obtain⟨t',rfl⟩:=ry;exact rule i j t t' s _ _ ⟨.bl (g i j),H,I,rfl,q⟩
def CDiv(i j:Int):Prop:=0<j/\j<1073741824
def CPow(i j:Int):Prop:=0<=j/\j<=1000000/\i.natAbs<2 ^ 64
def CMul(i j:Int):Prop:=(-(2 ^ 64)<i/\i<2 ^ 64)\/(-(2 ^ 64)<j/\j<2 ^ 64)
theorem CMul.ok{i j:Int}(h:CMul i j):IntMulOk i j:=by
 rcases h with ⟨h1,h2⟩|⟨h1,h2⟩
 .exact .of_left (intBits_le_64 h1 h2)
 .exact .of_right (intBits_le_64 h1 h2)
theorem op_add:OpR X (UG .Add) (rI0 λi j=>.int (i+j)):=opI0 λ_ _ _ _ _ _ _ q=>add_int q
theorem zy0:OpR X (UG .Sub) (rI0 λi j=>.int (i-j)):=opI0 λ_ _ _ _ _ _ _ q=>sub_int q
theorem zer:OpR X (UG .Mult) (rI CMul λi j=>.int (i * j)):=opI λ_ _ _ _ _ _ _ hc q=>mul_int q hc.ok
theorem zuj:OpR X (UG .FloorDiv) (rI CDiv λi j=>.int (i / j)):=opI λi j _ _ _ _ _ hc q=>by
 have h1:(0:Int)<j:=hc.1;have h2:j<1073741824:=hc.2;exact floordiv_int (by lia) (by rw[Int.fdiv_eq_ediv_of_nonneg i (by lia)];exact q) (.inl (PyProof.noPylong_small (by lia)))
theorem zc7:OpR X (UG .Mod) (rI (λ_ j=>0<j) λi j=>.int (i % j)):=opI λi j _ _ _ _ _ hc q=>by
 have h1:(0:Int)<j:=hc;exact mod_int' (by lia) (by rw[Int.fmod_eq_emod_of_nonneg i (by lia)];exact q)
theorem zw5:OpR X (UG .Pow) (rI CPow λi j=>.int (i ^ j.toNat)):=opI λ_ _ _ _ _ _ _ hc q=>pow_int_small hc.1 hc.2.1 hc.2.2 q
end
def scal:V->V->Bool
 | .non,.non=>true | .non,.int _=>true | .int _,.non=>true | .non,.bl _=>true | .bl _,.non=>true | .non,.str _=>true | .str _,.non=>true
 | .int _,.int _=>true | .bl _,.bl _=>true | .str _,.str _=>true | .byt _,.byt _=>true
 | .int _,.str _=>true | .str _,.int _=>true | .bl _,.str _=>true | .str _,.bl _=>true
 | _,_=>false
def rEq:R2:=λx y H Q=>scal x y=true/\Q (.bl (decide (x=y))) H
theorem zu7{i j:Int}:decide (V.int i=V.int j)=(i == j):=by
 rw[Jz];simp
theorem zw1{i j:Bool}:decide (V.bl i=V.bl j)=(i == j):=by
 rw[Jz];simp
theorem zuw: decide (V.str i=V.str j)=(i == j):=by
 rw[Jz];simp
theorem zwk: decide (V.byt i=V.byt j)=(i.toList == j.toList):=by
 rw[Jz];cases i;cases j;simp
section
variable {X:Cx}{a b c:Expr}{ta tb tc:TE}{pos:Pos}
theorem zbj{pins:List (Addr×Obj)}{k k':Bool}(I:Inv X pins σ H s)(q:Q (.bl k) H)(e:k=k'):EP X pins σ Q (.bool k') s:=by
 subst e;exact⟨.bl k,H,I,rfl,q⟩
theorem zzh:OpR X (U9 .Eq) rEq:=by
 intro pins s σ H x y v u Q I rx ry h;obtain⟨hs,q⟩:=h
 cases x with
 | non=>
   cases rx
   cases y with
   | non=>cases ry;exact PySem.EqNone.eq_none_none (zbj I q (by simp))
   | bl j=>cases ry;exact PySem.EqNone.eq_none_bool (zbj I q (by simp))
   | int j=>obtain⟨t',rfl⟩:=ry;exact PySem.EqNone.eq_none_int (zbj I q (by simp))
   | str j=>obtain⟨t',rfl⟩:=ry;exact PySem.EqNone.eq_none_str (zbj I q (by simp))
   | _=>exact absurd (show false=true from hs) Q3
 | bl i=>
   cases rx
   cases y with
   | non=>cases ry;exact PySem.EqNone.eq_bool_none (zbj I q (by simp))
   | bl j=>cases ry;exact eq_bool (zbj I q zw1)
   | str j=>obtain⟨t',rfl⟩:=ry;exact PySem.EqMixed.eq_bool_str (zbj I q (by simp))
   | _=>exact absurd (show false=true from hs) Q3
 | int i=>
   obtain⟨t,rfl⟩:=rx
   cases y with
   | non=>cases ry;exact PySem.EqNone.eq_int_none (zbj I q (by simp))
   | int j=>obtain⟨t',rfl⟩:=ry;exact eq_int (zbj I q zu7)
   | str j=>obtain⟨t',rfl⟩:=ry;exact PySem.EqMixed.eq_int_str (zbj I q (by simp))
   | _=>exact absurd (show false=true from hs) Q3
 | str i=>
   obtain⟨t,rfl⟩:=rx
   cases y with
   | non=>cases ry;exact PySem.EqNone.eq_str_none (zbj I q (by simp))
   | bl j=>cases ry;exact PySem.EqMixed.eq_str_bool (zbj I q (by simp))
   | int j=>obtain⟨t',rfl⟩:=ry;exact PySem.EqMixed.eq_str_int (zbj I q (by simp))
   | str j=>obtain⟨t',rfl⟩:=ry;exact eq_str (zbj I q zuw)
   | _=>exact absurd (show false=true from hs) Q3
 | byt i=>
   obtain⟨t,rfl⟩:=rx
   cases y with
   | byt j=>obtain⟨t',rfl⟩:=ry;exact PySem.W.eq_bytes (zbj I q zwk)
   | _=>exact absurd (show false=true from hs) Q3
 | _=>cases y <;> exact absurd (show false=true from hs) Q3
theorem z0h:OpR X (U9 .Lt) (rI0 λi j=>.bl (decide (i<j))):=opB0 λ_ _ _ _ _ _ _ q=>lt_int q
theorem zub:OpR X (U9 .Gt) (rI0 λi j=>.bl (decide (j<i))):=opB0 λ_ _ _ _ _ _ _ q=>gt_int q
theorem z0b:OpR X (U9 .GtE) (rI0 λi j=>.bl (decide (j<=i))):=opB0 λ_ _ _ _ _ _ _ q=>ge_int q
theorem zun:OpR X (U9 .IsNot) (λx y H Q=>y = .non/\Q (.bl (!decide (x = .non))) H):=by
 intro pins s σ H x y v u Q I rx ry h;obtain⟨rfl,q⟩:=h;cases ry;refine isnot_none_gen (zbj I q ?_)
 cases x <;> first
  | (cases rx;rfl)
  | (obtain⟨t,rfl⟩:=rx;rfl)
theorem OpR.or(h:OpR X f r)(h':OpR X f r'):OpR X f (λx y H Q=>r x y H Q\/r' x y H Q):=by
 intro pins s σ H x y v u Q I rx ry q;rcases q with q|q
 .exact h pins s σ H x y v u Q I rx ry q
 .exact h' pins s σ H x y v u Q I rx ry q
theorem zcl(b:Expr)(h:op≠.In:=by decide)(h2:op≠.NotIn:=by decide):UN op b=false:=by
 have e1:(op == CmpOp.In)=false:=by cases op <;> first|rfl|exact absurd rfl h
 have e2:(op == CmpOp.NotIn)=false:=by cases op <;> first|rfl|exact absurd rfl h2
 cases b <;> simp[UN,e1,e2]
theorem zvb(ho:OpR X (U9 op) r)(ha:PE X a ta)(hb:PE X b tb)(hm:UN op b=false):PE X (.Compare a [op] [b] pos) (tOp r ta tb):=by
 intro pins s σ H Q I h;exact wpAny_Compare1 (binT ha hb I h λv u s2 x y H2 I2 rx ry q=>ho pins s2 σ H2 x y v u Q I2 rx ry q) hm
def zew(t:TE):TT:=λσ H Q=>t σ H λx H'=>∃k,x = .bl k/\Q k H'
theorem zel(ho:OpR X (U9 op) r)(ha:PE X a ta)(hb:PE X b tb)(hm:UN op b=false):PT X (.Compare a [op] [b] pos) (zew (tOp r ta tb)):=by
 intro pins s σ H Q I h
 refine wpAny_isTrue_Compare1 (thn (ha pins s σ H _ I h) λv s1 ⟨x,H1,I1,r1,q1⟩=>thn (hb pins s1 σ H1 _ I1 q1) λu s2 ⟨y,H2,I2,r2,q2⟩=>
  thn (ho pins s2 σ H2 x y v u _ I2 r1 r2 q2) λc s3 ⟨z,H3,I3,r3,k,e,q3⟩=>?_) hm
 subst e;cases r3;exact Ge ⟨H3,I3,q3⟩
theorem zfl:(sizeLine:Nat)<2 ^ 63:=by rw[Ur];decide
theorem op_add_str:OpR X (UG .Add) (λx y H Q=>∃i j,x = .str i/\y = .str j/\i.length+j.length<=sizeLine/\Q (.str (i++j)) H):=by
 intro pins s σ H x y v u Q I rx ry h;obtain⟨i,j,rfl,rfl,hz,q⟩:=h;obtain⟨t,rfl⟩:=rx;obtain⟨t',rfl⟩:=ry;exact add_str (λt' tk=>⟨.str (i++j),H,I.tok _,⟨_,rfl⟩,q⟩) hz
theorem zhk(r:Vals [x] us):∃u,us = [u]/\RelV x u:=by
 cases r with
 | cons r1 r2=>cases r2;exact⟨_,rfl,r1⟩
theorem z0k(r:Vals [x,y] us):∃u w',us = [u,w']/\RelV x u/\RelV y w':=by
 cases r with
 | cons r1 r2=>
   cases r2 with
   | cons r3 r4=>cases r4;exact⟨_,_,rfl,r1,r3⟩
theorem zrh(hc:X.calm=true):CallR X (.builtin "max") (λxs H Q=>∃i j,xs = [.int i,.int j]/\Q (.int (if j > i then j else i)) H):=by
 intro pins s σ H xs us Q I r h;obtain⟨i,j,rfl,q⟩:=h;obtain⟨u,w',rfl,⟨t,rfl⟩,⟨t',rfl⟩⟩:=z0k r;refine max_two_ints (I.ok.hd hc) λh' tk k=>⟨_,H,I.kept k,?_,q⟩
 by_cases hj:j > i
 .rw[GO hj,GO hj];exact⟨_,rfl⟩
 .rw[GP hj,GP hj];exact⟨_,rfl⟩
theorem zpn:CallR X (.type "int") (λxs H Q=>(∃i,xs = [.int i]/\Q (.int i) H)\/∃k,xs = [.bl k]/\Q (.int (if k then 1 else 0)) H):=by
 intro pins s σ H xs us Q I r h;rcases h with ⟨i,rfl,q⟩|⟨k,rfl,q⟩
 .obtain⟨u,rfl,t,rfl⟩:=zhk r;exact call_int_int ⟨.int i,H,I,⟨_,rfl⟩,q⟩
 .obtain⟨u,rfl,r1⟩:=zhk r;cases r1;exact call_int_bool ⟨.int (if k then 1 else 0),H,I.tok _,⟨_,rfl⟩,q⟩
def LenV(K:Qa)(x:V)(H:Hp)(n:Nat):Prop :=
 match x with
 | .str y=>y.length<=sizeLine/\n=y.length
 | .byt y=>y.size<=sizeLine/\n=y.size
 | .ref p=>(∃xs,SqL K H p xs/\n=xs.length)\/∃xs,SqT K H p xs/\n=xs.length
 | _=>False
theorem zgz:CallR X (.builtin "len") (λxs H Q=>∃x n,xs = [x]/\LenV X.K x H n/\Q (.int n) H):=by
 intro pins s σ H xs us Q I r h;obtain⟨x,n,rfl,e,q⟩:=h;obtain⟨u,rfl,rx⟩:=zhk r;have hl:=zfl;have hs:sizeLine=16777216:=Ur
 cases x with
 | str y=>
   obtain⟨t,rfl⟩:=rx;obtain⟨hy,e'⟩:y.length<=sizeLine/\n=y.length:=e;subst e';exact len_str (by lia) ⟨.int _,H,I.tok _,⟨_,rfl⟩,q⟩
 | byt y=>
   obtain⟨t,rfl⟩:=rx;obtain⟨hy,e'⟩:y.size<=sizeLine/\n=y.size:=e;subst e';exact PySem.W.len_bytes (by lia) ⟨.int _,H,I.tok _,⟨_,rfl⟩,q⟩
 | ref p=>
   cases rx;have e':(∃xs,SqL X.K H p xs/\n=xs.length)\/∃xs,SqT X.K H p xs/\n=xs.length:=e;rcases e' with ⟨xs,hx,e'⟩|⟨xs,hx,e'⟩
   .subst e';obtain⟨its,r',pl,hz⟩:=I.list hx;have hlen:=r'.length;exact Calls.call_len_list pl.isList (by simp only[Qq];lia) ⟨.int xs.length,H,I.tok _,⟨_,by simp only[Qq];rw[hlen]⟩,q⟩
   .subst e';obtain⟨its,r',pl,hz⟩:=I.tuple hx;have hlen:=r'.length;exact len_tuple pl (by simp only[Qq];lia) ⟨.int xs.length,H,I.tok _,⟨_,by simp only[Qq];rw[hlen]⟩,q⟩
 | _=>exact(show False from e).elim
end
structure ObjM(h:Heap)(x dx C:Addr)(mA:Str->Option Uf):Prop where
 obj:h.get? x=some (Y3 C dx)
 ns:h.Ns1 dx mA
 ne:dx≠x
theorem zqk{h:Heap}{dx:Addr}{mA:Str->Option Uf}(n:h.Ns1 dx mA):∃od,h.get? dx=some od/\∀name,YG name od=some (mA name):=by
 obtain⟨o,es,ep,ho,hd,hk,_,hm⟩:=n;refine⟨o,ho,λname=>?_⟩;have e:=hm name;unfold nsFind findBy at e;rw[<- Array.find?_toList] at e;unfold YG;rw[hd];dsimp only
 split
 .rename_i y q
  rw[q] at e;exact GV some e
 .rename_i q
  rw[q] at e
  have a:es.toList.any (·.refKey)=false:=by
   rw[List.any_eq_false];intro y hy;obtain⟨z,t,hkey⟩:=hk y (Array.mem_toList_iff.mp hy);simp[DictEntry.refKey,hkey]
  have a':¬es.toList.any (·.refKey)=true:=by rw[a];exact Q3
  rw[GP a'];exact GV some e
theorem ObjM.look(I:ObjM h x dx C mA):∃od,PySem.W.InstAt h x (Y3 C dx) C (some od)/\∀name,YG name od=some (mA name) :=
 let ⟨od,ho,hl⟩:=zqk I.ns
 ⟨od,⟨I.obj,rfl,rfl,ho⟩,hl⟩
theorem RelO.some_of(r:RelO (some v) o):∃u,o=some u/\RelV v u:=by
 cases o with
 | none=>exact(show False from r).elim
 | some u=>exact⟨u,rfl,r⟩
section
variable {P:Um}{w:Uq}{H H':Hp}{h h':Heap}{a C dx:Addr}{fs fs':List (Str×V)}
theorem zvt(hok:HOk P w H h)(e:H a=some (.ins C dx fs)):∃mA,ObjM h a dx C mA/\(∀f,RelO (fs.lookup f) (mA f))/\Ub mA (fs.map (·.1))/\fs.length<=1000/\H dx=some (.own a):=by
 obtain⟨d,z,ne,ob,mA,n,r,q⟩:=(show ObjOk P w H h a (.ins C dx fs) from hok a _ e);exact⟨mA,⟨ob,n,ne⟩,r,q,z,d⟩
end
structure Cls(K:Qa)(C:Addr):Prop where
 pg:V1 K C Z2=true
 hd:PySem.W.hasDictIn K C=true
 po:PySem.W.plainOver K C=true
 sa:VL K (.ref C) "__setattr__" = some (some (.builtin "object.__setattr__"))
theorem Cls.get{K:Qa}{C:Addr}(c:Cls K C)(f:Str):V1 K C f=true:=c.pg
section
variable {X:Cx}{pins:List (Addr×Obj)}{σ:St}{H:Hp}{s:Ui}{A:Us}{E:Uf->Ui->Prop}{Q:Uf->Ui->Prop}{c:Uf}{b:Bool}
inductive TyOf(K:Qa)(H:Hp):V->Uf->Prop where
 | non:TyOf K H .non (.type "NoneType")
 | bl (x:Bool):TyOf K H (.bl x) (.type "bool")
 | int (i:Int):TyOf K H (.int i) (.type "int")
 | str (x:Str):TyOf K H (.str x) (.type "str")
 | flt (x:UInt64):TyOf K H (.flt x) (.type "float")
 | lst {a:Addr} {xs:List V} (e:H a=some (.lst xs)):TyOf K H (.ref a) (.type "list")
 | frz {a:Addr} {o:Obj} {xs:List V} (e:H a=some (.frz o (.lst xs))):TyOf K H (.ref a) (.type "list")
 | tup {a:Addr} {xs:List V} (e:H a=some (.tup xs)):TyOf K H (.ref a) (.type "tuple")
 | dK {a:Addr} {kvs:List (Key×V)} (e:H a=some (.dK kvs)):TyOf K H (.ref a) (.type "dict")
 | dT {a:Addr} {kvs:List (List Key×V)} (e:H a=some (.dT kvs)):TyOf K H (.ref a) (.type "dict")
 | ins {a C dx:Addr} {fs:List (Str×V)} (e:H a=some (.ins C dx fs)) (cl:Cls K C) (ha:VL K (.ref C) "__class__" = some (some (.builtin "object.__class__")))
  (hn:PySem.W.specialIn K (.builtin "object.__class__") "__get__" = some (some (.builtin "getset_descriptor.__get__"))) (htk:PySem.W.takesIn K (.builtin "object.__class__")=some true)
  (hm:PySem.W.mroIn K C (.type "object")=some true):TyOf K H (.ref a) (.ref C)
theorem zc9(I:Inv X pins σ H s)(rx:RelV x u)(ty:TyOf X.K H x t)(e:VM X.K t c=some b)(h:∀tk,Q (.bool b) { s with toks:=tk }):
 wpAny (model X.prog X.w) A (call (.builtin "isinstance") [u,c]) Q E s:=by
 cases ty with
 | non=>cases (show u=VJ from rx);exact Zq PySem.W.kitx_none I.kIn ZQ e (λz=>nomatch z) h
 | bl y=>cases (show u=Jg y from rx);exact Zq PySem.W.kitx_bool I.kIn ZQ e (λz=>nomatch z) h
 | int i=>obtain⟨t,q⟩:=(show ∃t,u=Vy i t from rx);cases q;exact Zq PySem.W.kitx_int I.kIn ZQ e (λz=>nomatch z) h
 | str y=>obtain⟨t,q⟩:=(show ∃t,u=Vz y t from rx);cases q;exact Zq PySem.W.kitx_str I.kIn ZQ e (λz=>nomatch z) h
 | flt y=>obtain⟨t,q⟩:=(show ∃t,u=Value.float y t from rx);cases q;exact Zq PySem.W.kitx_float I.kIn ZQ e (λz=>nomatch z) h
 | @lst a xs ea=>
   cases (show u=ZD a from rx);obtain⟨_,_,n,_,h1⟩:=(show ObjOk X.prog X.w H s.heap a (.lst xs) from I.hok a _ ea);exact Zq Vp I.kIn ⟨_,h1,rfl⟩ e (λz=>nomatch z) h
 | @frz a ob xs ea=>
   cases (show u=ZD a from rx);obtain⟨_,_,_,n,_,h1⟩:=(show ObjOk X.prog X.w H s.heap a (.frz ob (.lst xs)) from I.hok a _ ea);exact Zq Vp I.kIn ⟨_,h1,rfl⟩ e (λz=>nomatch z) h
 | @tup a xs ea=>
   cases (show u=ZD a from rx);obtain⟨_,_,_,p⟩:=(show ObjOk X.prog X.w H s.heap a (.tup xs) from I.hok a _ ea);obtain⟨o,h1,h2,_⟩:=p;exact Zq Vf I.kIn ⟨o,h1,h2⟩ e (λz=>nomatch z) h
 | @dK a kvs ea=>
   cases (show u=ZD a from rx);obtain⟨_,_,vs,_,p⟩:=(show ObjOk X.prog X.w H s.heap a (.dK kvs) from I.hok a _ ea);obtain⟨o,es,ep,h1,h2,_⟩:=p;exact Zq Vq I.kIn ⟨o,h1,h2.1⟩ e (λz=>nomatch z) h
 | @dT a kvs ea=>
   cases (show u=ZD a from rx);obtain⟨_,_,xs,_,o,es,ep,h1,h2,_⟩:=(show ObjOk X.prog X.w H s.heap a (.dT kvs) from I.hok a _ ea);exact Zq Vq I.kIn ⟨o,h1,h2.1⟩ e (λz=>nomatch z) h
 | @ins a C dx fs ea cl ha hn htk hm=>
   cases (show u=ZD a from rx);obtain⟨mA,O,_⟩:=zvt I.hok ea;obtain⟨od,J,_⟩:=O.look;exact Zq (PySem.W.kitx_own (cl.get _) cl.hd ha hn htk hm) I.kIn J e (λz=>nomatch z) h
end
structure Room(k:Nat)(A:Us):Prop where
 hd:A.handled=none
 dp:A.depth+3 * k+5<recursionLimit
 un:A.units+16 * k+200<GF
 gd:A.guards=some []
theorem Room.mono{j k:Nat}(r:Room k A)(h:j<=k):Room j A:=⟨r.hd,by have:=r.dp;lia,by have:=r.un;lia,r.gd⟩
theorem Room.deeper{k:Nat}(r:Room (k+1) A)(env:Env):Room k (A.deeper env) :=
 ⟨r.hd,by have:=r.dp;show A.depth+1+3 * k+5<_;lia,by have:=r.un;show A.units+3+16 * k+200<_;lia,r.gd⟩
theorem Room.depth{k:Nat}(r:Room k A):A.depth<recursionLimit:=by have:=r.dp;lia
theorem Room.units{k:Nat}(r:Room k A):A.units+64<GF:=by have:=r.un;lia
def tNil:TA:=λ_ H Q=>Q [] H
def zat(ta:TE)(tr:TA):TA:=λσ H Q=>ta σ H λx H1=>tr σ H1 λxs H2=>Q (x::xs) H2
section
variable {X:Cx}{e:Expr}{es:List Expr}{te:TE}{t:TA}{pos:Pos}
theorem zbg:PA X [] tNil:=λ_ _ _ _ H Q I h=>ZW ⟨[],H,I,.nil,h⟩
theorem zaq(ha:PE X e te)(hr:PA X es t)(hs:Ul (e::es) X.env=(false,eval e X.env)::Ul es X.env:=by rfl):PA X (e::es) (zat te t):=by
 intro pos pins s σ H Q I h;rw[hs];show wpAny _ _ (GK ((false,eval e X.env)::U7 pos (Ul es X.env))) _ _ s;refine ZE (thn (ha pins s σ H _ I h) λu s1 zz=>?_);obtain⟨x,H1,I1,r1,q1⟩:=zz;exact thn (hr pos pins s1 σ H1 _ I1 q1) λus s2 ⟨xs,H2,I2,r2,q2⟩=>⟨x::xs,H2,I2,.cons r1 r2,q2⟩
def tTup(t:TA):TE:=λσ H Q=>t σ H λxs H1=>xs.length<=sizeLine/\∀p,H1 p=none->Q (.ref p) (upd H1 p (.tup xs))
def tLst(t:TA):TE:=λσ H Q=>t σ H λxs H1=>xs.length<=sizeLine/\∀p,H1 p=none->Q (.ref p) (upd H1 p (.lst xs))
theorem zww{x1}(h:PA X es t):PE X (.Tuple es x1 pos) (tTup t):=by
 intro pins s σ H Q I hq;refine wpAny_Tuple_spliced (thn (h pos pins s σ H _ I hq) λus s1 ⟨xs,H1,I1,r,z,q⟩=>⟨by rw[<- r.length];exact z,?_⟩);have hf:H1 s1.heap.objs.size=none:=I1.hok.fresh (Qg _);refine⟨.ref s1.heap.objs.size,upd H1 s1.heap.objs.size (.tup xs),I1.laid (t':=s1.toks) (λb u e=>Qj _ e) (Qg _) ?_,rfl,q _ hf⟩;exact⟨z,us,r,⟨_,Q1 _ rfl,rfl,_,rfl⟩⟩
theorem zl3(h:PA X es t):PE X (.List es pos) (tLst t):=by
 intro pins s σ H Q I hq;refine wpAny_List_spliced (thn (h pos pins s σ H _ I hq) λus s1 ⟨xs,H1,I1,r,z,q⟩=>⟨by rw[<- r.length];exact z,?_⟩);have hf:H1 s1.heap.objs.size=none:=I1.hok.fresh (Qg _);refine⟨.ref s1.heap.objs.size,upd H1 s1.heap.objs.size (.lst xs),I1.laid (t':=s1.toks) (λb u e=>Qj _ e) (Qg _) ?_,rfl,q _ hf⟩;exact⟨z,us,0,r,Q1 _ rfl⟩
end
abbrev Sp:=List V->Hp->VK->XK->Prop
abbrev CXT:=List Env->Hp->Ui->XK->Uf->Ui->Prop
structure Env0(P:Um)(w:Uq)(K:Qa)(mg:Str->Option Uf)(base:Heap)(A:Us)(outer:List Env)(s:Ui)(H:Hp):Prop where
 frames:A.frames=some outer
 mod:Mod K mg base
 bs:∀b o,base.get? b=some o->s.heap.get? b=some o/\H b=none
 bsz:base.objs.size<=s.heap.objs.size
 funs:s.heap.FunFrames base outer
 frf:∀b∈frs outer,H b=none
 hok:HOk P w H s.heap
 bare:Gc s.gens
def CE(outer:List Env)(P:Um)(w:Uq)(H:Hp)(s:Ui)(Q:VK)(u:Uf)(s':Ui):Prop :=
 ∃v H',s'.os=s.os/\Gc s'.gens/\Un (frs outer) [] H H' s.heap s'.heap/\HOk P w H' s'.heap/\RelV v u/\Q v H'
def CR(CX:CXT)(outer:List Env)(P:Um)(w:Uq)(H:Hp)(s:Ui)(Q:VK)(E:XK)(r:Result)(s':Ui):Prop :=
 match r with
 | .ok (.ret u)=>CE outer P w H s Q u s'
 | .ok _=>False
 | .error e=>CX outer H s E e s'
structure FnOk(P:Um)(w:Uq)(K:Qa)(mg:Str->Option Uf)(base:Heap)(CX:CXT)(k:Nat)(f:Addr)(fd:UH)(ps:List Str)(sp:Sp):Prop where
 len:∀vs H Q E,sp vs H Q E->vs.length=ps.length
 run:∀(A:Us) (outer:List Env) (s:Ui) (H:Hp) (args:Args) (us:List Uf) (vs:List V) (Q:VK) (E:XK),Room k A->Env0 P w K mg base A outer s H->G7 s fd args (ps.zip us)->Vals vs us->sp vs H Q E ->
  Gn (model P w) A (.call (.ref f) args) (CR CX outer P w H s Q E) s
theorem FnOk.mono{P:Um}{w:Uq}{K:Qa}{mg:Str->Option Uf}{base:Heap}{CX:CXT}{j k:Nat}{f:Addr}{fd:UH}{ps:List Str}{sp:Sp}(F:FnOk P w K mg base CX j f fd ps sp)(h:j<=k):
 FnOk P w K mg base CX k f fd ps sp:=⟨F.len,λA outer s H args us vs Q E hr=>F.run A outer s H args us vs Q E (hr.mono h)⟩
theorem Env0.in1{P:Um}{w:Uq}{K:Qa}{mg:Str->Option Uf}{base:Heap}{A:Us}{outer:List Env}{s:Ui}{H:Hp}(e:Env0 P w K mg base A outer s H):
 Env0 P w K mg base A.in1 outer s H:=⟨e.frames,e.mod,e.bs,e.bsz,e.funs,e.frf,e.hok,e.bare⟩
section
variable {X:Cx}{pins:List (Addr×Obj)}{σ:St}{H:Hp}{s s':Ui}
theorem Inv.env0(I:Inv X pins σ H s):Env0 X.prog X.w X.K X.mg X.base X.A X.stack s H :=
 ⟨I.ok.frames,I.ok.mod,I.bs,Qy I.ok.bsz I.sz,I.stack,I.stkFree,I.hok,I.bare⟩
theorem Inv.after(I:Inv X pins σ H s)(h:CE X.stack X.prog X.w H s Q u s'):EP X pins σ Q u s':=by
 obtain⟨v,H',os,bare,un,hok,r,q⟩:=h;obtain⟨hh,g,d,t,os'⟩:=s';obtain rfl:os'=s.os:=os;exact⟨v,H',I.call (h':=hh) (g':=g) (d':=d) (t':=t) (ch:=[]) un hok bare (λb z=>absurd z (by simp)),r,q⟩
end
def zb4(sp:Sp)(dvs:List V)(E:XK)(t:TA):TE:=λσ H Q=>t σ H λvs H1=>sp (vs++dvs) H1 Q E
def Binds(K:Qa)(fd:UH)(ps:List Str)(ds:List Uf):Prop :=
 ∀(s:Ui) (us:List Uf),K.In s.heap->(us++ds).length=ps.length->G7 s fd ⟨us,[]⟩ (ps.zip (us++ds))
theorem Binds.all{K:Qa}{fd:UH}{ps:List Str}(h:∀us:List Uf,us.length=ps.length->U8 fd ⟨us,[]⟩=pure (ps.zip us)):Binds K fd ps []:=λs us _ hl=>by
 rw[Qx] at hl ⊢;exact .of_eq (h us hl)
def zk9(CX:CXT)(X:Cx)(E:XK):Prop:=∀(pins:List (Addr×Obj)) (σ:St) (H:Hp) (s:Ui) (e:Uf) (s':Ui),Inv X pins σ H s->CX X.stack H s E e s'->X.xe e s'
section
variable {X:Cx}{CX:CXT}{k:Nat}{f C:Addr}{fd:UH}{ps:List Str}{sp:Sp}{dvs:List V}{ds:List Uf}{E:XK}{x m:Str}{p pos apos:Pos}{e o:Expr}{es:List Expr}{ta:TE}{t:TA}
theorem zya{pins:List (Addr×Obj)}(F:FnOk X.prog X.w X.K X.mg X.base CX k f fd ps sp)(hr:Room k X.A)(hb:Binds X.K fd ps ds)(hd:Vals dvs ds)(hx:zk9 CX X E)
 (I:Inv X pins σ H s) (r:Vals vs us) (h:sp (vs++dvs) H Q E):wpAny (model X.prog X.w) X.A (call (.ref f) us) (EP X pins σ Q) X.xe s:=by
 have r2:Vals (vs++dvs) (us++ds):=r.append hd;have hl:(us++ds).length=ps.length:=by rw[<- r2.length];exact F.len _ _ _ _ h
 refine G6 (UT (F.run X.A X.stack s H ⟨us,[]⟩ (us++ds) (vs++dvs) Q E hr I.env0 (hb s us I.kIn hl) r2 h) λr s' hq=>?_)
 cases r with
 | error e=>exact hx pins σ H s e s' I hq
 | ok fl=>
   cases fl with
   | ret u=>exact I.after hq
   | next=>exact Zl hq
   | brk=>exact Zl hq
   | cont=>exact Zl hq
theorem zc0(F:FnOk X.prog X.w X.K X.mg X.base CX k f fd ps sp)(hr:Room k X.A)(hg:Gl X x)(hm:X.mg x=some (.ref f))(hk:ZR X.K (.ref f)=true)(hb:Binds X.K fd ps ds)(hd:Vals dvs ds)(hx:zk9 CX X E)
 (ha:PA X (e::es) t) (hdb:(x == ("__debug__" : Str))=false:=by decide) (he:Ul (e::es) X.env=(false,eval e X.env)::Ul es X.env:=by rfl) (hpl:(U7 pos (Ul es X.env)).any (·.1)=false:=by rfl) :
 PE X (.Call (.Name x p) (e::es) [] pos) (zb4 sp dvs E t):=by
 intro pins s σ H Q I h;refine Uy (zih I hg hm ?_ hdb);refine PySem.W.callWith_K (h₀:=X.base) I.ok.mod.kin hk (thn (ha pos pins s σ H _ I h) λus s1 ⟨vs,H1,I1,r,q⟩=>⟨I1.kIn,?_⟩) he hpl;exact zya F hr hb hd hx I1 r q
end
structure FnScope(N P:List Str)(sc:Uz):Prop where
 kind:sc.kind = .function
 co:sc.isCoroutine=false
 gen:sc.isGenerator=false
 nd:N.Nodup
 pre:N.take P.length=P
 par:∀x∈P,sc.names.lookup x=some .local\/sc.names.lookup x=some .cell
 nofree:∀y∈sc.names,y.2≠.free
theorem zi8{kindOf:Str->Option UF}: ∀{binds:List (Str×Uf)} {m:Str->Option Uf},(∀v,(x,v) ∉ binds)->GN kindOf binds m x=m x
 | [],_,_=>rfl
 | (n,v)::r,m,h=>by
   unfold GN;rw[zi8 λw hw=>h w (Qc _ hw)]
   split
   .have:x≠n:=by rintro rfl;exact h v Ql
    simp[this]
   .rfl
theorem zjb{kindOf:Str->Option UF}: ∀{binds:List (Str×Uf)} {m:Str->Option Uf},(∀v,(x,v) ∉ binds)->GM kindOf binds m x=m x
 | [],_,_=>rfl
 | (n,v)::r,m,h=>by
   unfold GM;rw[zjb λw hw=>h w (Qc _ hw)]
   split
   .rfl
   .have:x≠n:=by rintro rfl;exact h v Ql
    simp[this]
theorem zjt{kindOf:Str->Option UF}: ∀{P:List Str} {vs:List Uf} {i:Nat} {m:Str->Option Uf},P.Nodup->P[i]? = some x->vs[i]? = some v->kindOf x=some .local ->
 GN kindOf (P.zip vs) m x=some v
 | [],_,_,_,_,h,_,_=>by simp at h
 | _::_,[],_,_,_,_,h,_=>by simp at h
 | p::P,w::vs,0,m,nd,h1,h2,hk=>by
   simp at h1 h2;subst h1;subst h2;show GN kindOf ((p,w)::P.zip vs) m p=_;unfold GN;rw[zi8 λv hv=>(QW.mp nd).1 (Y4 hv).1,GO hk];simp
 | p::P,w::vs,i+1,m,nd,h1,h2,hk=>by
   show GN kindOf ((p,w)::P.zip vs) m x=_;unfold GN;exact zjt (i:=i) (QW.mp nd).2 (by simpa using h1) (by simpa using h2) hk
theorem zjj{kindOf:Str->Option UF}: ∀{P:List Str} {vs:List Uf} {i:Nat} {m:Str->Option Uf},P.Nodup->P[i]? = some x->vs[i]? = some v->kindOf x≠some .local ->
 GM kindOf (P.zip vs) m x=some v
 | [],_,_,_,_,h,_,_=>by simp at h
 | _::_,[],_,_,_,_,h,_=>by simp at h
 | p::P,w::vs,0,m,nd,h1,h2,hk=>by
   simp at h1 h2;subst h1;subst h2;show GM kindOf ((p,w)::P.zip vs) m p=_;unfold GM;rw[zjb λv hv=>(QW.mp nd).1 (Y4 hv).1,GP hk];simp
 | p::P,w::vs,i+1,m,nd,h1,h2,hk=>by
   show GM kindOf ((p,w)::P.zip vs) m x=_;unfold GM;exact zjj (i:=i) (QW.mp nd).2 (by simpa using h1) (by simpa using h2) hk
def start(N:List Str)(vs:List V):St:=vs.map some++Qp (N.length-vs.length) none
def cxOf(CX:CXT)(P:Um)(w:Uq)(K:Qa)(mg:Str->Option Uf)(base:Heap)(N:List Str)(qual:Str)(scope:Uz)(f:Addr)(cd:Uf)(A:Us)(outer:List Env)(s:Ui)(H:Hp)(E:XK):Cx where
 prog:=P
 w:=w
 K:=K
 mg:=mg
 base:=base
 A:=A.deeper (Go qual scope s.heap.objs.size f cd)
 N:=N
 s₀:=s
 H₀:=H
 env:=Go qual scope s.heap.objs.size f cd
 outer:=outer
 stack:=Go qual scope s.heap.objs.size f cd::outer
 ex:=[]
 calm:=true
 fn:=λ_=>true
 pn:=[]
 xe:=λe s'=>wpAny (model P w) (A.deeper (Go qual scope s.heap.objs.size f cd)) (leaving (Go qual scope s.heap.objs.size f cd) e) (λ_ s''=>CX outer H s E e s'') (λe' s''=>CX outer H s E e' s'') s'
theorem zlu{sc:Uz}{n:Nat}{x:Str}(h:sc.names.lookup x=some .cell):∃c,(Ux n sc.names []).lookup x=some c:=by
 have q:=Jh sc.names n [] (.inl h);exact Z5.mp q
theorem zqy{CX:CXT}{P:Um}{w:Uq}{K:Qa}{mg:Str->Option Uf}{base:Heap}{N ps:List Str}{qual:Str}{scope:Uz}{f:Addr}{cd:Uf}{A:Us}{outer:List Env}{s s1:Ui}{H:Hp}{E:XK}{us:List Uf}{vs:List V}
 (S:FnScope N ps scope) (hd:A.handled=none) (e0:Env0 P w K mg base A outer s H) (hl:vs.length=ps.length) (r:Vals vs us)
 (x:InCallC s s.heap.objs.size (GN (Go qual scope s.heap.objs.size f cd).kindOf (ps.zip us) λ_=>none) (Ux (s.heap.objs.size+1) scope.names []) (GM (Go qual scope s.heap.objs.size f cd).kindOf (ps.zip us) λ_=>none) s1) :
 Inv (cxOf CX P w K mg base N qual scope f cd A outer s H E) [] (start N vs) H s1:=by
 have hpl:ps.length<=N.length:=by have:=GV J4 S.pre;rw[Q8] at this;lia
 obtain⟨h1,tk,rfl,hk⟩:=x.done;have noA:∀b:Addr,b ∉ (cxOf CX P w K mg base N qual scope f cd A outer s H E).ex:=λb z=>absurd (show b∈([]:List Addr) from z) (by simp)
 refine⟨⟨e0.mod,S.kind,rfl,rfl,Qg _,λy z c h1 h2=>?_,λy hy=>?_,λy c _ h=>?_,λ_=>hd,YH e0.frames,.inr ⟨rfl,rfl⟩,λb z=>absurd z (noA b),e0.bs,e0.bsz,λb _ _=>noA b,λb z=>absurd z (noA b),e0.funs,e0.frf⟩,
  rfl,e0.bare,Un.kept hk,⟨_,x.toInCall.ns,λi y v h1 h2 h3=>?_⟩,λy c h=>⟨_,x.cell y c h⟩,e0.hok.fresh (Qg _),λy c h=>?_,λp hp=>absurd (show p∈([]:List (Addr×Obj)) from hp) (by simp),e0.hok.kept hk,?_⟩
 .exact name_of_addr x.apart (Zc h1) (Zc h2)
 .have hy:scope.names.lookup y=some .cell\/scope.names.lookup y=some .free:=hy;rcases hy with hy|hy
  .exact zlu hy
  .exact absurd rfl (S.nofree _ (Zc hy))
 .exact J9 (x.above y c (Zc h))
 .have hi:i<vs.length:=by
   unfold start at h2
   by_cases hi:i<vs.length
   .exact hi
   .rw[QB (by simpa using hi)] at h2;rw[QP] at h2
    split at h2 <;> cases h2
  have ha:vs[i]? = some v:=by
   unfold start at h2;rw[Q6 (by simpa using hi),Qm] at h2
   cases e:vs[i]? with
   | none=>rw[e] at h2;cases h2
   | some a=>rw[e] at h2;cases h2;rfl
  obtain⟨u,hu,rv⟩:=r.get ha
  have hp:ps[i]? = some y:=by
   rw[<- S.pre,Jv (by lia)];exact h1
  have ndP:ps.Nodup:=by rw[<- S.pre];exact S.nd.sublist (List.take_sublist _ _)
  refine⟨u,rv,?_⟩;rcases S.par y (Q5 hp) with k|k
  .exact .inl ⟨k,zjt ndP hp hu k⟩
  .obtain⟨c,e⟩:=zlu (n:=s.heap.objs.size+1) k;refine .inr ⟨.inl k,c,e,?_⟩;have q:=x.cell y c e;rw[zjj ndP hp hu (by show scope.names.lookup y≠_;rw[k];decide)] at q;exact q
 .exact e0.hok.fresh (J9 (x.above y c (Zc h)))
 .unfold start;show _=N.length;rw[Qf,Qe,QG];lia
theorem zts{CX:CXT}{P:Um}{w:Uq}{K:Qa}{mg:Str->Option Uf}{base:Heap}{k:Nat}{f:Addr}{name qual:Str}{params:UR}{body:List Stmt}{scope:Uz}{dV kV doc pm cdv ct oc:Uf}{an od:Option Addr}
 {osl:Array (Option Uf)} {N ps:List Str} {sp:Sp} (lk:K.lookup f=some ⟨oc,od,.func (Zo name qual params body scope dV kV doc pm an cdv ct),osl⟩) (hcd:Jb K cdv qual=true) (S:FnScope N ps scope)
 (len:∀vs H Q E,sp vs H Q E->vs.length=ps.length)
 (hbody:∀(A:Us) (outer:List Env) (s:Ui) (H:Hp) (vs:List V) (Q:VK) (E:XK),Room k (A.deeper (Go qual scope s.heap.objs.size f cdv))->sp vs H Q E ->
  ∃t,PSs (cxOf CX P w K mg base N qual scope f cdv A outer s H E) body t/\t { nx:=λ_ H'=>Q .non H',rt:=Q } (start N vs) H) :
 FnOk P w K mg base CX (k+1) f (Zo name qual params body scope dV kV doc pm an cdv ct) ps sp:=by
 refine⟨len,λA outer s H args us vs Q E hr e0 hb r hsp=>?_⟩;have hl:=len _ _ _ _ hsp;have KX:K.In s.heap:=e0.mod.kin.keeps λb o e=>(e0.bs b o e).1;have lim:s.heap.NoLimit:=e0.mod.nolimit.keeps λb o e=>(e0.bs b o e).1
 have hkind:∀y∈ps.zip us,scope.names.lookup y.1=some .local\/(scope.names.lookup y.1=some .cell/\((Ux (s.heap.objs.size+1) scope.names []).lookup y.1).isSome=true):=λ⟨n,v⟩ hy=>by
  rcases S.par n (Y4 hy).1 with q|q
  .exact .inl q
  .exact .inr ⟨q,Jh _ _ _ (.inl q)⟩
 refine codeAny_call_function hr.depth (KX _ _ lk) rfl S.co S.gen rfl (PySem.W.codeRec_of KX hcd) (hb _ _ _ _ ?_);refine wpAny_newFunctionEnv_cells S.kind hkind λenv he s1 x=>?_;subst he;refine⟨lim.keeps x.toInCall.keep,codeAny_func ?_⟩;obtain⟨t,ht,hq⟩:=hbody A outer s H vs Q E (hr.deeper _) hsp;have I:Inv (cxOf CX P w K mg base N qual scope f cdv A outer s H E) [] (start N vs) H s1:=zqy S hr.hd e0 hl r x;refine Uv (ht [] s1 (start N vs) H _ I hq) (λfl s' hs=>?_) λe s' hs=>hs
 have fin:∀{σ':St} {H':Hp} {v:V} {u:Uf},Inv (cxOf CX P w K mg base N qual scope f cdv A outer s H E) [] σ' H' s'->RelV v u->Q v H'->CE outer P w H s Q u s' :=
  λ{σ' H' v u} J rv q=>⟨v,H',J.os,J.bare,J.base,J.hok,rv,q⟩
 cases fl with
 | ret u=>
   obtain⟨v,σ',H',J,rv,q⟩:=hs;exact fin J rv q
 | next=>
   obtain⟨σ',H',J,q⟩:=hs;exact fin (v:=V.non) (u:=VJ) J rfl q
 | brk=>
   obtain⟨_,_,_,q⟩:=hs;exact Zl q
 | cont=>
   obtain⟨_,_,_,q⟩:=hs;exact Zl q
section
variable {X:Cx}{x:Str}{p pos:Pos}{e:Expr}{es:List Expr}{t:TA}{id T:String}{r:List V->Hp->VK->Prop}
def tCB(r:List V->Hp->VK->Prop)(t:TA):TE:=λσ H Q=>t σ H λvs H1=>r vs H1 Q
theorem zdt(hc:CallR X (.builtin id) r)(hg:Gl X x)(hm:X.mg x=none)(hv:Uu x=some (.builtin id))(ha:PA X (e::es) t)(hn:x ≠ "__name__" := by decide)(hdb:(x == ("__debug__" : Str))=false:=by decide)
 (he:Ul (e::es) X.env=(false,eval e X.env)::Ul es X.env:=by rfl) (hpl:(U7 pos (Ul es X.env)).any (·.1)=false:=by rfl):PE X (.Call (.Name x p) (e::es) [] pos) (tCB r t):=by
 intro pins s σ H Q I h;refine Uy (zcs I hg hm hv ?_ hn hdb);exact JJ (thn (ha pos pins s σ H _ I h) λus s1 ⟨vs,H1,I1,r1,q1⟩=>hc pins s1 σ H1 vs us Q I1 r1 q1) he hpl
theorem zjc(hc:CallR X (.type T) r)(hg:Gl X x)(hm:X.mg x=none)(hv:Uu x=some (.type T))(ha:PA X (e::es) t)(hn:x ≠ "__name__" := by decide)(hdb:(x == ("__debug__" : Str))=false:=by decide)
 (he:Ul (e::es) X.env=(false,eval e X.env)::Ul es X.env:=by rfl) (hpl:(U7 pos (Ul es X.env)).any (·.1)=false:=by rfl):PE X (.Call (.Name x p) (e::es) [] pos) (tCB r t):=by
 intro pins s σ H Q I h;refine Uy (zcs I hg hm hv ?_ hn hdb);exact ZO (thn (ha pos pins s σ H _ I h) λus s1 ⟨vs,H1,I1,r1,q1⟩=>hc pins s1 σ H1 vs us Q I1 r1 q1) he hpl
end
end L2
namespace HT
open PySem PyProof.Rows
section
variable {prog:Um}{w:Uq}{A:Us}{E:Uf->Ui->Prop}{s:Ui}
theorem cat_tup(ht:IsTup s.heap t vs.toArray)(hb:IsTup s.heap b ws.toArray)(hv:vs≠[])
 (h1:ws = []->Q (.ref t) s) (h2:ws≠[]->Q (.ref s.heap.objs.size) { s with heap:=s.heap.push { cls:=.type "tuple",data:=.seq (vs++ws).toArray } })
 (hsz:vs.length+ws.length<=sizeLine):wpAny (model prog w) A (UG .Add (.ref t) (.ref b)) Q E s:=by
 obtain⟨⟨cls,dd,data,sl⟩,ho,hc,n,hd⟩:=id ht;obtain⟨⟨cls2,dd2,data2,sl2⟩,ho2,hc2,n2,hd2⟩:=id hb;simp only at hc hd hc2 hd2;subst hc hd hc2 hd2;have e:vs.toArray++ws.toArray=(vs++ws).toArray:=by simp
 by_cases hw:ws = []
 .exact G9 ⟨_,ho,rfl⟩ ⟨_,ho2,rfl⟩ Gi Gz JA J5 (Jw _ _)
   (tuple_addW1 t b vs.toArray ws.toArray n n2 dd dd2 sl sl2 (by simpa using hv) (by simp[hw])) ⟨ho,ho2,h1 hw⟩
 .refine G9 ⟨_,ho,rfl⟩ ⟨_,ho2,rfl⟩ Gi Gz JA J5 (Jw _ _)
   (tuple_addW2 t b vs.toArray ws.toArray n n2 dd dd2 sl sl2 (by simpa using hv) (by simpa using hw) (by rw[Qq,Qq];exact hsz)) ⟨ho,ho2,?_⟩
  rw[e];exact h2 hw
def sIx(n d:Nat):Option Int->Nat
 | none=>d
 | some v=>if v<0 then(v+(n:Int)).toNat else min v.toNat n
theorem sIx_le(n d:Nat)(hd:d<=n)(o:Option Int):sIx n d o<=n:=by
 cases o with
 | none=>exact hd
 | some v=>
   show(if v<0 then(v+(n:Int)).toNat else min v.toNat n)<=n
   by_cases hv:v<0
   .rw[GO hv];lia
   .rw[GP hv];exact V2 _ _
theorem clip_eq(v:Int)(n d:Nat):(if v<0 then max (v+(n:Int)) 0 else min v (n:Int))=((sIx n d (some v):Nat):Int):=by
 show(if v<0 then max (v+(n:Int)) 0 else min v (n:Int))=(((if v<0 then(v+(n:Int)).toNat else min v.toNat n):Nat):Int)
 by_cases hv:v<0
 .simp only[GO hv];lia
 .simp only[GP hv];lia
theorem zom(lo hi:Option Int)(n:Nat):Jt lo hi 1 (n:Int)=(((sIx n 0 lo:Nat):Int),((sIx n n hi:Nat):Int)):=by
 have h1:¬((1:Int)<0):=by lia
 unfold Jt;simp only[h1,GX];refine VN ?_ ?_
 .cases lo with
  | none=>rfl
  | some v=>exact clip_eq v n 0
 .cases hi with
  | none=>rfl
  | some v=>exact clip_eq v n n
theorem zoz(i j:Nat):ZU (i:Int) (j:Int) 1=j-i:=by
 unfold ZU;have h1:(1:Int) > 0:=by lia
 simp only[h1,GZ,Int.ediv_one]
 split <;> lia
theorem zg8(p:Gk v o)(h:Q o s):wpAny (model prog w) A (Builtin.Slice.slicePartIndex v) Q E s:=by
 cases p with
 | none=>exact slicePart_none h
 | int i t=>exact slicePart_int h
theorem sliceApplied_gen{sl:Addr}{vl vu:Uf}{lo hi:Option Int}{n:Nat}{Q:Int×Int×Nat->Ui->Prop}(hs:s.heap.IsSliceOf sl vl vu .none)(pl:Gk vl lo)(pu:Gk vu hi)
 (h:Q (((sIx n 0 lo:Nat):Int),1,sIx n n hi-sIx n 0 lo) s):wpAny (model prog w) A (JZ (.ref sl) (pure (n:Int))) Q E s:=by
 obtain⟨os,hos,hcs,hds⟩:=id hs;unfold JZ Builtin.Slice.sliceFields;refine Uh (Uh (GI hos hds (x:=vl) rfl (Uh (GI hos hds (x:=vu) rfl (Uh (GI hos hds (x:=.none) rfl (Uo ?_)))))));refine Uh (slicePart_none ?_);show wpAny _ _ (if((1:Int) == 0)=true then _ else _) _ _ s;rw[GP (by decide)];refine Uh (zg8 pl (Uh (zg8 pu (Uh (Uo ?_)))));show wpAny _ _ (match Jt lo hi 1 (n:Int) with|(lo,hi)=>pure (lo,(1:Int),ZU lo hi 1)) _ _ s;rw[zom lo hi n];show wpAny _ _ (pure (((sIx n 0 lo:Nat):Int),(1:Int),ZU ((sIx n 0 lo:Nat):Int) ((sIx n n hi:Nat):Int) 1)) _ _ s;rw[zoz];exact Uo h
theorem zsd(xs:Array Uf)(i k:Nat):((Q7 k).filterMap λ(m:Nat)=>xs[((i:Int)+(m:Int) * 1).toNat]?).toArray=((xs.toList.drop i).take k).toArray:=by
 have e:(λ(m:Nat)=>xs[((i:Int)+(m:Int) * 1).toNat]?)=λm=>xs[i+m]?:=by
  funext m;have:((i:Int)+(m:Int) * 1).toNat=i+m:=by lia
  rw[this]
 rw[e];have:=pick_run xs i k;rw[List.filterMap_map] at this;have e2:((λx=>xs[x]?) ∘ λx=>i+x)=λm=>xs[i+m]?:=rfl;rw[e2] at this;rw[this]
theorem getItem_tuple_cut{t sl:Addr}{items:Array Uf}{vl vu:Uf}{lo hi:Option Int}{Q:Uf->Ui->Prop}(ht:IsTup s.heap t items)(hs:s.heap.IsSliceOf sl vl vu .none)(pl:Gk vl lo)(pu:Gk vu hi)
 (hw:¬(sIx items.size 0 lo=0/\sIx items.size items.size hi=items.size))
 (h:Q (.ref s.heap.objs.size) { s with heap:=s.heap.push { cls:=.type "tuple",data:=.seq ((items.toList.drop (sIx items.size 0 lo)).take (sIx items.size items.size hi-sIx items.size 0 lo)).toArray } })
 (hsz:items.size<=sizeLine):wpAny (model prog w) A (UU (.ref t) (.ref sl)) Q E s:=by
 have htake:sizeOk (.seq ((items.toList.drop (sIx items.size 0 lo)).take (sIx items.size items.size hi-sIx items.size 0 lo)).toArray):=by
  show((items.toList.drop (sIx items.size 0 lo)).take (sIx items.size items.size hi-sIx items.size 0 lo)).toArray.size<=sizeLine;rw[Qq,Q8,Zd,Zb];lia
 have hj:sIx items.size items.size hi<=items.size:=sIx_le _ _ (Qg _) hi;obtain⟨os,hos,hcs,hds⟩:=id hs;have hTs:s.TypeIs (.ref sl) "slice" := ⟨os,hos,hcs⟩;unfold UU
 try with_reducible refine U5 ?_
 first|refine Uh (Uo ?_)|skip
 refine Uh (wpAny_sequenceKey ht.typeIs (by decide) ?_)
 refine Uh (Gj (name:=JU "__getitem__") ht.typeIs Zj
  (wpAny_call_entry Zj ht.typeIs entry_tuple_getitem ?_ (args_tuple_getitem _ _)))
 show wpAny _ _ (Ya (.ref t) >>= _) _ _ s;refine Uh (tupleItemsOf_ ht ?_);refine Uh (Gq hTs ?_);rw[GO (by decide)];refine Uh (sliceApplied_gen hs pl pu ?_)
 have hno:¬((((sIx items.size 0 lo:Nat):Int) == 0 && (1:Int) == 1 && (sIx items.size items.size hi-sIx items.size 0 lo) == items.size)=true):=by
  intro q;rw[QR,QR] at q;have q1:((sIx items.size 0 lo:Nat):Int)=0:=eq_of_beq q.1.1;have q2:sIx items.size items.size hi-sIx items.size 0 lo=items.size:=eq_of_beq q.2;exact hw ⟨by lia,by lia⟩
 show wpAny _ _ (if(((sIx items.size 0 lo:Nat):Int) == 0 && (1:Int) == 1 && (sIx items.size items.size hi-sIx items.size 0 lo) == items.size)=true then _ else _) _ _ s;rw[GP hno,zsd]
 first
  | exact Uh (m:=Ja _) (UJ (Uo ⟨_,rfl,Uo h⟩) htake)
  | exact Uh (m:=Ja _) (UJ (Uh (Uo (Uo ⟨_,rfl,Uo h⟩))) htake)
  | exact Uh (Uh (m:=Ja _) (UJ (Uo (Uo ⟨_,rfl,Uo h⟩)) htake))
  | exact Uh (Uh (m:=Ja _) (UJ (Uo ⟨_,rfl,Uo h⟩) htake))
end
end HT
namespace L2
open PySem PySem.Spec PyProof.Rows
abbrev TO:=St->Hp->(Option Int->Hp->Prop)->Prop
def PO(X:Cx)(e:Option Expr)(t:TO):Prop :=
 ∀(pins:List (Addr×Obj)) (s:Ui) (σ:St) (H:Hp) (Q:Option Int->Hp->Prop),Inv X pins σ H s->t σ H Q ->
   wpAny (model X.prog X.w) X.A (evalPart e X.env) (λu s'=>∃o H',Inv X pins σ H' s'/\Gk u o/\Q o H') X.xe s
def zm9:TO:=λ_ H Q=>Q none H
def zkk(t:TE):TO:=λσ H Q=>t σ H λx H1=>∃i,x = .int i/\Q (some i) H1
section
variable {X:Cx}{e:Expr}{te:TE}{lo hi:Option Expr}{tl th:TO}{pos p2:Pos}
theorem zwm:PO X none zm9:=by
 intro pins s σ H Q I h;rw[evalPart_none];exact Uo ⟨none,H,I,.none,h⟩
theorem zid(h:PE X e te):PO X (some e) (zkk te):=by
 intro pins s σ H Q I hw;rw[evalPart_some];refine thn (h pins s σ H _ I hw) λu s1 zz=>?_;obtain⟨x,H1,I1,r1,q1⟩:=zz;obtain⟨i,rfl,q⟩:=q1;obtain⟨t,rfl⟩:=r1;exact⟨some i,H1,I1,.int i t,q⟩
def SlR(X:Cx)(r:V->Option Int->Option Int->Hp->VK->Prop):Prop :=
 ∀(pins:List (Addr×Obj)) (s:Ui) (σ:St) (H:Hp) (x:V) (v vl vu:Uf) (lo hi:Option Int) (sl:Addr) (Q:VK),Inv X pins σ H s->RelV x v->s.heap.IsSliceOf sl vl vu .none->Gk vl lo->Gk vu hi->r x lo hi H Q ->
   ∃T id,G5 (.type T) "__getitem__" = pure (some (.builtin id))/\s.TypeIs v T/\wpAny (model X.prog X.w) X.A (UU v (.ref sl)) (EP X pins σ Q) X.xe s
theorem SlR.or(h:SlR X r)(h':SlR X r'):SlR X (λx lo hi H Q=>r x lo hi H Q\/r' x lo hi H Q):=by
 intro pins s σ H x v vl vu lo hi sl Q I rx hs pl pu q;rcases q with q|q
 .exact h pins s σ H x v vl vu lo hi sl Q I rx hs pl pu q
 .exact h' pins s σ H x v vl vu lo hi sl Q I rx hs pl pu q
def tSl(r:V->Option Int->Option Int->Hp->VK->Prop)(te:TE)(tl th:TO):TE:=λσ H Q=>te σ H λx H1=>tl σ H1 λl H2=>th σ H2 λu H3=>r x l u H3 Q
theorem zlr(hr:SlR X r)(he:PE X e te)(hl:PO X lo tl)(hu:PO X hi th):PE X (.Subscript e (.Slice lo hi none p2) pos) (tSl r te tl th):=by
 intro pins s σ H Q I h;refine Subscript_ (thn (he pins s σ H _ I h) λv s1 zz=>?_);obtain⟨x,H1,I1,r1,q1⟩:=zz;refine wpAny_Slice (thn (hl pins s1 σ H1 _ I1 q1) λvl s2 ⟨l,H2,I2,pl,q2⟩=>thn (hu pins s2 σ H2 _ I2 q2) λvu s3 zz=>?_);obtain⟨u,H3,I3,pu,q3⟩:=zz;rw[evalPart_none];refine Uo ?_;have I4:Inv X pins σ H3 { s3 with heap:=s3.heap.push { cls:=.type "slice",data:=.fields #[vl,vu,.none] } }:=I3.kept (t':=s3.toks) λb ob q=>Qj _ q;obtain⟨T,id,hT,ht,hg⟩:=hr pins { s3 with heap:=s3.heap.push { cls:=.type "slice",data:=.fields #[vl,vu,.none] } } σ H3 x v vl vu l u s3.heap.objs.size Q I4 r1 (Heap.IsSliceOf.new ..) pl pu q3;show wpAny (model X.prog X.w) X.A (G0 e (.Slice lo hi none p2) v (.ref s3.heap.objs.size)) (EP X pins σ Q) X.xe { s3 with heap:=s3.heap.push { cls:=.type "slice",data:=.fields #[vl,vu,.none] } };exact tail_any (ops:=[.ref s3.heap.objs.size,v]) ht hT hg (by with_unfolding_all rfl)
def cutV(xs:List V)(lo hi:Option Int):List V:=(xs.drop (HT.sIx xs.length 0 lo)).take (HT.sIx xs.length xs.length hi-HT.sIx xs.length 0 lo)
theorem zgl(xs:List V)(lo hi:Option Int):(cutV xs lo hi).length<=xs.length:=by
 unfold cutV;rw[Q8,Zd];lia
def rSlT(K:Qa):V->Option Int->Option Int->Hp->VK->Prop:=λx lo hi H Q=>∃a xs,x = .ref a/\SqT K H a xs /\
 ¬(HT.sIx xs.length 0 lo=0/\HT.sIx xs.length xs.length hi=xs.length)/\∀p,H p=none->Q (.ref p) (upd H p (.tup (cutV xs lo hi)))
theorem sl_tup:SlR X (rSlT X.K):=by
 intro pins s σ H x v vl vu lo hi sl Q I rx hs pl pu h;obtain⟨a,xs,rfl,hx,hw,q⟩:=h;cases rx;obtain⟨its,r,ht,hz⟩:=I.tuple hx;have hlen:its.toArray.size=xs.length:=by rw[Qq];exact r.length.symm
 refine⟨"tuple",_,Zj.lookup,ht.typeIs,?_⟩;refine HT.getItem_tuple_cut ht hs pl pu (by rw[hlen];exact hw) ?_ (by rw[hlen];exact hz);rw[hlen];refine⟨.ref s.heap.objs.size,_,I.laid (t':=s.toks) (o:=.tup (cutV xs lo hi)) (λb ob q=>Qj _ q) (Qg _) ?_,rfl,q _ (I.hok.fresh (Qg _))⟩;exact⟨Qy (zgl xs lo hi) hz,_,(r.drop (HT.sIx xs.length 0 lo)).take (HT.sIx xs.length xs.length hi-HT.sIx xs.length 0 lo),VZ _ _⟩
def ztr(K:Qa):R2:=λx y H Q=>∃a b xs ys,x = .ref a/\y = .ref b/\SqT K H a xs/\SqT K H b ys/\xs≠[]/\xs.length+ys.length<=sizeLine /\
 (ys = []->Q (.ref a) H)/\(ys≠[]->∀p,H p=none->Q (.ref p) (upd H p (.tup (xs++ys))))
theorem Vals.nil_iff(r:Vals xs us):us = []↔xs = []:=by
 cases r with
 | nil=>simp
 | cons _ _=>simp
theorem op_catT:OpR X (UG .Add) (ztr X.K):=by
 intro pins s σ H x y v u Q I rx ry h;obtain⟨a,b,xs,ys,rfl,rfl,ha,hb,hx,hz,q1,q2⟩:=h;cases rx;cases ry;obtain⟨its,r1,p1,_⟩:=I.tuple ha;obtain⟨its2,r2,p2,_⟩:=I.tuple hb;refine HT.cat_tup p1 p2 (λz=>hx (r1.nil_iff.mp z)) (λz=>⟨.ref a,H,I,rfl,q1 (r2.nil_iff.mp z)⟩) (λz=>?_) (by rw[<- r1.length,<- r2.length];exact hz);refine⟨.ref s.heap.objs.size,_,I.laid (t':=s.toks) (o:=.tup (xs++ys)) (λb ob q=>Qj _ q) (Qg _) ?_,rfl,q2 (λw=>z (r2.nil_iff.mpr w)) _ (I.hok.fresh (Qg _))⟩;exact⟨by rw[Qf];exact hz,_,r1.append r2,VZ _ _⟩
end
def ixN(n:Nat)(i:Int):Option Nat:=if 0<=i then(if i<n then some i.toNat else none) else if -(n:Int)<=i then some (i+n).toNat else none
def atI{α:Type}(xs:List α)(i:Int):Option α:=(ixN xs.length i).bind λj=>xs[j]?
theorem znm{n:Nat}{i:Int}{j:Nat}(h:ixN n i=some j):GD i n=some j/\j<n/\-(n:Int)<=i/\i<n:=by
 unfold ixN at h
 by_cases h0:0<=i
 .rw[GO h0] at h
  by_cases h1:i<n
  .rw[GO h1] at h;have e:i.toNat=j:=QZ h;exact⟨by rw[GH h0 h1,e],by lia,by lia,h1⟩
  .rw[GP h1] at h;cases h
 .rw[GP h0] at h
  by_cases h1:-(n:Int)<=i
  .rw[GO h1] at h;have e:(i+n).toNat=j:=QZ h;exact⟨by rw[GB (by lia) h1,e],by lia,h1,by lia⟩
  .rw[GP h1] at h;cases h
theorem zi5{α:Type}{xs:List α}{i:Int}{v:α}(h:atI xs i=some v):∃j,GD i xs.length=some j/\xs[j]? = some v/\j<xs.length/\-(xs.length:Int)<=i/\i<xs.length:=by
 unfold atI at h
 cases e:ixN xs.length i with
 | none=>rw[e] at h;cases h
 | some j=>
   rw[e] at h;obtain⟨h1,h2,h3,h4⟩:=znm e;exact⟨j,h1,h,h2,h3,h4⟩
theorem zu3{α:Type}{xs:List α}{j:Nat}{v:α}(h:xs[j]? = some v):atI xs (j:Int)=some v:=by
 have hj:j<xs.length:=(Qk.mp h).1
 have e:ixN xs.length (j:Int)=some j:=by
  unfold ixN;rw[GO (by lia),GO (by lia)];simp
 unfold atI;rw[e];exact h
def zep(b:Expr):Prop:=∀o i,subscripted b false o i=operate [o,i] (UU o i)
def IxR(X:Cx)(r:R2):Prop :=
 ∀(value slice:Expr) (pins:List (Addr×Obj)) (s:Ui) (σ:St) (H:Hp) (x y:V) (v u:Uf) (Q:VK),Inv X pins σ H s->RelV x v->RelV y u->r x y H Q ->
   subscripted slice false v u=operate [v,u] (UU v u)->wpAny (model X.prog X.w) X.A (G0 value slice v u) (EP X pins σ Q) X.xe s
def MtR(X:Cx)(id:String)(r:V->List V->Hp->VK->Prop):Prop :=
 ∀(pins:List (Addr×Obj)) (s:Ui) (σ:St) (H:Hp) (x:V) (xs:List V) (v:Uf) (us:List Uf) (Q:VK),Inv X pins σ H s->RelV x v->Vals xs us->r x xs H Q ->
   wpAny (model X.prog X.w) X.A (call (.builtin id) (v::us)) (EP X pins σ Q) X.xe s
section
variable {X:Cx}{a b:Expr}{ta tb:TE}{pos:Pos}
theorem IxR.or(h:IxR X r)(h':IxR X r'):IxR X (λx y H Q=>r x y H Q\/r' x y H Q):=by
 intro value slice pins s σ H x y v u Q I rx ry q hs;rcases q with q|q
 .exact h value slice pins s σ H x y v u Q I rx ry q hs
 .exact h' value slice pins s σ H x y v u Q I rx ry q hs
theorem zkt(hr:IxR X r)(ha:PE X a ta)(hb:PE X b tb)(hs:zep b):PE X (.Subscript a b pos) (tOp r ta tb):=by
 intro pins s σ H Q I h;exact Subscript_ (binT ha hb I h λv u s2 x y H2 I2 rx ry q=>hr a b pins s2 σ H2 x y v u Q I2 rx ry q (hs _ _))
def rIxL(K:Qa):R2:=λx y H Q=>∃p xs i v,x = .ref p/\y = .int i/\SqL K H p xs/\atI xs i=some v/\Q v H
def rIxT(K:Qa):R2:=λx y H Q=>∃p xs i v,x = .ref p/\y = .int i/\SqT K H p xs/\atI xs i=some v/\Q v H
def rIxS:R2:=λx y H Q=>∃z i c,x = .str z/\y = .int i/\z.length<=sizeLine/\atI z.cps.toList i=some c/\Q (.str ⟨#[c]⟩) H
theorem ix_list:IxR X (rIxL X.K):=by
 intro value slice pins s σ H x y v u Q I rx ry h hs;obtain⟨p,xs,i,z,rfl,rfl,hq,he,q⟩:=h;cases rx;obtain⟨t,rfl⟩:=ry;obtain⟨its,r,pl,hz⟩:=I.list hq;obtain⟨j,h1,h2,h3,h4,h5⟩:=zi5 he;obtain⟨w,ew,rw'⟩:=r.get h2;have hl:=r.length;have hn:=zfl;have fin:EP X pins σ Q w s:=⟨z,H,I,rw',q⟩
 by_cases h0:0<=i
 .have hj:i.toNat=j:=by
   rw[GH h0 h5] at h1;exact QZ h1
  exact item_listR pl.isList h0 (by lia) (by rw[hj];simpa using ew) fin hs
 .have hj:(i+(its.toArray.size:Int)).toNat=j:=by
   rw[GB (by lia) h4] at h1;rw[Qq,<- hl];exact QZ h1
  exact Gp (x:=w) pl.isList.typeIs slot_list_getitem.lookup
   (wpAny_getItem_list_neg (Q:=λr s'=>r=w/\EP X pins σ Q r s') pl.isList (by lia) (by rw[Qq] <;> lia) (by lia) (by rw[hj];simpa using ew) ⟨rfl,fin⟩) hs
theorem ix_tup:IxR X (rIxT X.K):=by
 intro value slice pins s σ H x y v u Q I rx ry h hs;obtain⟨p,xs,i,z,rfl,rfl,hq,he,q⟩:=h;cases rx;obtain⟨t,rfl⟩:=ry;obtain⟨its,r,pl,hz⟩:=I.tuple hq;obtain⟨j,h1,h2,h3,h4,h5⟩:=zi5 he;obtain⟨w,ew,rw'⟩:=r.get h2;have hl:=r.length;have hn:=zfl;have fin:EP X pins σ Q w s:=⟨z,H,I,rw',q⟩
 exact Gp (x:=w) pl.typeIs slot_tuple_getitem.lookup
  (getItem_tuple (j:=j) (Q:=λr s'=>r=w/\EP X pins σ Q r s') pl (by lia) (by lia) (by rw[Qq,<- hl];exact h1) (by simpa using ew) ⟨rfl,fin⟩) hs
theorem zyh:IxR X rIxS:=by
 intro value slice pins s σ H x y v u Q I rx ry h hs;obtain⟨z,i,c,rfl,rfl,hz,he,q⟩:=h;obtain⟨t,rfl⟩:=rx;obtain⟨t',rfl⟩:=ry;obtain⟨j,h1,h2,h3,h4,h5⟩:=zi5 he;have hl:z.cps.toList.length=z.length:=by simp[Vg]
 rw[hl] at h1 h4 h5;have hn:=zfl
 exact tail_any (typeIs_str s z t) slot_str_getitem.lookup (getItem_str (c:=c) (by
  have e1:decide (i < -(2 ^ 63:Int))=false:=GT (by lia);have e2:decide (i ≥ 2 ^ 63)=false:=GT (by lia)
  rw[e1,e2,VW]) (by rw[h1];simpa using h2) ⟨.str ⟨#[c]⟩,H,I.tok _,⟨_,rfl⟩,q⟩) hs
def rIx(K:Qa):R2:=λx y H Q=>rIxL K x y H Q\/rIxT K x y H Q\/rIxS x y H Q
theorem zhf:IxR X (rIx X.K):=ix_list.or (ix_tup.or zyh)
theorem zn9(its:List Uf)(n j:Nat)(u:Uf):QS (·.setIfInBounds j u) { cls:=.type "list",data:=.seq its.toArray n } = { cls:=.type "list",data:=.seq (its.set j u).toArray n }:=by
 simp[QS]
theorem Inv.lst{pins:List (Addr×Obj)}(I:Inv X pins σ H s)(h:H p=some (.lst xs)):
 ∃(its:List Uf) (n:Nat),Vals xs its/\s.heap.get? p=some { cls:=.type "list",data:=.seq its.toArray n }/\xs.length<=sizeLine:=by
 obtain⟨z,its,n,r,e⟩:=I.hok p _ h;exact⟨its,n,r,e,z⟩
theorem Inv.lstUpd{pins:List (Addr×Obj)}{σ:St}{H:Hp}{s:Ui}{p:Addr}{xs ys:List V}{its its':List Uf}{n n':Nat}{f:Obj->Obj}(I:Inv X pins σ H s)(h:H p=some (.lst xs))
 (ho:s.heap.get? p=some { cls:=.type "list",data:=.seq its.toArray n }) (hf:f { cls:=.type "list",data:=.seq its.toArray n } = { cls:=.type "list",data:=.seq its'.toArray n' }) (r:Vals ys its') (hz:ys.length<=sizeLine) (t:Nat) :
 Inv X pins σ (upd H p (.lst ys)) { s with heap:=s.heap.update p f,toks:=t }:=by
 have e:(s.heap.update p f).get? p=some { cls:=.type "list",data:=.seq its'.toArray n' }:=by
  rw[Y8 f ho (by rw[hf] <;> rfl),hf]
 refine I.write (x:=p) (e:=p) (by rw[h];trivial) (.inl rfl) (λb u hb q=>(ZP _ _ (Zr hb)).trans q) ⟨_,e⟩ ?_;exact⟨hz,its',n',r,e⟩
def zoc:V->V->V->Hp->(Hp->Prop)->Prop:=λo i v H Q=>∃p xs k j,o = .ref p/\i = .int k/\H p=some (.lst xs)/\ixN xs.length k=some j/\Q (upd H p (.lst (xs.set j v)))
theorem zsk:PSet X zoc:=by
 intro pins s σ H o i v ov iv u Q I ro ri rv h;obtain⟨p,xs,k,j,rfl,rfl,hp,hj,q⟩:=h;cases ro;obtain⟨t,rfl⟩:=ri;obtain⟨its,n,r,ho,hz⟩:=I.lst hp;obtain⟨h1,h2,h3,h4⟩:=znm hj;have hl:=r.length;have hn:=zfl
 have I':Inv X pins σ (upd H p (.lst (xs.set j v))) { s with heap:=s.heap.update p (QS (·.setIfInBounds j u)) } :=
  I.lstUpd hp ho (zn9 its n j u) (r.set rv j) (by rw[QX];exact hz) s.toks
 by_cases h0:0<=k
 .have hk:k.toNat=j:=by
   rw[GH h0 h4] at h1;exact QZ h1
  exact PySem.W.ki_setAt ho h0 (by lia) (by rw[Qq,<- hl];exact h4) (by rw[hk];exact⟨_,I',q⟩)
 .have hk:(k+(its.toArray.size:Int)).toNat=j:=by
   rw[GB (by lia) h3] at h1;rw[Qq,<- hl];exact QZ h1
  exact PySem.W.ki_setBack ho (by lia) (by rw[Qq,<- hl];exact h3) (by lia) (by rw[hk];exact⟨_,I',q⟩)
theorem zl0(lo hi:Option Int)(n:Nat):(US lo hi none n).1=((HT.sIx n 0 lo:Nat):Int)/\(US lo hi none n).2.1=((HT.sIx n n hi:Nat):Int)/\(US lo hi none n).2.2=1:=by
 refine⟨?_,?_,rfl⟩
 .cases lo with
  | none=>simp[US,HT.sIx]
  | some i=>
    simp only[US,HT.sIx,V3,show(1:Int) > 0 by decide,GZ]
    by_cases h:i<0
    .simp only[h,GZ] <;> lia
    .simp only[h,GX] <;> lia
 .cases hi with
  | none=>simp[US,HT.sIx]
  | some i=>
    simp only[US,HT.sIx,V3,show(1:Int) > 0 by decide,GZ]
    by_cases h:i<0
    .simp only[h,GZ] <;> lia
    .simp only[h,GX] <;> lia
theorem zj4(its:List Uf)(lo hi:Option Int):slicePick its.toArray lo hi none=((its.drop (HT.sIx its.length 0 lo)).take (HT.sIx its.length its.length hi-HT.sIx its.length 0 lo)).toArray:=by
 obtain⟨h1,h2,h3⟩:=zl0 lo hi its.toArray.size;unfold slicePick;rw[h1,h2,h3];simp only[sliceRange_one,pick_run,Qq] <;> rfl
def rSlL(K:Qa):V->Option Int->Option Int->Hp->VK->Prop:=λx lo hi H Q=>∃a xs,x = .ref a/\SqL K H a xs/\∀p,H p=none->Q (.ref p) (upd H p (.lst (cutV xs lo hi)))
theorem sl_list:SlR X (rSlL X.K):=by
 intro pins s σ H x v vl vu lo hi sl Q I rx hs pl pu h;obtain⟨a,xs,rfl,hx,q⟩:=h;cases rx;obtain⟨its,r,ht,hz⟩:=I.list hx;have hlen:=r.length;refine⟨"list",_,slot_list_getitem.lookup,ht.isList.typeIs,?_⟩;refine wpAny_getItem_list_slice ht.isList hs pl pu .none (by simp) ?_ (by rw[Qq] <;> lia);rw[zj4,<- hlen];refine⟨.ref s.heap.objs.size,_,I.laid (t':=s.toks) (o:=.lst (cutV xs lo hi)) (λb ob q=>Qj _ q) (Qg _) ?_,rfl,q _ (I.hok.fresh (Qg _))⟩;exact⟨Qy (zgl xs lo hi) hz,_,0,(r.drop (HT.sIx xs.length 0 lo)).take (HT.sIx xs.length xs.length hi-HT.sIx xs.length 0 lo),Q1 _ rfl⟩
theorem CallR.or(h:CallR X f r)(h':CallR X f r'):CallR X f (λxs H Q=>r xs H Q\/r' xs H Q):=by
 intro pins s σ H xs us Q I rs q;rcases q with q|q
 .exact h pins s σ H xs us Q I rs q
 .exact h' pins s σ H xs us Q I rs q
theorem zk4:CallR X (.type "list") (λxs H Q=>∃p ys,xs = [.ref p]/\(SqL X.K H p ys\/SqT X.K H p ys)/\∀l,H l=none->Q (.ref l) (upd H l (.lst ys))):=by
 intro pins s σ H xs us Q I r h;obtain⟨p,ys,rfl,hq,q⟩:=h;obtain⟨u,rfl,rx⟩:=zhk r;cases rx
 have fin:∀(its:List Uf),Vals ys its->ys.length<=sizeLine->∀(h':Heap) (c':Nat),(∀b o',s.heap.get? b=some o'->h'.get? b=some o') ->
  h'.get? s.heap.objs.size=some { cls:=.type "list",dict:=none,data:=.seq its.toArray c',slots:=#[] }->EP X pins σ Q (.ref s.heap.objs.size) { s with heap:=h' }:=λits r' hz h' c' kp e=>
  ⟨.ref s.heap.objs.size,_,I.laid (t':=s.toks) kp (Qg _) (show ObjOk X.prog X.w _ h' _ (.lst ys) from⟨hz,its,c',r',e⟩),rfl,q _ (I.hok.fresh (Qg _))⟩
 rcases hq with hq|hq
 .obtain⟨its,r',pl,hz⟩:=I.list hq;have hlen:=r'.length;obtain⟨o,ho,hc,n,hd⟩:=pl.isList;exact call_list_seq p (.inl rfl) ho hc hd (λh' c' kp e=>fin its r' hz h' c' kp e) (by simp only[Qq] <;> lia)
 .obtain⟨its,r',pl,hz⟩:=I.tuple hq;have hlen:=r'.length;obtain⟨o,ho,hc,n,hd⟩:=pl;exact call_list_seq p (.inr rfl) ho hc hd (λh' c' kp e=>fin its r' hz h' c' kp e) (by simp only[Qq] <;> lia)
theorem zj8:CallR X (.type "tuple") (λxs H Q=>∃p ys,xs = [.ref p]/\((SqL X.K H p ys/\∀l,H l=none->Q (.ref l) (upd H l (.tup ys)))\/(SqT X.K H p ys/\Q (.ref p) H))):=by
 intro pins s σ H xs us Q I r h;obtain⟨p,ys,rfl,h⟩:=h;obtain⟨u,rfl,rx⟩:=zhk r;cases rx;rcases h with ⟨hq,q⟩|⟨hq,q⟩
 .obtain⟨its,r',pl,hz⟩:=I.list hq;have hlen:=r'.length;refine call_tuple_list pl.isList (λh' kp=>?_) (by simp only[Qq] <;> lia);have I1:Inv X pins σ H { s with heap:=h' }:=I.kept (t':=s.toks) kp
  have I2:Inv X pins σ (upd H h'.objs.size (.tup ys)) { s with heap:=h'.push { cls:=.type "tuple",data:=.seq its.toArray } } :=
   I1.laid (t':=s.toks) (λb o e=>Qj _ e) (Qg _) (show ObjOk X.prog X.w _ _ _ (.tup ys) from⟨hz,its,r',VZ _ _⟩)
  exact⟨.ref h'.objs.size,_,I2,rfl,q _ (I1.hok.fresh (Qg _))⟩
 .obtain⟨its,r',pl,hz⟩:=I.tuple hq;exact call_tuple_same pl ⟨.ref p,H,I,rfl,q⟩
def tyV(K:Qa)(T:String)(x:V)(H:Hp):Prop:=match x with
 | .str _=>T = "str"
 | .int _=>T = "int"
 | .ref p=>(T = "list" /\ ∃xs,SqL K H p xs)\/(T = "tuple" /\ ∃o,K.lookup p=some o/\o.cls = .type "tuple" /\ o.dict=none) \/
  (T = "dict" /\ ((∃kvs,H p=some (.dK kvs))\/∃kvs,H p=some (.dT kvs)))\/(T = "set" /\ ∃S n,H p=some (.set S n))
 | _=>False
theorem zqz{pins:List (Addr×Obj)}(I:Inv X pins σ H s)(r:RelV x v)(ty:tyV X.K T x H):
 s.TypeIs v T/\∀a,v = .ref a->∃ob,s.heap.get? a=some ob/\ob.dict=none:=by
 cases x with
 | str z=>
   obtain⟨t,rfl⟩:=r;cases (show T = "str" from ty);exact⟨typeIs_str s z t,λ_ e=>nomatch e⟩
 | int i=>
   obtain⟨t,rfl⟩:=r;cases (show T = "int" from ty);exact⟨typeIs_int s i t,λ_ e=>nomatch e⟩
 | ref p=>
   cases r;rcases ty with ⟨rfl,xs,hq⟩|⟨rfl,o,hk,hc,hd⟩|⟨rfl,hk⟩|⟨rfl,S,n,hk⟩
   .obtain⟨its,_,pl,_⟩:=I.list hq;refine⟨pl.isList.typeIs,λa e=>?_⟩;cases e;obtain⟨o,n,e,c,hd,_⟩:=pl;exact⟨o,e,hd⟩
   .refine⟨⟨o,I.kIn p o hk,hc⟩,λa e=>?_⟩;cases e;exact⟨o,I.kIn _ o hk,hd⟩
   .have z:∃o,s.heap.get? p=some o/\o.ExactDict:=by
     rcases hk with ⟨kvs,hk⟩|⟨kvs,hk⟩
     .obtain⟨_,_,_,_,o,_,_,e,ex,_⟩:=I.hok p _ hk;exact⟨o,e,ex⟩
     .obtain⟨_,_,_,_,o,_,_,e,ex,_⟩:=I.hok p _ hk;exact⟨o,e,ex⟩
    obtain⟨o,e,ex⟩:=z;refine⟨⟨o,e,ex.1⟩,λa e2=>?_⟩;cases e2;exact⟨o,e,ex.2.1⟩
   .obtain⟨o,_,_,_,e,ex,_⟩:=I.hok p _ hk;refine⟨⟨o,e,ex.1⟩,λa e2=>?_⟩;cases e2;exact⟨o,e,ex.2.1⟩
 | _=>exact Zl ty
def tBM0(K:Qa)(T:String)(r:V->List V->Hp->VK->Prop)(to:TE):TE:=λσ H Q=>to σ H λx H1=>tyV K T x H1/\r x [] H1 Q
def tBM(K:Qa)(T:String)(r:V->List V->Hp->VK->Prop)(to:TE)(t:TA):TE:=λσ H Q=>to σ H λx H1=>tyV K T x H1/\t σ H1 λxs H2=>r x xs H2 Q
variable {o e:Expr}{es:List Expr}{to:TE}{t:TA}{name:Str}{apos cpos:Pos}{T id:String}{r:V->List V->Hp->VK->Prop}
theorem zw2(pa:PlainAttrs T)(slot:Slot T name id)(hty:typeOf (.builtin id)=pure (.type "method_descriptor"))(hm:MtR X id r)(ho:PE X o to)
 (hbase:UM o name X.env (eval o X.env)=eval o X.env:=by rfl) (hline:(apos.endLine == cpos.line)=true:=by rfl):PE X (.Call (.Attribute o name apos) [] [] cpos) (tBM0 X.K T r to):=by
 intro pins s σ H Q I h;refine wpAny_Call_method0_late hbase hline (thn (ho pins s σ H _ I h) λv s1 zz=>?_);obtain⟨x,H1,I1,r1,ty,q1⟩:=zz;obtain⟨h1,h2⟩:=zqz I1 r1 ty;exact⟨T,id,pa,slot,hty,h1,h2,Yw rfl (PySem.evalArgs_none (hm pins s1 σ H1 x [] v [] Q I1 r1 .nil q1))⟩
theorem zhs(pa:PlainAttrs T)(slot:Slot T name id)(hty:typeOf (.builtin id)=pure (.type "method_descriptor"))(hm:MtR X id r)(ho:PE X o to)(ha:PA X (e::es) t)
 (hbase:UM o name X.env (eval o X.env)=eval o X.env:=by rfl)
 (hfew:((U7 cpos (Ul (e::es) X.env)).all (λx=>!x.1) && (G8 cpos (Gd [] X.env)).all (λx=>x.1.isSome)
  && decide ((e::es).length+([]:List UY).length+(if([]:List UY).isEmpty then 0 else 1)<30))=true:=by rfl)
 (hline:(apos.endLine == cpos.line)=true:=by rfl) (hs:Ul (e::es) X.env=(false,eval e X.env)::Ul es X.env:=by rfl) (hplain:(U7 cpos (Ul es X.env)).any (·.1)=false:=by rfl) :
 PE X (.Call (.Attribute o name apos) (e::es) [] cpos) (tBM X.K T r to t):=by
 intro pins s σ H Q I h;refine wpAny_Call_method_late hbase hfew hline rfl (thn (ho pins s σ H _ I h) λv s1 zz=>?_);obtain⟨x,H1,I1,r1,ty,q1⟩:=zz;obtain⟨h1,h2⟩:=zqz I1 r1 ty;refine⟨T,id,pa,slot,hty,h1,h2,?_⟩;have hA:=ha cpos pins s1 σ H1 _ I1 q1;rw[hs] at hA ⊢;refine Yw (by show(false || (U7 cpos (Ul es X.env)).any (·.1))=false;rw[hplain] <;> rfl) (YI ?_);exact thn hA λus s2 ⟨vs,H2,I2,r2,q2⟩=>hm pins s2 σ H2 x vs v us Q I2 r1 r2 q2
/- xs.append(e),list.index on a module's tuple .. are MtR facts of 06m -/
end
def MtM(X:Cx)(id:String)(r:V->List V->Hp->VK->Prop):Prop :=
 ∀(pins:List (Addr×Obj)) (s:Ui) (σ:St) (H:Hp) (x:V) (xs:List V) (v:Uf) (us:List Uf) (Q:VK),Inv X pins σ H s->RelV x v->Vals xs us->r x xs H Q ->
   wpAny (model X.prog X.w) X.A (call (.builtin id) (v::us)) (EP X pins σ Q) X.xe s
theorem Vals.one:∀{x:V} {us:List Uf},Vals [x] us->∃u,us = [u]/\RelV x u
 | _,_,h=>by
   cases h with
   | cons r t=>cases t;exact⟨_,rfl,r⟩
theorem Vals.zero:∀{us:List Uf},Vals [] us->us = []
 | _,.nil=>rfl
theorem Vals.dropLast(h:Vals xs us):Vals xs.dropLast us.dropLast:=by
 induction h with
 | nil=>exact .nil
 | cons r t ih=>
   cases t with
   | nil=>exact .nil
   | cons q t'=>exact .cons r ih
theorem Vals.eraseIdx:∀{xs:List V} {us:List Uf} (i:Nat),Vals xs us->Vals (xs.eraseIdx i) (us.eraseIdx i)
 | _,_,_,.nil=>.nil
 | _,_,0,.cons _ t=>t
 | _,_,i+1,.cons r t=>.cons r (Vals.eraseIdx i t)
theorem Vals.reverse(h:Vals xs us):Vals xs.reverse us.reverse:=by
 induction h with
 | nil=>exact .nil
 | cons r t ih=>rw[Vr,Vr];exact Vals.append ih (.cons r .nil)
theorem zo2{α:Type}(l:List α):l.eraseIdx (l.length-1)=l.dropLast:=by
 induction l with
 | nil=>rfl
 | cons a r ih=>
   cases r with
   | nil=>rfl
   | cons b r=>
     have e:(a::b::r).length-1=((b::r).length-1)+1:=by
      have h1:(a::b::r).length=r.length+2:=rfl;have h2:(b::r).length=r.length+1:=rfl;lia
     rw[e,J7,ih]
     all_goals rfl
theorem zji{α:Type}:∀(l:List α) (i:Nat),(l.eraseIdx i).length<=l.length
 | [],_=>Qg _
 | _::_,0=>Yi _
 | _::r,i+1=>Nat.succ_le_succ (zji r i)
section
variable {X:Cx}{pins:List (Addr×Obj)}{σ:St}{H:Hp}{s:Ui}{l b:Addr}{xs ys zs:List V}
theorem Inv.lset{its its':List Uf}{n:Nat}{f:Array Uf->Array Uf}{t':Nat}(I:Inv X pins σ H s)(hH:H l=some (.lst xs))
 (e:s.heap.get? l=some { cls:=.type "list",data:=.seq its.toArray n }) (hf:f its.toArray=its'.toArray) (hv:Vals ys its') (hz:ys.length<=sizeLine) :
 Inv X pins σ (upd H l (.lst ys)) { s with heap:=s.heap.update l (QS f),toks:=t' }:=by
 have q:=PySem.IsL.update e f;rw[hf] at q;refine I.write (x:=l) (e:=l) (by rw[hH];exact trivial) (.inl rfl) (λb' u hb hu=>(ZP s.heap (QS f) (Zr hb)).trans hu) ⟨_,q⟩ ?_;exact⟨hz,its',_,hv,q⟩
theorem Inv.lnew{t':Nat}(I:Inv X pins σ H s)(hv:Vals ys its)(hz:ys.length<=sizeLine):
 Inv X pins σ (upd H s.heap.objs.size (.lst ys)) { s with heap:=s.heap.push { cls:=.type "list",data:=.seq its.toArray },toks:=t' } :=
 I.laid (λ_ _ q=>Qj _ q) (Qg _) ⟨hz,its,0,hv,Q1 _ rfl⟩
theorem Inv.fresh(I:Inv X pins σ H s):H s.heap.objs.size=none:=I.hok.fresh (Qg _)
theorem Inv.lstM(I:Inv X pins σ H s)(hH:H l=some (.lst xs)):xs.length<=sizeLine/\∃(its:List Uf) (n:Nat),Vals xs its/\xs.length=its.length/\s.heap.get? l=some { cls:=.type "list",data:=.seq its.toArray n }:=by
 obtain⟨z,its,n,r,e⟩:=I.hok l _ hH;exact⟨z,its,n,r,r.length,e⟩
theorem zsa{n:Nat}(h:n<=sizeLine):Jx n=false:=by
 unfold Jx;exact GT (by lia)
end
section
variable {X:Cx}
def zf3:V->List V->Hp->VK->Prop:=λx vs H Q=>∃l xs y,x = .ref l/\vs = [y]/\H l=some (.lst xs)/\xs.length<sizeLine/\Q .non (upd H l (.lst (xs ++ [y])))
theorem zj0:MtM X "list.append" zf3:=by
 intro pins s σ H x vs v us Q I rx rv h;obtain⟨l,xs,y,rfl,rfl,hH,hz,q⟩:=h;cases rx;obtain⟨u,rfl,ru⟩:=rv.one;obtain⟨z,its,n,r,hl,e⟩:=I.lstM hH;refine G4 F.slot_list_append ⟨_,e,rfl⟩ F.entry_list_append (F.args_list_append_2 _ _) (PySem.list_append l its.toArray n u (by rw[Qq];lia)) ⟨e,?_⟩;refine⟨.non,_,I.lset (its':=its ++ [u]) hH e (by simp) (r.append (.cons ru .nil)) ?_,rfl,q⟩;rw[Qf,ZC];lia
def zdp:V->List V->Hp->VK->Prop:=λx vs H Q=>∃l b xs zs,x = .ref l/\vs = [.ref b]/\H l=some (.lst xs)/\H b=some (.lst zs)/\xs.length+zs.length<=sizeLine/\Q .non (upd H l (.lst (xs++zs)))
theorem zpm:MtM X "list.extend" zdp:=by
 intro pins s σ H x vs v us Q I rx rv h;obtain⟨l,b,xs,zs,rfl,rfl,hH,hB,hz,q⟩:=h;cases rx;obtain⟨u,rfl,ru⟩:=rv.one;cases ru;obtain⟨z,its,n,r,hl,e⟩:=I.lstM hH;obtain⟨z2,its2,n2,r2,hl2,e2⟩:=I.lstM hB;have hsz:its.toArray.size+its2.toArray.size<=sizeLine:=by rw[Qq,Qq];lia
 have hlong:¬(!its.toArray.isEmpty && Jx (its.toArray.size+its2.toArray.size))=true:=by
  rw[zsa hsz,VO];exact Q3
 refine G4 F.slot_list_extend ⟨_,e,rfl⟩ F.entry_list_extend (F.args_list_extend_2 _ _)
  (AutoSeq1.list_extend_list_list_0 l its.toArray n b its2.toArray n2 hlong (by rw[Qq];lia) (by lia)) ⟨e,e2,?_⟩
 refine⟨.non,_,I.lset (its':=its++its2) hH e (by simp) (r.append r2) ?_,rfl,q⟩;rw[Qf];lia
def rPop:V->List V->Hp->VK->Prop:=λx vs H Q=>∃l xs y,x = .ref l/\vs = []/\H l=some (.lst xs)/\xs[xs.length-1]? = some y/\Q y (upd H l (.lst xs.dropLast))
theorem zwx:MtM X "list.pop" rPop:=by
 intro pins s σ H x vs v us Q I rx rv h;obtain⟨l,xs,y,rfl,rfl,hH,hy,q⟩:=h;cases rx;have hus:=rv.zero;subst hus;obtain⟨z,its,n,r,hl,e⟩:=I.lstM hH;obtain⟨u,hu,ru⟩:=r.get hy
 have hy':its.toArray[its.toArray.size-1]? = some u:=by
  show its.toArray[its.length-1]? = some u;rw[<- Z3,<- hl];exact hu
 refine G4 F.slot_list_pop ⟨_,e,rfl⟩ V4 (F.args_list_pop_1 _) (MeetsSeq.list_pop_last l its.toArray n u hy' (by rw[Qq];lia)) ⟨e,?_⟩;refine⟨y,_,I.lset (its':=its.dropLast) hH e ?_ r.dropLast ?_,ru,q⟩
 .show its.toArray.eraseIdxIfInBounds (its.toArray.size-1)=its.dropLast.toArray;rw[Qq,JG,zo2]
 .rw[List.length_dropLast];lia
def zhx:V->List V->Hp->VK->Prop:=λx vs H Q=>∃l xs i k y,x = .ref l/\vs = [.int i]/\H l=some (.lst xs)/\-(2 ^ 63)<=i/\i<2 ^ 63/\GD i xs.length=some k/\xs[k]? = some y/\Q y (upd H l (.lst (xs.eraseIdx k)))
theorem zs2:MtM X "list.pop" zhx:=by
 intro pins s σ H x vs v us Q I rx rv h;obtain⟨l,xs,i,k,y,rfl,rfl,hH,h1,h2,hk,hy,q⟩:=h;cases rx;obtain⟨u,rfl,ru⟩:=rv.one;obtain⟨t,rfl⟩:=ru;obtain⟨z,its,n,r,hl,e⟩:=I.lstM hH;obtain⟨w,hw,rw'⟩:=r.get hy
 refine G4 F.slot_list_pop ⟨_,e,rfl⟩ V4 (F.args_list_pop_2 _ _)
  (MeetsSeq.list_pop_at l its.toArray n i t k w (fitsIndex_both h1 h2) (by rw[Qq,<- hl];exact hk) (by rw[<- Z3];exact hw) (by rw[Qq];lia)) ⟨e,?_⟩
 refine⟨y,_,I.lset (its':=its.eraseIdx k) hH e ?_ (r.eraseIdx k) ?_,rw',q⟩
 .show its.toArray.eraseIdxIfInBounds k=(its.eraseIdx k).toArray;rw[JG]
 .have:=zji xs k;lia
def rCat:R2:=λx y H Q=>∃l b xs zs,x = .ref l/\y = .ref b/\H l=some (.lst xs)/\H b=some (.lst zs)/\xs.length+zs.length<=sizeLine/\∀p,H p=none->Q (.ref p) (upd H p (.lst (xs++zs)))
theorem op_cat:OpR X (UG .Add) rCat:=by
 intro pins s σ H x y v u Q I rx ry h;obtain⟨l,b,xs,zs,rfl,rfl,hH,hB,hz,q⟩:=h;cases rx;cases ry;obtain⟨z,its,n,r,hl,e⟩:=I.lstM hH;obtain⟨z2,its2,n2,r2,hl2,e2⟩:=I.lstM hB;refine PySem.P.add_list e e2 ?_ (by rw[Qq,Qq];lia);have ea:its.toArray++its2.toArray=(its++its2).toArray:=by simp
 rw[ea];exact⟨.ref _,_,I.lnew (t':=s.toks) (r.append r2) (by rw[Qf];lia),rfl,q _ I.fresh⟩
end
section
variable {κ:Type}[DecidableEq κ]
def valV(kvs:List (κ×V))(k:κ):Option V:=(kvs.find? λkv=>decide (kv.1=k)).map (·.2)
def putK(kvs:List (κ×V))(k:κ)(v:V):List (κ×V) :=
 if(kvs.any λkv=>decide (kv.1=k))=true then kvs.map (λkv=>if kv.1=k then(kv.1,v) else kv) else kvs ++ [(k,v)]
theorem zgx{p:κ×V}{r:List (κ×V)}{k:κ}(e:p.1=k):valV (p::r) k=some p.2:=by simp[valV,ZA,e]
theorem zgv{p:κ×V}{r:List (κ×V)}{k:κ}(e:¬p.1=k):valV (p::r) k=valV r k:=by simp[valV,ZA,e]
theorem zkv(k:κ):∀kvs:List (κ×V),(kvs.any λkv=>decide (kv.1=k))=(valV kvs k).isSome
 | []=>rfl
 | p::r=>by
   rw[Yk]
   by_cases e:p.1=k
   .simp only[zgx e,GU e,Bool.true_or,Vh]
   .rw[zgv e,GT e,Bool.false_or];exact zkv k r
theorem zee(kvs:List (κ×V))(k:κ)(v:V):(putK kvs k v).length<=kvs.length+1:=by
 unfold putK
 split
 .rw[Qe];lia
 .rw[Qf,Qi,J0];lia
theorem RelO.isSome_eq(r:RelO o u):o.isSome=u.isSome:=by
 cases o with
 | none=>cases u with
   | none=>rfl
   | some _=>exact(show False from r).elim
 | some _=>cases u with
   | none=>exact(show False from r).elim
   | some _=>rfl
theorem KV.val(r:KV kvs vs)(k:κ):RelO (valV kvs k) (Gy vs k):=by
 unfold KV at r
 induction r with
 | nil=>exact ZQ
 | @cons p q ps qs h t ih=>
   obtain⟨h1,h2⟩:=h
   by_cases e:p.1=k
   .have e':q.1=k:=h1.symm.trans e;have b:Gy (q::qs) k=some q.2:=by simp[Gy,ZA,e']
    rw[zgx e,b];exact h2
   .have e':¬q.1=k:=λz=>e (h1.trans z);have b:Gy (q::qs) k=Gy qs k:=by simp[Gy,ZA,e']
    rw[zgv e,b];exact ih
theorem KV.any(r:KV kvs vs)(k:κ):(kvs.any λkv=>decide (kv.1=k))=vs.any λkv=>decide (kv.1=k):=by
 unfold KV at r
 induction r with
 | nil=>rfl
 | cons h t ih=>rw[Yk,Yk,ih,h.1]
theorem KV.repl(r:KV kvs vs)(k:κ)(ry:RelV y u):
 KV (kvs.map λkv=>if kv.1=k then(kv.1,y) else kv) (vs.map λkv=>if kv.1=k then(kv.1,u) else kv):=by
 unfold KV at r ⊢
 induction r with
 | nil=>exact .nil
 | @cons p q ps qs h t ih=>
   rw[QL,QL];refine .cons ?_ ih;obtain⟨h1,h2⟩:=h
   by_cases e:p.1=k
   .rw[GO e,GO (h1.symm.trans e)];exact⟨h1,ry⟩
   .rw[GP e,GP (λz=>e (h1.trans z))];exact⟨h1,h2⟩
theorem KV.put(r:KV kvs vs)(k:κ)(ry:RelV y u):KV (putK kvs k y) (stored vs k u):=by
 unfold putK stored;rw[r.any k]
 by_cases e:(vs.any λkv=>decide (kv.1=k))=true
 .rw[GO e,GO e];exact r.repl k ry
 .rw[GP e,GP e];exact Ud r ⟨rfl,ry⟩
theorem KV.length(r:KV kvs vs):kvs.length=vs.length:=YZ r
end
theorem zki(r:RelV (kV k) u):(zbb P w).is k u=true:=by
 cases k with
 | inl i=>obtain⟨t,e⟩:=(show ∃t,u=Vy i t from r);subst e;exact zm0 P w i t
 | inr x=>obtain⟨t,e⟩:=(show ∃t,u=Vz x t from r);subst e;exact zmw P w x t
theorem zjq: ∀{ks:List Key} {us:List Uf},Vals (ks.map kV) us->ItemsAre (zbb P w) ks us
 | [],_,r=>by rw[Yx] at r;cases r;exact .nil
 | k::ks,_,r=>by
   rw[QL] at r
   cases r with
   | cons h t=>exact .cons (zki h) (zjq t)
abbrev KT(H:Hp):List (List Key×V)->List (List Key×Addr×Uf)->Prop:=GC λp q=>p.1=q.1/\H q.2.1=some (.tup (p.1.map kV))/\RelV p.2 q.2.2
theorem KT.val(r:KT H kvs xs)(k:List Key):RelO (valV kvs k) ((GE xs k).map (·.2)):=by
 induction r with
 | nil=>exact ZQ
 | @cons p q ps qs h t ih=>
   obtain⟨h1,_,h2⟩:=h
   by_cases e:p.1=k
   .have e':q.1=k:=h1.symm.trans e;have b:GE (q::qs) k=some q.2:=by simp[GE,ZA,e']
    rw[zgx e,b];exact h2
   .have e':¬q.1=k:=λz=>e (h1.trans z);have b:GE (q::qs) k=GE qs k:=by simp[GE,ZA,e']
    rw[zgv e,b];exact ih
theorem KT.repl(r:KT H kvs xs)(k:List Key)(ry:RelV y u):
 KT H (kvs.map λkv=>if kv.1=k then(kv.1,y) else kv) (xs.map (putAt k u)):=by
 induction r with
 | nil=>exact .nil
 | @cons p q ps qs h t ih=>
   rw[QL,QL];refine .cons ?_ ih;obtain⟨h1,h2,h3⟩:=h;unfold putAt
   by_cases e:p.1=k
   .rw[GO e,GO (h1.symm.trans e)];exact⟨h1,h2,ry⟩
   .rw[GP e,GP (λz=>e (h1.trans z))];exact⟨h1,h2,h3⟩
theorem KT.put(r:KT H kvs xs)(k:List Key)(hb:H b=some (.tup (k.map kV)))(ry:RelV y u):
 KT H (putK kvs k y) (storedH xs k b u):=by
 have e:(kvs.any λkv=>decide (kv.1=k))=(GE xs k).isSome:=by
  rw[zkv,(r.val k).isSome_eq,Option.isSome_map]
 unfold putK storedH;rw[e]
 by_cases q:(GE xs k).isSome=true
 .rw[GO q,GO q];exact r.repl k ry
 .rw[GP q,GP q];exact Ud r ⟨rfl,hb,ry⟩
theorem KT.keeps(r:KT H kvs xs)(ht:∀b ys,H b=some (.tup ys)->H' b=some (.tup ys)):KT H' kvs xs :=
 Paired.mapP r λ_ _ z=>⟨z.1,ht _ _ z.2.1,z.2.2⟩
section
variable {P:Um}{w:Uq}{H:Hp}{h:Heap}{a:Addr}
theorem ztu(ok:HOk P w H h)(e:Rd H a u):ObjOk P w H h a u:=e.ok ok
theorem zo0(ok:HOk P w H h)(e:Rd H a (.dK kvs)):kvs.length<=sizeLine/\(a == UK)=false/\∃vs,KV kvs vs/\h.DictOf (zbb P w) a vs :=
 show ObjOk P w H h a (.dK kvs) from ztu ok e
theorem zti(ok:HOk P w H h)(e:H a=some (.dK kvs)):kvs.length<=sizeLine/\(a == UK)=false/\∃vs,KV kvs vs/\h.DictOf (zbb P w) a vs:=zo0 ok (.inl e)
theorem zln(ok:HOk P w H h)(e:H a=some (.tup (ks.map kV))):(tupleKind (zbb P w)).is h ks a:=by
 obtain⟨_,its,r,o,h1,h2,n,h3⟩:=(show ObjOk P w H h a (.tup (ks.map kV)) from ok a _ e);exact⟨o,its.toArray,n,h1,h2,h3,by simpa using zjq r⟩
theorem zn4(ok:HOk P w H h)(e:Rd H a (.dT kvs)):kvs.length<=sizeLine/\(a == UK)=false /\
 ∃xs,KT H kvs xs/\h.DictOfH (tupleKind (zbb P w)) a xs:=by
 obtain⟨z,y,xs,r,o,es,ep,h1,h2,h3,h4,h5⟩:=(show ObjOk P w H h a (.dT kvs) from ztu ok e);refine⟨z,y,xs,r,o,es,ep,h1,h2,h3,h4,λx hx=>?_,h5⟩
 have all:∀{l:List (List Key×V)} {m:List (List Key×Addr×Uf)},KT H l m->∀x∈m,(tupleKind (zbb P w)).is h x.1 x.2.1:=by
  intro l m q
  induction q with
  | nil=>intro x hx;exact nomatch hx
  | @cons p q ps qs hq t ih=>
    intro x hx;rcases Q0.mp hx with e|hx
    .subst e;exact zln ok (by rw[<- hq.1];exact hq.2.1)
    .exact ih x hx
 exact all r x hx
theorem zzv(ok:HOk P w H h)(e:H a=some (.dT kvs)):kvs.length<=sizeLine/\(a == UK)=false /\
 ∃xs,KT H kvs xs/\h.DictOfH (tupleKind (zbb P w)) a xs:=zn4 ok (.inl e)
end
def DGet(H:Hp)(a:Addr)(y:V)(r:Option V):Prop :=
 (∃kvs k,Rd H a (.dK kvs)/\y=kV k/\r=valV kvs k)\/∃kvs k b,Rd H a (.dT kvs)/\y = .ref b/\H b=some (.tup (k.map kV))/\r=valV kvs k
def DPut(H:Hp)(a:Addr)(y v:V)(H':Hp):Prop :=
 (∃kvs k,H a=some (.dK kvs)/\y=kV k/\kvs.length<sizeLine/\H'=upd H a (.dK (putK kvs k v))) \/
 ∃kvs k b,H a=some (.dT kvs)/\y = .ref b/\H b=some (.tup (k.map kV))/\kvs.length<sizeLine/\H'=upd H a (.dT (putK kvs k v))
section
variable {X:Cx}{pins:List (Addr×Obj)}{σ:St}{H:Hp}{s:Ui}{a:Addr}{y v:V}{u r:Uf}{o:Option V}{A:Us}{E:Uf->Ui->Prop}
theorem Inv.big(I:Inv X pins σ H s):UK<s.heap.objs.size:=by
 have h:mainGlobals<s.heap.objs.size:=(I.mod.glob.keeps I.bk).lt;exact Nat.lt_trans (by decide) h
theorem zpr(hu:A.units+1<GF)(I:Inv X pins σ H s)(g:DGet H a y (some v))(ry:RelV y u)(h:∀w' s',Inv X pins σ H s'->RelV v w'->Q w' s'):
 wpAny (model X.prog X.w) A (UU (.ref a) u) Q E s:=by
 rcases g with ⟨kvs,k,e,ey,l⟩|⟨kvs,k,b,e,ey,eb,l⟩
 .subst ey;obtain⟨z,hd,vs,rel,dd⟩:=zo0 I.hok e;obtain⟨w',hw,rw'⟩:=RelO.some_of (v:=v) (o:=Gy vs k) (by rw[l];exact rel.val k);exact wpAny_getItem_of (zki ry) dd.mapOf hw (h w' _ (I.tok _) rw')
 .subst ey;cases (show u=ZD b from ry);obtain⟨z,hd,xs,rel,dd⟩:=zn4 I.hok e;obtain⟨w',hw,rw'⟩:=RelO.some_of (v:=v) (o:=(GE xs k).map (·.2)) (by rw[l];exact rel.val k);obtain⟨p,hp,hp2⟩:=Qt.mp hw;refine wpAny_getItem_heap (tupleKind_room_in1 hu) (zln I.hok eb) dd hp ?_;rw[hp2];exact h w' _ (I.tok _) rw'
theorem ziq{t':Nat}(I:Inv X pins σ H s)(mu:Mut (H a))(hs:JT a s.heap h')(he:∃q,h'.get? a=some q)(new:ObjOk X.prog X.w (upd H a ob) h' a ob):
 Inv X pins σ (upd H a ob) { s with heap:=h',toks:=t' } :=
 I.write (x:=a) (e:=a) mu (.inl rfl) (λb q hb z=>(hs.2 b hb).trans z) he new
theorem zp4(z:kvs.length<=sizeLine)(hd:(a == UK)=false)(rel:KV kvs vs)(dd:h'.DictOf (zbb P w) a vs):
 ObjOk P w H' h' a (.dK kvs):=⟨z,hd,vs,rel,dd⟩
theorem zpc(hu:A.units+1<GF)(I:Inv X pins σ H s)(g:DPut H a y v H')(ry:RelV y u)(rv:RelV v r)(h:∀s',Inv X pins σ H' s'->Q () s'):
 wpAny (model X.prog X.w) A (setItem (.ref a) u r) Q E s:=by
 rcases g with ⟨kvs,k,e,ey,l,eH⟩|⟨kvs,k,b,e,ey,eb,l,eH⟩
 .subst ey eH;obtain⟨z,hd,vs,rel,dd⟩:=zti I.hok e;have hz:vs.length<=sizeLine:=by rw[<- rel.length];exact z
  have hl:(putK kvs k v).length<=sizeLine:=by have:=zee kvs k v;lia
  refine wpAny_setItem_pairs (hsz:=hz) (zki ry) dd λh' dd' hs=>h _ ?_;have he:∃q,h'.get? a=some q:=let ⟨q,_,_,hq,_⟩:=dd';⟨q,hq⟩
  exact ziq I (by rw[e];exact ZQ) hs he (zp4 hl hd (rel.put k rv) dd')
 .subst ey eH;cases (show u=ZD b from ry);obtain⟨z,hd,xs,rel,dd⟩:=zzv I.hok e;have hz:xs.length<=sizeLine:=by rw[<- YZ rel];exact z
  have hl:(putK kvs k v).length<=sizeLine:=by have:=zee kvs k v;lia
  refine wpAny_setItem_heap (hsz:=hz) (tupleKind_room_in1 hu) (zln I.hok eb) dd λh' dd' hs=>h _ ?_;obtain⟨q,es,ep,hq,h2,h3,h4,_,h5⟩:=dd';refine ziq I (by rw[e];exact ZQ) hs ⟨q,hq⟩ ⟨hl,hd,_,(rel.put k eb rv).keeps λc ys ec=>?_,q,es,ep,hq,h2,h3,h4,h5⟩;rw[zaa (z0f ec e (λz=>nomatch z))];exact ec
end
def NoSl(i:Expr):Prop:=∀ov iv,subscripted i false ov iv=operate [ov,iv] (UU ov iv)
theorem zuz{prog:Um}{w:Uq}{A:Us}{E:Uf->Ui->Prop}{s:Ui}{env:Env}{value slice:Expr}{pos:Pos}{T id:String}{Q:Uf->Ui->Prop}
 (hl:G5 (.type T) "__getitem__" = pure (some (.builtin id))) (hs:NoSl slice)
 (h:wpAny (model prog w) A (eval value env) (λo s₁=>wpAny (model prog w) A (eval slice env) (λi s₂=>s₂.TypeIs o T/\wpAny (model prog w) A (UU o i) Q E s₂) E s₁) E s) :
 wpAny (model prog w) A (eval (.Subscript value slice pos) env) Q E s:=by
 refine Subscript_ (Uv h (λo s₁ h₁=>Uv h₁ (λi s₂ h₂=>?_) λ_ _ x=>x) λ_ _ x=>x);obtain⟨hT,h₂⟩:=h₂;unfold G0;refine Uh ?_;rw[getitemInPython_of_ne hT.not_modules];refine Uh (Gr hT hl ?_)
 have fin:wpAny (model prog w) A (subscripted slice false o i) (λr s₃=>wpAny (model prog w) A (letTemporaryGo value o r >>= λ_=>pure r) Q E s₃) E s₂:=by
  rw[hs o i];exact wpAny_operating (Uv h₂ (λr s₃ h₃=>Uh (wpAny_letTemporaryGo (Uo h₃))) λ_ _ x=>x)
 first
  | exact Uo (Uh fin)
  | exact Uh (Uo (Uh fin))
  | exact Uh fin
theorem zms{pins:List (Addr×Obj)}(I:Inv X pins σ H s)(g:DGet H a y o):s.TypeIs (.ref a) "dict" := by
 rcases g with ⟨kvs,k,e,_,_⟩|⟨kvs,k,b,e,_,_,_⟩
 .obtain⟨_,_,vs,_,dd⟩:=zo0 I.hok e;exact dd.typeIs
 .obtain⟨_,_,xs,_,dd⟩:=zn4 I.hok e;exact dd.typeIs
def ztl(td ty:TE):TE:=λσ H Q=>td σ H λx H1=>ty σ H1 λy H2=>∃a v,x = .ref a/\DGet H2 a y (some v)/\Q v H2
def zkj(td ty tv:TE):TS:=λD σ H=>tv σ H λv H1=>td σ H1 λx H2=>ty σ H2 λy H3=>∃a H4,x = .ref a/\DPut H3 a y v H4/\D.nx σ H4
section
variable {X:Cx}{o i e value:Expr}{pos pos' tpos:Pos}{td ty tv:TE}
theorem zcw(hu:X.A.units+1<GF)(ho:PE X o td)(hi:PE X i ty)(hs:NoSl i):PE X (.Subscript o i pos) (ztl td ty):=by
 intro pins s σ H Q I h;refine zuz PySem.F.slot_dict_getitem.lookup hs (thn (ho pins s σ H _ I h) λu s1 ⟨x,H1,I1,rx,q1⟩=>thn (hi pins s1 σ H1 _ I1 q1) λiv s2 zz=>?_);obtain⟨y,H2,I2,ry,a,v,ex,g,q2⟩:=zz;subst ex;obtain rfl:u=ZD a:=rx;exact⟨zms I2 g,zpr hu I2 g ry λw' s3 I3 rw'=>⟨v,H2,I3,rw',q2⟩⟩
theorem zi2(hu:X.A.units+1<GF)(ho:PE X o td)(hi:PE X i ty)(hv:PE X value tv)(hs:UB value (some (.Subscript o i pos')) pos.line X.env=pure false):
 PS X (.Assign [.Subscript o i pos'] value pos) (zkj td ty tv):=by
 intro pins s σ H D I h;refine wpAny_Assign_Subscript (thn (hv pins s σ H _ I h) λr s1 ⟨v,H1,I1,rv,q1⟩=>thn (ho pins s1 σ H1 _ I1 q1) λu s2 ⟨x,H2,I2,rx,q2⟩=>thn (hi pins s2 σ H2 _ I2 q2) λiv s3 zz=>?_) hs;obtain⟨y,H3,I3,ry,a,H4,ex,g,q3⟩:=zz;subst ex;obtain rfl:u=ZD a:=rx;exact zpc hu I3 g ry rv λs4 I4=>⟨σ,H4,I4,q3⟩
end
theorem zs0(h:Heap)(hb:UK<h.objs.size):ObjOk P w H (h.push { cls:=.type "dict",data:=.dict #[] }) h.objs.size (.dK []) :=
 ⟨QK _,beq_eq_false_iff_ne.mpr (Zr (QN hb)),[],.nil,Heap.DictOf.new h⟩
def zlf:List (TE×TE)->St->Hp->(List (V×V)->Hp->Prop)->Prop
 | [],_,H,Q=>Q [] H
 | (tk,tv)::r,σ,H,Q=>tk σ H λx H1=>tv σ H1 λy H2=>zlf r σ H2 λps H3=>Q ((x,y)::ps) H3
abbrev VV:List (V×V)->List (Uf×Uf)->Prop:=GC λp q=>RelV p.1 q.1/\RelV p.2 q.2
def PPs(X:Cx)(pos:Pos)(keys:List (Option Expr))(values:List Expr)(trs:List (TE×TE)):Prop :=
 ∀(pins:List (Addr×Obj)) (s:Ui) (σ:St) (H:Hp) (Q:List (V×V)->Hp->Prop),Inv X pins σ H s->zlf trs σ H Q ->
   wpAny (model X.prog X.w) X.A (evalPairs (pairTrees keys values X.env pos)) (λvs s'=>∃ps H',Inv X pins σ H' s'/\VV ps vs/\Q ps H') X.xe s
theorem zvw: PPs X pos [] [] []:=λpins s σ H Q I h=>pairTrees_nil_walk ⟨[],H,I,.nil,h⟩
theorem zg3(hk:PE X k tk)(hv:PE X v tv)(hr:PPs X pos ks vs trs):
 PPs X pos (some k::ks) (v::vs) ((tk,tv)::trs):=λpins s σ H Q I h=>
 pairTrees_cons_walk (thn (hk pins s σ H _ I h) λu s1 ⟨x,H1,I1,rx,q1⟩=>thn (hv pins s1 σ H1 _ I1 q1) λw2 s2 ⟨y,H2,I2,ry,q2⟩=>
  thn (hr pins s2 σ H2 _ I2 q2) λws s3 ⟨ps,H3,I3,rel,q3⟩=>⟨(x,y)::ps,H3,I3,.cons ⟨rx,ry⟩ rel,q3⟩)
def zdu(kvs more:List (Key×V)):List (Key×V):=more.foldl (λacc kv=>putK acc kv.1 kv.2) kvs
theorem KV.merge:∀{more:List (Key×V)} {rs:List (Key×Uf)} {kvs:List (Key×V)} {vs:List (Key×Uf)},KV more rs->KV kvs vs->KV (zdu kvs more) (merged vs rs):=by
 intro more rs kvs vs r;unfold KV at r
 induction r generalizing kvs vs with
 | nil=>intro q;exact q
 | @cons p q ps qs h t ih=>
   intro r0
   have e:KV (putK kvs p.1 p.2) (stored vs q.1 q.2):=by
    have:=r0.put p.1 h.2;rw[<- h.1];exact this
   exact ih e
theorem zfd:∀(more kvs:List (Key×V)),(zdu kvs more).length<=kvs.length+more.length
 | [],kvs=>by show kvs.length<=kvs.length+0;lia
 | p::r,kvs=>by
   have h1:=zfd r (putK kvs p.1 p.2);have h2:=zee kvs p.1 p.2;show(zdu (putK kvs p.1 p.2) r).length<=_;rw[Qi];lia
theorem zhq: ∀{kvs:List (Key×V)} {ws:List (Uf×Uf)},VV (kvs.map λkv=>(kV kv.1,kv.2)) ws->∃rs,Carries (zbb P w) ws rs/\KV kvs rs
 | [],_,r=>by rw[Yx] at r;cases r;exact⟨[],ZQ,.nil⟩
 | p::kvs,_,r=>by
   rw[QL] at r
   cases r with
   | @cons a b as bs h t=>
     obtain⟨rs,c,q⟩:=zhq (P:=P) (w:=w) t;obtain⟨b1,b2⟩:=b;exact⟨(p.1,b2)::rs,⟨zki h.1,rfl,c⟩,.cons ⟨rfl,h.2⟩ q⟩
def zt5(trs:List (TE×TE)):TE:=λσ H Q=>∀p,H p=none->zlf trs σ (upd H p (.dK [])) λps H2=>H2 p=some (.dK [])/\∃kvs:List (Key×V),ps=kvs.map (λkv=>(kV kv.1,kv.2))/\kvs.length<=15/\Q (.ref p) (upd H2 p (.dK (zdu [] kvs)))
theorem zv6{keys:List (Option Expr)}{values:List Expr}(h:PPs X pos keys values trs)(hall:keys.all (·.isSome)=true)(hl:keys.length=values.length)(h0:keys≠[])
 (h15:keys.length<=15):PE X (.Dict keys values pos) (zt5 trs):=by
 intro pins s σ H Q I q;have hn:=I.hok.fresh (Qg s.heap.objs.size);have I1:=I.laid (a:=s.heap.objs.size) (o:=.dK []) (h':=s.heap.push { cls:=.type "dict",data:=.dict #[] }) (t':=s.toks) (λ_ _ q=>Qj _ q) (Qg _) (zs0 s.heap I.big);refine wpAny_Dict_walk (knd:=zbb X.prog X.w) hall hl h0 h15 (thn (h pins _ σ _ _ I1 (q _ hn)) λws s2 zz=>?_);obtain⟨ps,H2,I2,rel,e,kvs,ep,lk,q2⟩:=zz;subst ep;obtain⟨rs,c,rk⟩:=zhq (P:=X.prog) (w:=X.w) rel;obtain⟨z,hd,vs0,r0,dd⟩:=zti I2.hok e;cases r0;refine⟨rs,c,dd,λh' dd' hs=>⟨.ref s.heap.objs.size,_,?_,rfl,q2⟩⟩
 have hz:(zdu [] kvs).length<=sizeLine:=by
  have h1:=zfd kvs [];rw[J0] at h1;rw[Ur];lia
 have he:∃q,h'.get? s.heap.objs.size=some q:=let ⟨q,_,_,hq,_⟩:=dd';⟨q,hq⟩
 exact ziq I2 (by rw[e];exact ZQ) hs he (zp4 hz hd (rk.merge .nil) dd')
end L2
namespace Att
open PySem PySem.W PySem.Calls PyProof.Rows
theorem zhd: ∀(ns:List Int) (vs:List Uf),WellAll P h vs (ns.map WData.int)->GJ vs ns:=by
 intro ns
 induction ns with
 | nil=>
   intro vs w;rw[Yx] at w;cases w;exact .nil
 | cons n ns ih=>
   intro vs w;rw[QL] at w
   cases w with
   | cons a b=>
     cases a;exact .cons _ _ (ih _ b)
theorem zrf{l:OpenLaw}{n:Nat}(hn:l.most=some n){P:Params}{h:Heap}{args:List WData}{vals:List Uf}
 (hpre:l.row.toRowW.claim.pre args=true) (hwl:WellAll P h vals args) :
 ∃a vs ns,vals = [ZD a]/\args = [WData.list (ns.map WData.int)]/\h.get? a=some { cls:=.type "list",data:=.seq vs.toArray }/\GJ vs ns/\ns.length<=n:=by
 have hsh:WShape.hasAll [] args [.list .int]=true:=(pre_splitW hpre).1;have hc:l.pre.holds [] { args:=args }=true:=(pre_splitW hpre).2;obtain⟨d,r,rfl,h1,h2⟩:=hasAllW_cons hsh;obtain rfl:=hasAllW_nil h2;obtain⟨xs,rfl,h3⟩:=hasW_list h1;obtain⟨ns,rfl⟩:=items_int h3
 have hlen:ns.length<=n:=by
  unfold OpenLaw.pre at hc
  have h4:(WTm.not (.lt (.lit (.int (n:Int))) (.len (.arg 0)))).holds [] { args:=[.list (ns.map .int)] }=true:=by
   have h4:=(holds_andW hc).1;rw[hn] at h4;exact h4
  have h5:=condW_of h4 (w_not (w_lt w_lit (w_len_list (w_arg rfl))));rw[Qe] at h5;refine Jq λq=>?_;have q':(n:Int)<((ns.length:Nat):Int):=by lia
  first
   | (rw[GU q'] at h5;exact absurd h5 (by decide))
   | (simp at h5;lia)
 cases hwl with
 | cons w1 w2=>
   cases w2
   cases w1 with
   | list ho hall=>exact⟨_,_,ns,rfl,rfl,ho,zhd ns _ hall,hlen⟩
theorem zpk(l:OpenLaw)(args:List WData):l.row.toRowW.claim.post args (.bool true) args=true :=
 postW_of (r:=l.row.toRowW) (X:=(true == true))
  (show WShape.has [] (.bool true) .bool=true by first|rfl|decide|simp[WShape.has,WShape.arms,WShape.armsAll])
  (show(WTm.eq .res (.lit (.bool true))).value [] { args:=args,res:=some (.bool true),after:=args }=some (.bool (true == true)) from w_eq_bool (w_res rfl) w_lit) rfl
theorem attach_call{l:OpenLaw}{n:Nat}{q:Um}{loose:List Str}{XP:(Str->Option Uf)->Heap->Prop}{YP:Uq->Heap->Prop}{d:DefRec}
 (hn:l.most=some n) (hdf:d.params.defaults = [])
 (call:∀(w:Uq) (s₀ s₁:Ui) (mg mb:Str->Option Uf) (fa:Addr) (o:Obj) (pm cd doc:Uf) (a:Addr) (vs:List Uf) (ns:List Int),
  Ground q loose [] XP w s₀ mg mb s₁.heap->YP w s₁.heap ->
  s₁.heap.get? fa=some o->o.data = .func (docDef d.name d.params d.body d.scope pm cd doc)->s₁.heap.CodeRec cd d.name->mg d.name=some (.ref fa) ->
  s₁.heap.get? a=some { cls:=.type "list",data:=.seq vs.toArray }->GJ vs ns->ns.length<=n->s₁.gens = #[] ->
  Gn (model l.prog w) callerA (.call (.ref fa) ⟨[.ref a],[]⟩) (λr s'=>r = .ok (.ret (.bool true))/\OldK s₁.heap s'.heap/\s'.os=s₁.os/\Gc s'.gens) s₁) :
 WalkO q loose XP YP l.row.toRowW d [] (λf vs=>VP f vs):=by
 intro w s₀ s₁ mg mb G Y fa o pm cd doc dV kV ho hd hcd hD hmg hg args vals as hpre hlay hrd hwl hlo;obtain rfl:dV = .none:=Dflts.none hD hdf;obtain rfl:kV = .none:=Dflts.noKw hD;obtain⟨a,vs,ns,rfl,rfl,hobj,hints,hlen⟩:=zrf hn hpre hwl;refine enter_call (UT (call w s₀ s₁ mg mb fa o pm cd doc a vs ns G Y ho (fd_plain hd) hcd hmg hobj hints hlen hg) λr s' hq=>?_);obtain⟨rfl,h2,h3,h4⟩:=hq;exact⟨.inl ⟨.bool true,.bool true,[],rfl,λ_=>rfl,.bool true,zpk l _,λ_=>⟨List.Pairwise.nil,λ_ hm=>(nomatch hm)⟩⟩,h2,h3,h4⟩
end Att
namespace L2
open PySem PySem.Spec PyProof.Rows
theorem zja:∀{vs:List Uf} {ns:List Int},GJ vs ns->Vals (ns.map V.int) vs
 | _,_,.nil=>.nil
 | _,_,.cons n t h=>.cons ⟨t,rfl⟩ (zja h)
def zbi(s:Stmt):UR:=match s with
 | .FunctionDef _ a _ _ _ _ _ _ _ _=>a
 | _=>{ posonlyargs:=[],args:=[],vararg:=none,kwonlyargs:=[],kw_defaults:=[],kwarg:=none,defaults:=[] }
def zap(s:Stmt):List Stmt:=match s with
 | .FunctionDef _ _ b _ _ _ _ _ _ _=>b
 | _=>[]
def zab(s:Stmt):Uz:=match s with
 | .FunctionDef _ _ _ _ _ _ sc _ _ _=>sc
 | _=>{ kind:=.function,names:=[],isGenerator:=false,isCoroutine:=false }
abbrev CX0:CXT:=λ_ _ _ _ _ _=>False
abbrev E0:XK:=λ_ _ _=>False
theorem ze1: zk9 CX0 X E0:=λ_ _ _ _ _ _ _ h=>h.elim
structure Fun(K:Qa)(x qual:Str)(st:Stmt)(f:Addr)(fd:UH):Prop where
 ex:∃(oc:Uf) (od:Option Addr) (kV doc pm:Uf) (an:Option Addr) (cdv ct:Uf) (osl:Array (Option Uf)),
  fd=Zo x qual (zbi st) (zap st) (zab st) .none kV doc pm an cdv ct/\K.lookup f=some ⟨oc,od,.func fd,osl⟩/\Jb K cdv qual=true
 kp:ZR K (.ref f)=true
section
variable {P:Um}{w:Uq}{K:Qa}{mg:Str->Option Uf}{base:Heap}
theorem Fun.ok{x qual:Str}{st:Stmt}{f:Addr}{fd:UH}{N ps:List Str}{k:Nat}{sp:Sp}(F:Fun K x qual st f fd)(S:FnScope N ps (zab st))(len:∀vs H Q E,sp vs H Q E->vs.length=ps.length)
 (hbody:∀(cdv:Uf) (A:Us) (outer:List Env) (s:Ui) (H:Hp) (vs:List V) (Q:VK) (E:XK),Room k (A.deeper (Go qual (zab st) s.heap.objs.size f cdv))->sp vs H Q E ->
  ∃t,PSs (cxOf CX0 P w K mg base N qual (zab st) f cdv A outer s H E).nox (zap st) t/\t { nx:=λ_ H'=>Q .non H',rt:=Q } (start N vs) H):FnOk P w K mg base CX0 (k+1) f fd ps sp:=by
 obtain⟨oc,od,kV,doc,pm,an,cdv,ct,osl,rfl,lk,hcd⟩:=F.ex;refine zts lk hcd S len λA outer s H vs Q E hr hsp=>?_;obtain⟨t,h,q⟩:=hbody cdv A outer s H vs Q E hr hsp;exact⟨t,h.nox,q⟩
theorem Fun.binds{x qual:Str}{st:Stmt}{f:Addr}{fd:UH}{ps:List Str}(F:Fun K x qual st f fd)
 (h:∀(kV doc pm:Uf) (an:Option Addr) (cdv ct:Uf) (us:List Uf),us.length=ps.length->U8 (Zo x qual (zbi st) (zap st) (zab st) .none kV doc pm an cdv ct) ⟨us,[]⟩=pure (ps.zip us)):Binds K fd ps []:=by
 obtain⟨oc,od,kV,doc,pm,an,cdv,ct,osl,rfl,lk,hcd⟩:=F.ex;exact .all (h kV doc pm an cdv ct)
theorem zq4{x qual:Str}{st:Stmt}{f:Addr}{oc:Uf}{od an:Option Addr}{osl:Array (Option Uf)}{kV doc pm cdv ct:Uf}(l:K.lookup f=some ⟨oc,od,.func (Zo x qual (zbi st) (zap st) (zab st) .none kV doc pm an cdv ct),osl⟩)
 (c:Jb K cdv qual=true) (k:ZR K (.ref f)=true):Fun K x qual st f (Zo x qual (zbi st) (zap st) (zab st) .none kV doc pm an cdv ct):=⟨⟨oc,od,kV,doc,pm,an,cdv,ct,osl,rfl,l,c⟩,k⟩
end
theorem zc1{k:Nat}(hr:Room k A):A.units+1<GF:=Nat.lt_of_le_of_lt (Nat.add_le_add_left (by decide:1<=64) _) hr.units
theorem iteF{A B:Prop}(h:B):if false=true then A else B:=by
 rw[GP Q3];exact h
theorem iteT{A B:Prop}(h:A):if true=true then A else B:=by
 rw[GO rfl];exact h
theorem ite2{c A B:Prop}[Decidable c](h1:c->A)(h2:¬c->B):if c then A else B:=by
 by_cases h:c
 .rw[GO h];exact h1 h
 .rw[GP h];exact h2 h
def Same(H H':Hp):Prop:=∀b o,H b=some o->H' b=some o
theorem Same.refl(H:Hp):Same H H:=λ_ _ h=>h
theorem Same.trans(a:Same H H1)(b:Same H1 H2):Same H H2:=λc o h=>b c o (a c o h)
theorem Same.free(e:Same H H')(h:H' l=QF):H l=QF:=by
 cases q:H l with
 | none=>rfl
 | some o=>
   rw[e l o q] at h;cases h
theorem Same.seq{K:Qa}{H H':Hp}{a:Addr}{xs:List V}(e:Same H H')(h:SqL K H a xs):SqL K H' a xs:=by
 rcases h with (h|⟨o,h⟩)|h
 .exact .inl (.inl (e _ _ h))
 .exact .inl (.inr ⟨o,e _ _ h⟩)
 .exact .inr h
end L2
set_option maxHeartbeats 4000000
namespace L3
open PySem PySem.Spec
open PyProof.Rows hiding St
open L2
theorem zoh{α β:Type}{l:List α}{f:α->β->Sem (ForInStep β)}(g:α->β->β):∀(c:β),(∀x∈l,∀c,f x c=pure (.yield (g x c)))->forIn l c f=pure (l.foldl (λc x=>g x c) c):=by
 induction l with
 | nil=>intro c _;rfl
 | cons x l ih=>
   intro c h;rw[VC,h x Ql,pure_bind];exact ih (g x c) λy hy=>h y (Qc _ hy)
def clOf(ns:List (Str×UF))(env:Env):List (Str×Addr):=ns.foldl (λcs x=>if x.2 == .free then(x.1,(env.cells.lookup x.1).getD 0)::cs else cs) []
theorem zhu{scope:Uz}(h:∀p∈scope.names,p.2 = .free->∃c,env.cells.lookup p.1=some c):closureFor scope env=pure (clOf scope.names env):=by
 simp only[closureFor];unfold clOf;rw[zoh (λ(x:Str×UF) (cs:List (Str×Addr))=>if x.2 == .free then(x.1,(env.cells.lookup x.1).getD 0)::cs else cs)]
 .rfl
 .intro x hx c;obtain⟨n,k⟩:=x;dsimp only
  by_cases hk:k = .free
  .subst hk;obtain⟨a,ha⟩:=h _ hx rfl;have ha':env.cells.lookup n=some a:=ha;simp only[GY,GZ,cellOf,ha',pure_bind,V5]
  .have hb:(k == QM)=false:=by simpa using hk
   simp only[hb,Zi,GX]
theorem zwl{env:Env}{x:Str}:∀(ns:List (Str×UF)) (acc:List (Str×Addr)) (c:Addr),
 (ns.foldl (λcs y=>if y.2 == .free then(y.1,(env.cells.lookup y.1).getD 0)::cs else cs) acc).lookup x=some c->acc.lookup x=some c\/((x,QM)∈ns/\c=(env.cells.lookup x).getD 0):=by
 intro ns
 induction ns with
 | nil=>intro acc c h;exact .inl h
 | cons y r ih=>
   intro acc c h;obtain⟨n,k⟩:=y;rw[JP] at h;rcases ih _ c h with h1|⟨h1,h2⟩
   .by_cases hk:k = .free
    .subst hk;simp only[GY,GZ] at h1
     by_cases hx:x=n
     .subst hx;rw[Zu] at h1;cases h1;exact .inr ⟨Ql,rfl⟩
     .have hb:(x == n)=false:=by simpa using hx
      rw[Z8,hb] at h1;exact .inl h1
    .have hb:(k == QM)=false:=by simpa using hk
     simp only[hb,Zi,GX] at h1;exact .inl h1
   .exact .inr ⟨Qc _ h1,h2⟩
theorem zmx{env:Env}{x:Str}:∀(ns:List (Str×UF)) (acc:List (Str×Addr)),(acc.lookup x).isSome=true\/(x,QM)∈ns ->
 ((ns.foldl (λcs y=>if y.2 == .free then(y.1,(env.cells.lookup y.1).getD 0)::cs else cs) acc).lookup x).isSome=true:=by
 intro ns
 induction ns with
 | nil => intro acc h;rcases h with h|h
          .exact h
          .exact absurd h (by simp)
 | cons y r ih=>
   intro acc h;obtain⟨n,k⟩:=y;rw[JP];refine ih _ ?_
   by_cases hk:k = .free
   .subst hk;simp only[GY,GZ]
    by_cases hx:x=n
    .subst hx;left;rw[Zu];rfl
    .have hb:(x == n)=false:=by simpa using hx
     rw[Z8,hb];rcases h with h|h
     .exact .inl h
     .rcases Q0.mp h with z|z
      .injection z with z1 _;exact absurd z1 hx
      .exact .inr z
   .have hb:(k == QM)=false:=by simpa using hk
    simp only[hb,Zi,GX];rcases h with h|h
    .exact .inl h
    .rcases Q0.mp h with z|z
     .injection z with _ z2;exact absurd z2.symm hk
     .exact .inr z
theorem zob(h:(clOf ns env).lookup x=some c):(x,QM)∈ns/\c=(env.cells.lookup x).getD 0:=by
 rcases zwl ns [] c h with z|z
 .cases z
 .exact z
theorem zo9(h:(x,QM)∈ns)(e:env.cells.lookup x=some c):(clOf ns env).lookup x=some c:=by
 obtain⟨d,hd⟩:=Z5.mp (zmx (env:=env) ns [] (.inr h));have hd':(clOf ns env).lookup x=some d:=hd;rw[hd',(zob hd').2,e];rfl
theorem zcx{env:Env}{x:Str}:∀(names:List (Str×UF)),
 (names.map λ(n,k)=>if(k == QM && env.scope.kind == .function && env.kindOf n == some .cell) then(n,QU) else(n,k)).lookup x =
  (names.lookup x).map λk=>if(k == QM && env.scope.kind == .function && env.kindOf x == some .cell) then QU else k
 | []=>rfl
 | (n,k)::r=>by
   have ih:=zcx (env:=env) (x:=x) r;show List.lookup x ((if(k == QM && env.scope.kind == .function && env.kindOf n == some .cell)=true then(n,QU) else(n,k))::_)=_
   by_cases hx:x=n
   .subst hx
    by_cases hc:(k == QM && env.scope.kind == .function && env.kindOf x == some .cell)=true
    .rw[GO hc,Zu,Zu,ZV,GO hc]
    .rw[GP hc,Zu,Zu,ZV,GP hc]
   .have hb:(x == n)=false:=by simpa using hx
    by_cases hc:(k == QM && env.scope.kind == .function && env.kindOf n == some .cell)=true
    .rw[GO hc,Z8,hb,Z8,hb];exact ih
    .rw[GP hc,Z8,hb,Z8,hb];exact ih
theorem zgg: ∀(names:List (Str×UF)) (h:Heap) (acc:List (Str×Addr)),(Ux h.objs.size names acc).lookup x=some c ->
 acc.lookup x=some c\/((x,QU)∈names/\h.objs.size<=c/\(pushCells h names).IsCell c none)
 | [],_,_,e=>.inl e
 | (n,k)::r,h,acc,e=>by
   unfold Ux at e;unfold pushCells
   by_cases hk:k = .cell
   .subst hk;simp only[GY,GZ] at e ⊢;rw[<- Zm h { cls:=.type "cell",data:=.cell none }] at e;rcases zgg r _ _ e with z|⟨z1,z2,z3⟩
    .by_cases hx:x=n
     .subst hx;rw[Zu] at z;cases z;exact .inr ⟨Ql,Qg _,⟨_,UO r _ _ _ (Q1 _ rfl),rfl⟩⟩
     .have hb:(x == n)=false:=by simpa using hx
      rw[Z8,hb] at z;exact .inl z
    .rw[Zm] at z2;exact .inr ⟨Qc _ z1,by lia,z3⟩
   .have hb:(k == QU)=false:=by simpa using hk
    simp only[hb,Zi,GX] at e ⊢;rcases zgg r h acc e with z|⟨z1,z2,z3⟩
    .exact .inl z
    .exact .inr ⟨Qc _ z1,z2,z3⟩
theorem zet: ∀(names:List (Str×UF)) (n:Nat) (acc:List (Str×Addr)),(x,QU) ∉ names->(Ux n names acc).lookup x=acc.lookup x
 | [],_,_,_=>rfl
 | (y,k)::r,n,acc,h=>by
   have hr:(x,QU) ∉ r:=λz=>h (Qc _ z);unfold Ux
   by_cases hk:k = .cell
   .subst hk;simp only[GY,GZ]
    have hx:(x == y)=false:=by
     have:x≠y:=λz=>h (by rw[z];exact Ql);simpa using this
    rw[zet r _ _ hr,Z8,hx]
   .have hb:(k == QU)=false:=by simpa using hk
    simp only[hb,Zi,GX];exact zet r n acc hr
theorem zhc:∀(names:List (Str×UF)) (n:Nat) (acc:List (Str×Addr)),(∀x c,acc.lookup x=some c->c<n)->(∀x y c,acc.lookup x=some c->acc.lookup y=some c->x=y) ->
 ∀x y c,(Ux n names acc).lookup x=some c->(Ux n names acc).lookup y=some c->x=y
 | [],_,_,_,hi=>hi
 | (a,k)::r,n,acc,hb,hi=>by
   unfold Ux
   by_cases hk:k = .cell
   .subst hk;simp only[GY,GZ]
    have lk:∀x c,((a,n)::acc).lookup x=some c->(x=a/\c=n)\/(x≠a/\acc.lookup x=some c):=λx c e=>by
     by_cases hx:x=a
     .subst hx;rw[Zu] at e;cases e;exact .inl ⟨rfl,rfl⟩
     .have hz:(x == a)=false:=by simpa using hx
      rw[Z8,hz] at e;exact .inr ⟨hx,e⟩
    refine zhc r (n+1) _ (λx c e=>?_) λx y c e1 e2=>?_
    .rcases lk x c e with ⟨_,z⟩|⟨_,z⟩
     .rw[z];exact Nat.lt_succ_self _
     .exact JB (hb x c z)
    .rcases lk x c e1 with ⟨z1,w1⟩|⟨z1,w1⟩ <;> rcases lk y c e2 with ⟨z2,w2⟩|⟨z2,w2⟩
     .rw[z1,z2]
     .exact absurd (hb y c w2) (by rw[w1];exact QY _)
     .exact absurd (hb x c w1) (by rw[w2];exact QY _)
     .exact hi x y c w1 w2
   .have hz:(k == QU)=false:=by simpa using hk
    simp only[hz,Zi,GX];exact zhc r n acc hb hi
theorem zoq{scope:Uz}{globals:Addr}{qual:Str}{code:Uf}{builtins:Addr} 
 (h:∀h',h'.Ns s.heap.objs.size (λ_=>none)->(∀b o,s.heap.get? b=some o->h'.get? b=some o)->(∀x c,(Ux (s.heap.objs.size+1) scope.names cl).lookup x=some c->cl.lookup x=some c\/((x,QU)∈scope.names/\s.heap.objs.size+1<=c/\h'.IsCell c none)) ->
  Q (newEnv scope s.heap.objs.size globals (Ux (s.heap.objs.size+1) scope.names cl) qual none code (some env) builtins) { s with heap:=h' }) :
 wpAny M A (UZ scope globals cl [] qual none code (some env) builtins) Q E s:=by
 simp only[UZ,Vh,GZ];refine Uh (wpAny_alloc ?_);refine Uh (wpAny_layCells _ (λname kind cells=>by cases hkc:kind == QU <;> simp[hkc]) _ _ _ _ ?_);rw[show({ s with heap:=s.heap.push { cls:=.type "dict",data:=.dict #[] } }:Ui).heap.objs.size=s.heap.objs.size+1 from Zm ..];rw[VQ];refine Uh (Uo (Uo (h _ ((Ue s.heap (.type "dict")).keeps (UO _ _)) (λb o e=>UO _ _ b o (Qj _ e)) λx c e=>?_)));have:=zgg scope.names (s.heap.push { cls:=.type "dict",data:=.dict #[] }) cl (x:=x) (c:=c) (by rw[Zm];exact e);rwa [Zm] at this
def zbr(X:Cx)(scope:Uz)(N':List Str)(C:Addr)(s:Ui)(H:Hp)(ex:List Addr):Cx :=
 { X with N:=N',s₀:=s,H₀:=H,env:=compEnvC scope (Ux (C+1) scope.names (clOf scope.names X.env)) C X.env,outer:=X.stack,stack:=X.stack,ex:=ex,fn:=λx=>scope.names.lookup x == some .cell,pn:=[],xe:=λ_ _=>False }
def znb(h:Nat)(N' N:List Str)(names sc:List (Str×UF)):Bool :=
 decide (N'.length=h+N.length) && decide N'.Nodup
 && (names.all λp=>(p.2 != .cell || names.lookup p.1 == some .cell) && (p.2 != .local || names.lookup p.1 == some .local) && (p.2 != .free || (names.lookup p.1 == some .free && (sc.lookup p.1 == some .cell || sc.lookup p.1 == some .free))))
 && (((N'.drop h).zip N).all λp=>match names.lookup p.1 with|some .free=>p.1 == p.2|some .local=>false|some .cell=>false|_=>true)
structure ScopeOk(h:Nat)(N' N:List Str)(scope:Uz)(sc:Uz):Prop where
 kind:scope.kind = .function
 len:N'.length=h+N.length
 nd:N'.Nodup
 cell:∀y∈scope.names,y.2 = .cell->scope.names.lookup y.1=some .cell
 loc:∀y∈scope.names,y.2 = .local->scope.names.lookup y.1=some .local
 free:∀y∈scope.names,y.2 = .free->scope.names.lookup y.1=some .free/\(sc.names.lookup y.1=some .cell\/sc.names.lookup y.1=some .free)
 out:∀(i:Nat) (x:Str) (k:UF),N'[h+i]? = some x->scope.names.lookup x=some k->(k = .local\/k = .cell\/k = .free)->N[i]? = some x/\k = .free
theorem ScopeOk.of{h:Nat}{scope:Uz}(hk:scope.kind = .function)(e:znb h N' N scope.names sc.names=true):ScopeOk h N' N scope sc:=by
 unfold znb at e;simp only[QR,GW,Jr] at e;obtain⟨⟨⟨e1,e2⟩,e3⟩,e4⟩:=e;refine⟨hk,e1,e2,λy hy z=>?_,λy hy z=>?_,λy hy z=>?_,λi x k hx hl hkk=>?_⟩
 .have:=e3 y hy;rw[z] at this;simpa using this
 .have:=e3 y hy;rw[z] at this;simpa using this
 .have:=e3 y hy;rw[z] at this;simpa using this
 .have h1:(N'.drop h)[i]? = some x:=by rw[Z7];exact hx
  have hi:i<N.length:=by
   obtain⟨z,_⟩:=Qk.mp hx;lia
  have h2:N[i]? = some N[i]:=Qb hi
  have hm:(x,N[i])∈(N'.drop h).zip N:=by
   refine Q5 (i:=i) ?_;rw[Yg];exact⟨h1,h2⟩
  have q:=e4 _ hm;rw[hl] at q;rcases hkk with rfl|rfl|rfl
  .exact absurd q (by simp)
  .exact absurd q (by simp)
  .have q':x=N[i]:=by simpa using q
   exact⟨by rw[h2,<- q'],rfl⟩
def PF(X:Cx)(ifs:List Expr)(t:TT):Prop :=
 ∀(pins:List (Addr×Obj)) (s:Ui) (σ:St) (H:Hp) (Q:Bool->Hp->Prop),Inv X pins σ H s->t σ H Q ->
   wpAny (model X.prog X.w) X.A (forIn ifs true λc r=>if r=true then do let ok <- isTrue c X.env (eval c X.env);pure (J1 ok) else pure (J1 r)) (TP X pins σ Q) X.xe s
def tYes:TT:=λ_ H Q=>Q true H
theorem zeg: PF X [] tYes:=λ_ _ _ H _ I h=>wpAny_tests_nil ⟨H,I,h⟩
theorem zp5(h:PT X c t):PF X [c] t:=λpins s σ H Q I q=>wpAny_tests_one (h pins s σ H Q I q)
def OwnG(h:Nat)(g:TG):Prop:=∀v (σ:St) H Q,h<=σ.length->g v σ H Q->g v σ H λσ2 H2=>Q σ2 H2/\σ2.length=σ.length/\σ2.drop h=σ.drop h
theorem zd1{h i:Nat}(hi:i<h):OwnG h (za0 i):=λv σ H Q hl q=>⟨q,by simp,by rw[YR hi]⟩
def zg9(h:Nat)(g:TGs):Prop:=∀vs (σ:St) H Q,h<=σ.length->g vs σ H Q->g vs σ H λσ2 H2=>Q σ2 H2/\σ2.length=σ.length/\σ2.drop h=σ.drop h
theorem zuh{h:Nat}:zg9 h gNil:=λvs σ H Q _ q=>⟨q.1,q.2,rfl,rfl⟩
def MonG(g:TG):Prop:=∀v σ H (Q Q':St->Hp->Prop),(∀σ H,Q σ H->Q' σ H)->g v σ H Q->g v σ H Q'
def zg5(g:TGs):Prop:=∀v σ H (Q Q':St->Hp->Prop),(∀σ H,Q σ H->Q' σ H)->g v σ H Q->g v σ H Q'
theorem zlh{i:Nat}:MonG (za0 i):=λ_ _ _ _ _ h q=>h _ _ q
theorem zwe:zg5 gNil:=λ_ _ _ _ _ h q=>⟨q.1,h _ _ q.2⟩
theorem zrx(a:MonG g)(b:zg5 gs):zg5 (zhv g gs):=λvs σ H Q Q' h ⟨v,r,e,q⟩=>⟨v,r,e,a _ _ _ _ _ (λσ' H' z=>b _ _ _ _ _ h z) q⟩
theorem zs3{h:Nat}(m:MonG g)(m2:zg5 gs)(a:OwnG h g)(b:zg9 h gs):zg9 h (zhv g gs):=λvs σ H Q hl ⟨v,r,e,q⟩=>by
 refine⟨v,r,e,m _ _ _ _ _ (λσ' H' z=>?_) (a v σ H _ hl q)⟩;obtain⟨z1,z2,z3⟩:=z;exact m2 _ _ _ _ _ (λσ2 H2 ⟨y1,y2,y3⟩=>⟨y1,y2.trans z2,y3.trans z3⟩) (b r σ' H' Q (by lia) z1)
theorem zwb{K:Qa}{h n:Nat}{gs:TGs}(b:zg9 h gs):OwnG h (gTup K n gs):=λv σ H Q hl ⟨a,xs,e1,e2,e3,q⟩=>⟨a,xs,e1,e2,e3,b xs σ H Q hl q⟩
def zdh(h:Nat)(wi:TI)(g:TG)(tf:TT)(te:TE):TE:=λσ H Q=>wi σ H λJ H1=>∀D,H1 D=none->∃W:Nat->Nat->List V->Hp->Prop,(∃m,W 0 m [] (upd H1 D (.lst [])))/\∀i m ys H,W i m ys H ->
 H D=some (.lst ys)/\((J.stop i H/\Q (.ref D) H)\/(J.go i H/\∀x H',J.yld i H x H'->g x (Qp h none++σ) H' λσ2 H2=>tf σ2 H2 λc H3=>
   if c=true then te σ2 H3 λy H4=>H4 D=some (.lst ys)/\ys.length<sizeLine/\∃m',m'<m/\W (i+1) m' (ys ++ [y]) (upd H4 D (.lst (ys ++ [y]))) else ∃m',m'<m/\W (i+1) m' ys H3))
theorem zmy{prog:Um}{R:Result->Ui->Prop}{target iter:Expr}{scope:Uz}(I:Nat->Ui->Prop)
 (turn:∀n s,I n s->wpAny (model prog w) A (pyNext it) (λr s₁=>match r with
  | none=>R (.ok .next) s₁
  | some v=>wpAny (model prog w) A (UW target it v) (λ_ s₀=>wpAny (model prog w) A (Gf target env v) (λ_ s₂=>
   wpAny (model prog w) A (forIn ifs true λc r=>if r=true then do let ok <- isTrue c env (eval c env);pure (J1 ok) else pure (J1 r)) (λok s₃=>
    if ok=true then wpAny (model prog w) A (eval elt env) (λx s₄=>
     wpAny (model prog w) A (call (.builtin "list.append") [acc,x]) (λ_ s₅=>∃m,m<n/\I m s₅) (λ_ _=>False) s₄) (λ_ _=>False) s₃
    else ∃m,m<n/\I m s₃) (λ_ _=>False) s₂) (λ_ _=>False) s₀) (λ_ _=>False) s₁) (λ_ _=>False) s)
 (n:Nat) (h:I n s):Gn (model prog w) A (.compLoop (.ListComp elt [⟨target,iter,ifs,0⟩] scope pos) 0 it acc env) R s:=by
 refine codeAny_loop rfl I (λn s hI=>?_) n h;show wpAny _ A ((compTurn (.ListComp elt [⟨target,iter,ifs,0⟩] scope pos) 0 it acc env).onRaise (λx=>do noteFrame x env;theTreesLotGoes x)) _ _ s;refine wpAny_noted ?_;rw[compTurn_list];refine Uh (G2 (Uh (Uv (turn n s hI) (λr s₁ h₁=>?_) λ_ _ h'=>h'.elim)))
 cases r with
 | none=>exact Uo h₁
 | some v=>
   refine Uh (Uv h₁ (λ_ s₀ h₀=>?_) λ_ _ h'=>h'.elim);refine Uh (Uv h₀ (λ_ s₂ h₂=>Uh (Uv h₂ (λok s₃ h₃=>?_) λ_ _ h'=>h'.elim)) λ_ _ h'=>h'.elim)
   cases ok with
   | false=>exact Uo ⟨rfl,h₃⟩
   | true=>
     exact Uh (Uh (Uv h₃ (λx s₄ h₄=>Uh (Uv h₄ (λ_ s₅ h₅=>Uo (Uo ⟨rfl,h₅⟩)) λ_ _ h'=>h'.elim)) λ_ _ h'=>h'.elim))
section
variable {X:Cx}{pins:List (Addr×Obj)}{σ:St}{H:Hp}{s:Ui}
theorem zek{h:Nat}{scope:Uz}(I:Inv X pins σ H s)(S:ScopeOk h N' X.N scope X.env.scope):∀x c,(clOf scope.names X.env).lookup x=some c->X.env.cells.lookup x=some c:=λx c e=>by
 obtain⟨h1,h2⟩:=zob e;obtain⟨d,hd⟩:=I.ok.has x (S.free _ h1 rfl).2;rw[hd] at h2 ⊢;rw[h2];rfl
theorem zib{h:Nat}{scope:Uz}(S:ScopeOk h N' X.N scope X.env.scope)(hf:(x,QM)∈scope.names):(x,QU) ∉ scope.names:=λz=>by
 have a:=(S.free _ hf rfl).1;have b:=S.cell _ z rfl;rw[show scope.names.lookup x=some .free from a] at b;cases b
theorem zh4{h:Nat}{scope:Uz}(I:Inv X pins σ H s)(S:ScopeOk h N' X.N scope X.env.scope):∀x c,(Ux (s.heap.objs.size+1) scope.names (clOf scope.names X.env)).lookup x=some c->X.env.cells.lookup x=some c\/((x,QU)∈scope.names/\s.heap.objs.size+1<=c):=λx c e=>by
 have z:=zgg scope.names (s.heap.push { cls:=.type "dict",data:=.dict #[] }) (clOf scope.names X.env) (x:=x) (c:=c) (by rw[Zm];exact e);rw[Zm] at z;rcases z with z|⟨z1,z2,_⟩
 .exact .inl (zek I S x c z)
 .exact .inr ⟨z1,z2⟩
theorem zox{h:Nat}{scope:Uz}(I:Inv X pins σ H s)(S:ScopeOk h N' X.N scope X.env.scope):∀x c,(clOf scope.names X.env).lookup x=some c->c<s.heap.objs.size+1:=λx c e=>by
 obtain⟨v,o,ho,_⟩:=I.cell x c (zek I S x c e);exact JB (Qv ho)
theorem zuf{h:Nat}{scope:Uz}(I:Inv X pins σ H s)(S:ScopeOk h N' X.N scope X.env.scope)(hf:∀b∈fp,FpOk X pins H b)(hlt:∀b∈fp,b<s.heap.objs.size):
 (zbr X scope N' s.heap.objs.size s H fp).Ok:=by
 have cl:=zh4 I S;refine⟨I.ok.mod,?_,I.ok.glob,I.ok.blt,Qg _,zhc _ _ _ (zox I S) λx y c e1 e2=>I.ok.inj x y c (zek I S x c e1) (zek I S y c e2),λx hx=>?_,λx c z e=>?_,I.ok.hd,I.ok.frames,.inl rfl,λb hb=>⟨QN (hlt b hb),λx c e=>(cl x c e).elim (λz=>(hf b hb).2.2.2.2.1 x c z) λz w=>QY _ (Q2 (hlt b hb) (ZX (w ▸ z.2)))⟩,λb o e=>I.bs b o e,Qy I.ok.bsz I.sz,λb o e hb=>?_,λb hb z=>?_,I.stack,I.stkFree⟩
 .exact S.kind
 .have hx':(relabel scope X.env).names.lookup x=some .cell\/(relabel scope X.env).names.lookup x=some .free:=hx;have e:=zcx (env:=X.env) (x:=x) scope.names
  have hl:scope.names.lookup x=some .free\/scope.names.lookup x=some .cell:=by
   cases q:scope.names.lookup x with
   | none=>rw[q] at e;rcases hx' with z|z <;> (have z':=e.symm.trans z;cases z')
   | some k=>
     rw[q,ZV] at e
     by_cases hk:k = .free
     .rw[hk];exact .inl rfl
     .have hc:¬(k == QM && X.env.scope.kind == .function && X.env.kindOf x == some .cell)=true:=by
       have:(k == QM)=false:=by simpa using hk
       rw[this];simp
      rw[GP hc] at e;rcases hx' with z|z
      .have z':=e.symm.trans z;cases z';exact .inr rfl
      .have z':=e.symm.trans z;cases z';exact .inl rfl
  rcases hl with hl|hl
  .have hm:=Zc hl;obtain⟨c,hc⟩:=I.ok.has x (S.free _ hm rfl).2;exact⟨c,(zet _ _ _ (zib S hm)).trans (zo9 hm hc)⟩
  .exact Z5.mp (Jh _ _ _ (.inl hl))
 .have z:(scope.names.lookup x == some QU)=true:=z;have z:scope.names.lookup x=some .cell:=by simpa using z
  rcases zgg scope.names (s.heap.push { cls:=.type "dict",data:=.dict #[] }) (clOf scope.names X.env) (x:=x) (c:=c) (by rw[Zm];exact e) with w|⟨_,w,_⟩
  .exact absurd (Zc z) (zib S (zob w).1)
  .rw[Zm] at w;exact ZX w
 .rcases(hf b hb).2.2.2.1 with z|z
  .exact I.ok.noex b o e z
  .exact absurd (Q2 (Qv (I.ok.bs b o e).1) z) (QY _)
 .obtain⟨_,f1,f2,_⟩:=hf b hb;rcases Q0.mp (I.stkSub b z) with q|q
  .exact f1 q
  .exact f2 q
theorem zod{h:Nat}{scope:Uz}{tk:Nat}(I:Inv X pins σ H s)(S:ScopeOk h N' X.N scope X.env.scope)(hf:∀b∈fp,FpOk X pins H b)(hlt:∀b∈fp,b<s.heap.objs.size)
 (hn:h'.Ns s.heap.objs.size λ_=>none) (kp:∀b o,s.heap.get? b=some o->h'.get? b=some o) (hcs:∀x c,(Ux (s.heap.objs.size+1) scope.names (clOf scope.names X.env)).lookup x=some c->(clOf scope.names X.env).lookup x=some c\/((x,QU)∈scope.names/\s.heap.objs.size+1<=c/\h'.IsCell c none)) :
 Inv (zbr X scope N' s.heap.objs.size s H fp) [] (Qp h none++σ) H { s with heap:=h',toks:=tk }:=by
 have ok:=zuf I S hf hlt;have cl:=zek I S;refine⟨ok,rfl,I.bare,Un.kept kp,⟨_,hn,λi x v e1 e2 e3=>?_⟩,λx c e=>?_,I.hok.fresh (Qg _),λx c e=>(hcs x c e).elim (λz=>I.freeC x c (cl x c z)) λz=>I.hok.fresh (ZX z.2.1),λp hp=>absurd (show p∈([]:List (Addr×Obj)) from hp) (by simp),I.hok.kept kp,?_⟩
 .have e1:N'[i]? = some x:=e1
  by_cases hi:i<h
  .rw[Q6 (by simpa using hi),QP,GO hi] at e2;cases e2
  .obtain⟨j,rfl⟩:∃j,i=h+j:=⟨i-h,by lia⟩;rw[QB (by simp),QG,Nat.add_sub_cancel_left] at e2;have e3:Vis (relabel scope X.env) x:=e3;have er:=zcx (env:=X.env) (x:=x) scope.names
   have hl:∃k,scope.names.lookup x=some k/\(k = .local\/k = .cell\/k = .free)/\(relabel scope X.env).names.lookup x=some (if(k == QM && X.env.scope.kind == .function && X.env.kindOf x == some .cell) then QU else k):=by
    cases q:scope.names.lookup x with
    | none=>rw[q] at er;rcases e3 with z|z|z <;> (have z':=er.symm.trans z;cases z')
    | some k=>
      rw[q,ZV] at er;refine⟨k,rfl,?_,er⟩
      by_cases hc:(k == QM && X.env.scope.kind == .function && X.env.kindOf x == some .cell)=true
      .simp only[QR,beq_iff_eq] at hc;exact .inr (.inr hc.1.1)
      .rw[GP hc] at er;rcases e3 with z|z|z <;> (have z':=er.symm.trans z;cases z';simp)
   obtain⟨k,hk,hkk,hre⟩:=hl;obtain⟨hN,rfl⟩:=S.out j x k e1 hk hkk;have hm:=Zc hk;have hfr:=(S.free _ hm rfl).2;obtain⟨m,hnm,hlk⟩:=I.loc;obtain⟨u,ru,lk⟩:=hlk j x v hN e2 (by rcases hfr with z|z;exact .inr (.inl z);exact .inr (.inr z));refine⟨u,ru,?_⟩;rcases lk with ⟨hloc,_⟩|⟨hkd,c,hc,hcell⟩
   .have hloc:X.env.scope.names.lookup x=some .local:=hloc;rcases hfr with z|z <;> (rw[hloc] at z;cases z)
   .refine .inr ⟨?_,c,(zet _ _ _ (zib S hm)).trans (zo9 hm hc),?_⟩
    .show(relabel scope X.env).names.lookup x=some .cell\/(relabel scope X.env).names.lookup x=some .free;rw[hre]
     split
     .exact .inl rfl
     .exact .inr rfl
    .obtain⟨o,ho,hd⟩:=hcell;exact⟨o,kp c o ho,hd⟩
 .rcases hcs x c e with z|z
  .obtain⟨v,o,ho,hd⟩:=I.cell x c (cl x c z);exact⟨v,o,kp c o ho,hd⟩
  .exact⟨_,z.2.2⟩
 .show(Qp h none++σ).length=N'.length;rw[Qf,QG,S.len,I.len]
theorem zsp{h:Nat}{scope:Uz}{pins':List (Addr×Obj)}(I:Inv X pins σ H s)(S:ScopeOk h N' X.N scope X.env.scope)(hf:∀b∈fp,FpOk X pins H b)
 (J:Inv (zbr X scope N' s.heap.objs.size s H fp) pins' σ' H' s') (hs:JT s.heap.objs.size s'.heap h'):Inv X pins σ H' { s' with heap:=h' }:=by
 have ne:∀b o,s.heap.get? b=some o->b≠s.heap.objs.size:=λb o e=>QN (Qv e);have u:Un (frs X.stack) fp H H' s.heap s'.heap:=J.base;have hC:H' s.heap.objs.size=none:=J.free;obtain⟨m0,⟨oC,_,_,hoC,_⟩,_⟩:=id J.loc;refine I.call' (s':={ s' with heap:=h' }) (ch:=fp) J.os ⟨λb o e n hb hx=>(hs.2 b (ne b o e)).trans (u.keep b o e n hb hx),λb o e n hb hx=>?_,u.free,λb o e hx=>?_,u.tups,u.frzs,u.tbls⟩ (λb ob e=>?_) J.bare λb hb=>?_
 .obtain⟨sl,z⟩:=u.slot b o e n hb hx;exact⟨sl,(hs.2 b (ne b o e)).trans z⟩
 .obtain⟨o',z⟩:=u.there b o e hx;exact⟨o',(hs.2 b (ne b o e)).trans z⟩
 .refine(J.hok b ob e).stay (λc w' hc q=>(hs.2 c ?_).trans q) (λ_ q=>q) (λ_ _ q=>q) λ_ _ q=>q;rintro rfl;rcases hc with z|z
  .rw[<- z,hC] at e;cases e
  .rw[hC] at z;cases z
 .obtain⟨_,f1,_,f3,f4,f5⟩:=hf b hb;exact⟨f3,f1,f4,f5⟩
end
theorem zjd{iter:Expr}{scope:Uz}{R:Uf->Ui->Prop}{pins:List (Addr×Obj)}(h:Nat)(S:ScopeOk h N' X.N scope X.env.scope)(hc:X.calm=true)(hi:PI X tg iter wi)
 (hg:∀C s H ex,PG (zbr X scope N' C s H ex) tg g) (ho:OwnG h g) (ht:∀C s H ex,PF (zbr X scope N' C s H ex) ifs tf) (he:∀C s H ex,PE (zbr X scope N' C s H ex) elt te)
 (hs:∀x,Uw iter X.env x=pure x) (I:Inv X pins σ H s) (hq:zdh h wi g tf te σ H Q)
 (fin:∀(D:Addr) (H3 H5:Hp) (s3 s6:Ui) m6 fl,Inv X pins σ H3 s3->(∀h7,JT s3.heap.objs.size s6.heap h7->Inv X pins σ H5 { s6 with heap:=h7 })->H5 s3.heap.objs.size=none->s6.heap.Ns s3.heap.objs.size m6->Q (.ref D) H5->compPost (model X.prog X.w) X.A X.xe use R (.ref D) s3.heap.objs.size (.ok fl) s6) :
 wpAny (model X.prog X.w) X.A (comprehension (.ListComp elt [⟨tg,iter,ifs,0⟩] scope pos) scope X.env cp (newList []) false (eval iter X.env) use) R X.xe s:=by
 refine wpAny_comprehension_free (use:=use) rfl hs (zhu (env:=X.env) λp hp hk=>I.ok.has p.1 (S.free p hp hk).2) S.kind S.loc ?_;refine thn (hi pins s σ H _ I hq) λv s1 h1=>thn h1 λitv s2 h2=>?_;obtain⟨it,fp,tn,J,H2,rfl,I2,T,st2,f2,hq⟩:=h2;refine UJ ?_ (by show 0<=sizeLine;exact QK _);have hD:H2 s2.heap.objs.size=none:=I2.hok.fresh (Qg _);have I3:Inv X pins σ (upd H2 s2.heap.objs.size (.lst [])) { s2 with heap:=s2.heap.push { cls:=.type "list",data:=.seq ([]:List Uf).toArray },toks:=s2.toks }:=I2.lnew (t':=s2.toks) .nil (QK _);generalize hs3:({ s2 with heap:=s2.heap.push { cls:=.type "list",data:=.seq ([]:List Uf).toArray },toks:=s2.toks }:Ui)=s3 at I3;have hs3':({ s2 with heap:=s2.heap.push { cls:=.type "list",data:=.seq ([]:List Uf).toArray } }:Ui)=s3:=hs3;obtain⟨W,⟨m0,w0⟩,turn⟩:=hq s2.heap.objs.size hD
 have olt:∀b∈fp,b<s2.heap.objs.size:=λb hb=>by
  obtain⟨o,e,_⟩:=T.obj _ _ st2 b hb;exact Qv e
 have hsz:s3.heap.objs.size=s2.heap.objs.size+1:=by rw[<- hs3];exact Zm ..
 have k23:∀b o,s2.heap.get? b=some o->s3.heap.get? b=some o:=λb o e=>by rw[<- hs3];exact Qj _ e
 have f3:∀b∈fp,FpOk X pins (upd H2 s2.heap.objs.size (.lst [])) b:=λb hb=>⟨by rw[zaa (QN (olt b hb))];exact(f2 b hb).1,(f2 b hb).2⟩;have lt3:∀b∈fp,b<s3.heap.objs.size:=λb hb=>by rw[hsz];exact JB (olt b hb)
 refine zoq λh4 hn4 k34 cs4=>?_;have I4:=zod (h':=h4) (tk:=s3.toks) I3 S f3 lt3 hn4 k34 cs4;have st4:tn 0 h4:=T.keep _ _ _ st2 λb hb o e=>k34 b o (k23 b o e);generalize hX:zbr X scope N' s3.heap.objs.size s3 (upd H2 s2.heap.objs.size (.lst [])) fp=X' at I4;have hA:X'.A=X.A:=by rw[<- hX];rfl
 -- the iterator's objects,in the block
 have fpX:∀{H':Hp} {pl:List (Addr×Obj)},(∀b∈fp,H' b=none)->pl = []->∀b∈fp,FpOk X' pl H' b:=λ{H' pl} hn0 hpl b hb=>by
  subst hpl;obtain⟨q0,q1,q2,q3,q4,q5⟩:=f3 b hb;subst hX;refine⟨hn0 b hb,QN (lt3 b hb),λz=>?_,.inl hb,λx c e=>(zh4 I3 S x c e).elim (q4 x c) λz w=>QY _ (Q2 (lt3 b hb) (ZX (w ▸ z.2))),λp hp=>absurd (show p∈([]:List (Addr×Obj)) from hp) (by simp)⟩;rcases Q0.mp (I3.stkSub b z) with z|z
  .exact q1 z
  .exact q2 z
 have hcX:X'.calm=true:=by rw[<- hX];exact hc
 have hR:∀s':Ui,(∃(m:Nat) (i:Nat) (ys:List V) (H':Hp),Inv X' [] (Qp h none++σ) H' s'/\tn i s'.heap/\(∀b∈fp,H' b=none)/\W i m ys H')->True:=λ_ _=>trivial
 have loop:∀(sL:Ui),(Inv X' [] (Qp h none++σ) (upd H2 s2.heap.objs.size (.lst [])) sL)->tn 0 sL.heap ->
  Gn (model X.prog X.w) X.A (.compLoop (.ListComp elt [⟨tg,iter,ifs,0⟩] scope pos) 0 (.ref it) (.ref s2.heap.objs.size) X'.env)
   (compPost (model X.prog X.w) X.A X.xe use R (.ref s2.heap.objs.size) s3.heap.objs.size) sL:=by
  intro sL IL stL;refine zmy (λn s'=>∃i ys H',Inv X' [] (Qp h none++σ) H' s'/\tn i s'.heap/\(∀b∈fp,H' b=none)/\W i n ys H') ?_ m0 ⟨0,[],_,IL,stL,λb hb=>(f3 b hb).1,w0⟩;rintro n s5 ⟨i,ys,H5,I5,st5,fr5,w5⟩;obtain⟨hDy,hh⟩:=turn i n ys H5 w5;have eP:X'.prog=X.prog:=by rw[<- hX];rfl
  have eW:X'.w=X.w:=by rw[<- hX];rfl
  have eK:X'.K=X.K:=by rw[<- hX];rfl
  have eE:X'.xe=λ_ _=>False:=by rw[<- hX];rfl
  rcases hh with ⟨stop,qn⟩|⟨go,step⟩
  .have:=T.done X' eP eW eK hcX i [] s5 _ H5 (λ_ _=>False) I5 (fpX fr5 rfl) st5 stop;rw[hA] at this;refine thn this λr s6 zz=>?_;obtain⟨hr,I6⟩:=zz;subst hr;obtain⟨m6,hm6,_⟩:=id I6.loc;rw[<- hX] at hm6 I6;exact fin _ _ H5 s3 s6 m6 _ I3 (λh7 hs7=>zsp I3 S f3 I6 hs7) I6.free hm6 qn
  .have:=T.item X' eP eW eK hcX i [] s5 _ H5 (λ_ _=>False) I5 (fpX fr5 rfl) st5 go;rw[hA] at this;refine thn this λr s6 zz=>?_;obtain⟨u,hr,h6⟩:=zz;subst hr;refine thn h6 λ_ s7 zz=>?_;obtain⟨x,H7,I7,r7,y7,st7,fr7⟩:=zz;have I7':=I7.pinned (fpX fr7 rfl) (T.obj _ _ st7)
   have back:∀{σ':St} {H':Hp} {s':Ui},Inv X' ([]++zfh fp s7.heap) σ' H' s'->σ'.length=(Qp h none++σ:St).length->σ'.drop h=(Qp h none++σ:St).drop h ->
    Inv X' [] (Qp h none++σ) H' s'/\tn (i+1) s'.heap/\∀b∈fp,H' b=none:=by
    intro σ' H' s' I' hl hd;refine⟨I'.unpinned.weak hl.symm λj v e=>?_,T.keep _ _ _ st7 λb hb o e=>?_,λb hb=>?_⟩
    .by_cases hj:j<h
     .rw[Q6 (by simpa using hj),QP,GO hj] at e;cases e
     .have e1:(σ'.drop h)[j-h]? = σ'[j]?:=by rw[Z7];congr 1;lia
      have e2:((Qp h none++σ:St).drop h)[j-h]? = (Qp h none++σ:St)[j]?:=by rw[Z7];congr 1;lia
      rw[<- e1,hd,e2];exact e
    .exact(I'.pin (b,o) (Qw _ (Qw _ (zdk hb e)))).1
    .obtain⟨o,e,_⟩:=T.obj _ _ st7 b hb;exact(I'.pin (b,o) (Qw _ (Qw _ (zdk hb e)))).2.1
   have hg':=hg s3.heap.objs.size s3 (upd H2 s2.heap.objs.size (.lst [])) fp;have ht':=ht s3.heap.objs.size s3 (upd H2 s2.heap.objs.size (.lst [])) fp;have he':=he s3.heap.objs.size s3 (upd H2 s2.heap.objs.size (.lst [])) fp;rw[hX] at hg' ht' he';have hl0:h<=(Qp h none++σ:St).length:=by simp
   have a1:=hg' _ s7 _ H7 x u _ I7' r7 (ho x _ H7 _ hl0 (step x H7 y7));rw[hA,eP,eW,eE] at a1;refine thn a1 λ_ s8 zz=>?_;obtain⟨σ8,H8,I8,q8,l8,d8⟩:=zz;have a2:=ht' _ s8 σ8 H8 _ I8 q8;rw[hA,eP,eW,eE] at a2;refine thn a2 λc s9 zz=>?_;obtain⟨H9,I9,q9⟩:=zz
   cases c with
   | false=>
     obtain⟨m',hm',w'⟩:=q9;obtain⟨b1,b2,b3⟩:=back I9 l8 d8;exact⟨m',hm',i+1,ys,H9,b1,b2,b3,w'⟩
   | true=>
     have a3:=he' _ s9 σ8 H9 _ I9 q9;rw[hA,eP,eW,eE] at a3;refine thn a3 λyv s10 zz=>?_;obtain⟨y,H10,I10,r10,hD10,hz10,m',hm',w'⟩:=zz;have a4:=zj0 (X:=X') _ s10 σ8 H10 (.ref s2.heap.objs.size) [y] (.ref s2.heap.objs.size) [yv] (λ_ Hz=>Hz=upd H10 s2.heap.objs.size (.lst (ys ++ [y]))) I10 rfl (.cons r10 .nil) ⟨_,ys,y,rfl,rfl,hD10,hz10,rfl⟩;rw[hA,eP,eW,eE] at a4;refine thn a4 λ_ s11 zz=>?_;obtain⟨_,H11,I11,_,e11⟩:=zz;subst e11;obtain⟨b1,b2,b3⟩:=back I11 l8 d8;exact⟨m',hm',i+1,ys ++ [y],_,b1,b2,b3,w'⟩
 have end_:=codeAny_compStart_list (prog:=X.prog) (w:=X.w) (A:=X.A) (R:=compPost (model X.prog X.w) X.A X.xe use R (.ref s2.heap.objs.size) s3.heap.objs.size) (elt:=elt) (target:=tg) (iter:=iter) (ifs:=ifs) (rest:=[]) (scope:=scope) (pos:=pos) (it:=.ref it) (acc:=.ref s2.heap.objs.size) (env:=X'.env)
  (loop _ I4 st4) (T.self _ 0 _ _ _ st4 (loop _ I4 st4))
 have hE:X'.env=compEnvC scope (Ux (s3.heap.objs.size+1) scope.names (clOf scope.names X.env)) s3.heap.objs.size X.env:=by rw[<- hX];rfl
 rw[hE] at end_;exact end_
theorem zf0{iter:Expr}{scope:Uz}(h:Nat)(S:ScopeOk h N' X.N scope X.env.scope)(hc:X.calm=true)(hi:PI X tg iter wi)
 (hg:∀C s H ex,PG (zbr X scope N' C s H ex) tg g) (ho:OwnG h g) (ht:∀C s H ex,PF (zbr X scope N' C s H ex) ifs tf) (he:∀C s H ex,PE (zbr X scope N' C s H ex) elt te)
 (hs:∀x,Uw iter X.env x=pure x:=by intro _;rfl) :
 PE X (.ListComp elt [⟨tg,iter,ifs,0⟩] scope pos) (zdh h wi g tf te):=by
 intro pins s σ H Q I hq;rw[eval_ListComp];exact zjd h S hc hi hg ho ht he hs I hq λD H3 H5 s3 s6 m6 fl I3 bk hC hm qn=>⟨m6,hm,λh7 hs7=>⟨.ref D,H5,bk h7 hs7,rfl,qn⟩⟩
theorem zdl{iter:Expr}{scope:Uz}{spos:Pos}{n0:Nat}(hN0:X.N.Nodup)(hi0:X.N[n0]? = some x0)(hx0:X.env.scope.names.lookup x0=some .local)(hsw:UB (.ListComp elt [⟨tg,iter,ifs,0⟩] scope pos) (some (.Name x0 py)) spos.line X.env=pure true)(h:Nat)(S:ScopeOk h N' X.N scope X.env.scope)(hc:X.calm=true)(hi:PI X tg iter wi)
 (hg:∀C s H ex,PG (zbr X scope N' C s H ex) tg g) (ho:OwnG h g) (ht:∀C s H ex,PF (zbr X scope N' C s H ex) ifs tf) (he:∀C s H ex,PE (zbr X scope N' C s H ex) elt te)
 (hs:∀x,Uw iter X.env x=pure x:=by intro _;rfl) :
 PS X (.Assign [.Name x0 py] (.ListComp elt [⟨tg,iter,ifs,0⟩] scope pos) spos) (tAsg (zdh h wi g tf te) (za0 n0)):=by
 intro pins s σ H DD I hq;rw[exec_Assign_Name_used _ _ _ _ hsw];refine Uh (G2 (Uh ?_));show wpAny _ X.A (do let _ <- comprehension (.ListComp elt [⟨tg,iter,ifs,0⟩] scope pos) scope X.env _ (newList []) false (eval iter X.env) (some (Gf (.Name x0 py) X.env))) _ _ s;refine Uh (Uv (zjd (use:=some (Gf (.Name x0 py) X.env)) (R:=λ_ s'=>SP X pins DD .next s') h S hc hi hg ho ht he hs I hq λD H3 H5 s3 s6 m6 fl I3 bk hC hm qn=>?_) (λ_ s' hq=>Uo (Uo hq)) λ_ _ e=>e);have J6:Inv X pins σ H5 s6:=bk _ (Heap.SameBut.refl ..);have neL:s3.heap.objs.size≠X.env.locals:=Nat.ne_of_gt I3.lt
 have neC:∀x c,X.env.cells.lookup x=some c->c≠s3.heap.objs.size:=λx c e=>by
  obtain⟨v,z⟩:=I3.cell x c e;exact QN z.lt
 show wpAny (model X.prog X.w) X.A (Gf (.Name x0 py) X.env (.ref D)) _ _ s6;refine wpAny_assign_Name (zjf (v:=.ref D) J6 hN0 hi0 (.inl hx0) rfl (λs7 I7 zz=>?_) (.inr hx0));obtain⟨a,hsb,ha⟩:=zz
 have hac:s3.heap.objs.size≠a:=by
  rcases ha with rfl|ha
  .exact neL
  .exact Zr (neC _ _ ha)
 refine⟨m6,hm.sameBut hsb hac,λh8 hs8=>⟨_,H5,I7.turned (t':=s7.toks) (it:=s3.heap.objs.size) (λb o hb e=>(hs8.2 b hb).trans e) hC neL (.inr I3.sz) neC (λp hp=>?_),qn⟩⟩;exact QN (Qv (I3.pin p hp).1)
def chA(_:Uf):Prop:=False
end L3
namespace L3
open PySem PySem.Spec PySem.Calls
open PyProof.Rows hiding St
open L2
section
variable {X:Cx}{pins:List (Addr×Obj)}{σ:St}{H:Hp}{s:Ui}{a:Addr}
def XR(a C dx:Addr):HO:=.ext λh=>∃o vs,h.get? a=some o/\o.cls = .ref C/\o.dict=some dx/\o.data = .fields vs/\(vs[2]? = some .none\/chA (.ref C))
end
mutual
inductive Is(K:Qa)(F:Addr->Prop)(H:Hp):V->Ug->Prop
 | none:Is K F H .non .none
 | bool (b):Is K F H (.bl b) (.bool b)
 | int (i):Is K F H (.int i) (.int i)
 | str (x):Is K F H (.str x) (.str x)
 | list {a xs ds}:F a->H a=some (.lst xs)->IsAll K F H xs ds->Is K F H (.ref a) (.list ds)
 | tuple {a xs ds}:SqT K H a xs->IsAll K F H xs ds->Is K F H (.ref a) (.tuple ds)
inductive IsAll(K:Qa)(F:Addr->Prop)(H:Hp):List V->List Ug->Prop
 | nil:IsAll K F H [] []
 | cons {v vs d ds}:Is K F H v d->IsAll K F H vs ds->IsAll K F H (v::vs) (d::ds)
end
section
variable {K:Qa}{F F':Addr->Prop}{H H':Hp}
mutual
theorem Is.to(hL:∀a xs,F a->H a=some (.lst xs)->F' a/\H' a=some (.lst xs))(hT:∀a xs,SqT K H a xs->SqT K H' a xs):∀{v d},Is K F H v d->Is K F' H' v d
 | _,_,.none=>.none
 | _,_,.bool b=>.bool b
 | _,_,.int i=>.int i
 | _,_,.str x=>.str x
 | _,_,.list f q r=>.list (hL _ _ f q).1 (hL _ _ f q).2 (IsAll.to hL hT r)
 | _,_,.tuple q r=>.tuple (hT _ _ q) (IsAll.to hL hT r)
theorem IsAll.to(hL:∀a xs,F a->H a=some (.lst xs)->F' a/\H' a=some (.lst xs))(hT:∀a xs,SqT K H a xs->SqT K H' a xs):∀{vs ds},IsAll K F H vs ds->IsAll K F' H' vs ds
 | _,_,.nil=>.nil
 | _,_,.cons r t=>.cons (Is.to hL hT r) (IsAll.to hL hT t)
end
theorem IsAll.length:∀{vs ds},IsAll K F H vs ds->vs.length=ds.length
 | _,_,.nil=>rfl
 | _,_,.cons _ t=>by rw[Qi,Qi,IsAll.length t]
theorem IsAll.get:∀{vs ds} {i:Nat} {d},IsAll K F H vs ds->ds[i]? = some d->∃v,vs[i]? = some v/\Is K F H v d
 | _,_,_,_,.nil,e=>by simp at e
 | _,_,0,_,.cons r _,e=>by simp at e;subst e;exact⟨_,rfl,r⟩
 | _,_,i+1,d,.cons _ t,e=>by
   obtain⟨v,h1,h2⟩:=IsAll.get (i:=i) (d:=d) t (by simpa using e);exact⟨v,by simpa using h1,h2⟩
theorem IsAll.append:∀{vs ds ws es},IsAll K F H vs ds->IsAll K F H ws es->IsAll K F H (vs++ws) (ds++es)
 | _,_,_,_,.nil,s=>s
 | _,_,_,_,.cons r t,s=>.cons r (IsAll.append t s)
theorem IsAll.snoc{vs ds v d}(h:IsAll K F H vs ds)(r:Is K F H v d):IsAll K F H (vs ++ [v]) (ds ++ [d]):=h.append (.cons r .nil)
theorem IsAll.take:∀{vs ds} (n:Nat),IsAll K F H vs ds->IsAll K F H (vs.take n) (ds.take n)
 | _,_,0,_=>.nil
 | _,_,_+1,.nil=>.nil
 | _,_,n+1,.cons r t=>.cons r (IsAll.take n t)
theorem IsAll.drop:∀{vs ds} (n:Nat),IsAll K F H vs ds->IsAll K F H (vs.drop n) (ds.drop n)
 | _,_,0,r=>r
 | _,_,_+1,.nil=>.nil
 | _,_,n+1,.cons _ t=>IsAll.drop n t
end
def SameB(M:Addr->Prop)(H H':Hp):Prop:=∀a o,H a=some o->¬M a->H' a=some o
theorem SameB.refl(M:Addr->Prop)(H:Hp):SameB M H H:=λ_ _ h _=>h
theorem SameB.trans(a:SameB M H H1)(b:SameB M H1 H2):SameB M H H2:=λc o h n=>b c o (a c o h n) n
theorem SameB.of(s:Same H H'):SameB M H H':=λa o h _=>s a o h
theorem SameB.free(e:SameB M H H')(hm:¬M l)(h:H' l=QF):H l=QF:=by
 cases q:H l with
 | none=>rfl
 | some o=>rw[e l o q hm] at h;cases h
def TupStay(H H':Hp):Prop:=∀a u,(∃xs,u=HO.tup xs\/∃o,u=HO.frz o (.tup xs))->H a=some u->H' a=some u
theorem SqT.stay{K:Qa}{H H':Hp}{a:Addr}{xs:List V}(e:TupStay H H')(h:SqT K H a xs):SqT K H' a xs:=by
 rcases h with (h|⟨o,h⟩)|h
 .exact .inl (.inl (e _ _ ⟨xs,.inl rfl⟩ h))
 .exact .inl (.inr ⟨o,e _ _ ⟨xs,.inr ⟨o,rfl⟩⟩ h⟩)
 .exact .inr h
structure Ob where
 M:Addr->Prop
 P:Hp->Prop
 v:V
structure Ob.Ok(O:Ob):Prop where
 loc:∀H H',(∀a,O.M a->H' a=H a)->O.P H->O.P H'
 mutb:∀H a o,O.P H->H a=some o->O.M a->(∀xs,o≠.tup xs)/\∀q u,o≠.frz q u
 here:∀H a,O.P H->O.M a->∃o,H a=some o
theorem Ob.Ok.grow{O:Ob}(ok:O.Ok)(H H':Hp)(s:Same H H')(p:O.P H):O.P H':=ok.loc H H' (λa m=>by
 obtain⟨o,e⟩:=ok.here H a p m
 rw[e,s a o e]) p
def Ob.plus(O:Ob)(D:Addr)(u:HO):Ob:=⟨λa=>O.M a\/a=D,λH=>O.P H/\H D=some u,O.v⟩
theorem Ob.Ok.plus{O:Ob}(ok:O.Ok)(D:Addr)(xs:List V):(O.plus D (.lst xs)).Ok :=
 ⟨λH H' e p=>⟨ok.loc H H' (λa m=>e a (.inl m)) p.1,(e D (.inr rfl)).trans p.2⟩,
  λH a o p e m=>by
   rcases m with m|rfl
   .exact ok.mutb H a o p.1 e m
   .rw[p.2] at e;cases e;exact⟨λ_ h=>(by cases h),λ_ _ h=>(by cases h)⟩,
  λH a p m=>by
   rcases m with m|rfl
   .exact ok.here H a p.1 m
   .exact⟨_,p.2⟩⟩
structure Stp(O:Ob)(H H':Hp):Prop where
 s:SameB O.M H H'
 p:O.P H->O.P H'
 t:TupStay H H'
theorem Stp.refl(O:Ob)(H:Hp):Stp O H H:=⟨.refl _ _,λh=>h,λ_ _ _ h=>h⟩
theorem Stp.trans(a:Stp O H H1)(b:Stp O H1 H2):Stp O H H2:=⟨a.s.trans b.s,λh=>b.p (a.p h),λc u hu h=>b.t c u hu (a.t c u hu h)⟩
theorem Stp.same(ok:O.Ok)(s:Same H H'):Stp O H H':=⟨.of s,ok.grow H H' s,λa u _ h=>s a u h⟩
theorem same_new(h:H p=none)(o:HO):Same H (upd H p o):=λb u q=>by rw[zaa (zar q h)];exact q
theorem Stp.new{O:Ob}(ok:O.Ok){H:Hp}{p:Addr}(h:H p=none)(o:HO):Stp O H (upd H p o):=.same ok (same_new h o)
section
variable {K:Qa}{O:Ob}{F F':Addr->Prop}{H H':Hp}{v:V}{d:Ug}
theorem Is.stp(s:Stp O H H')(hF:∀a,F a->F' a)(hM:∀a,F a->¬O.M a)(h:Is K F H v d):Is K F' H' v d :=
 h.to (λa xs f q=>⟨hF a f,s.s a _ q (hM a f)⟩) λa xs q=>SqT.stay (h:=q) s.t
theorem IsAll.stp(s:Stp O H H')(hF:∀a,F a->F' a)(hM:∀a,F a->¬O.M a)(h:IsAll K F H vs ds):IsAll K F' H' vs ds :=
 h.to (λa xs f q=>⟨hF a f,s.s a _ q (hM a f)⟩) λa xs q=>SqT.stay (h:=q) s.t
theorem Is.weak(h:Is K F H v d)(hF:∀a,F a->F' a):Is K F' H v d:=h.to (λa xs f q=>⟨hF a f,q⟩) λa xs q=>q
theorem IsAll.weak(h:IsAll K F H vs ds)(hF:∀a,F a->F' a):IsAll K F' H vs ds:=h.to (λa xs f q=>⟨hF a f,q⟩) λa xs q=>q
end
mutual
def flat:Ug->Bool
 | .none=>true
 | .bool _=>true
 | .int _=>true
 | .str _=>true
 | .tuple ds=>flats ds
 | _=>false
def flats:List Ug->Bool
 | []=>true
 | d::ds=>flat d && flats ds
end
theorem flats_iff:∀{ds:List Ug},flats ds=true↔∀d∈ds,flat d=true
 | []=>by simp[flats]
 | d::ds=>by rw[flats,QR,flats_iff];simp
mutual
theorem Is.flat{K:Qa}{F F':Addr->Prop}{H H':Hp}(t:TupStay H H'):∀{v d},Is K F H v d->L3.flat d=true->Is K F' H' v d
 | _,_,.none,_=>.none
 | _,_,.bool b,_=>.bool b
 | _,_,.int i,_=>.int i
 | _,_,.str x,_=>.str x
 | _,_,.list _ _ _,h=>by simp[L3.flat] at h
 | _,_,.tuple q r,h=>.tuple (SqT.stay t q) (IsAll.flats t r (by simpa[L3.flat] using h))
theorem IsAll.flats{K:Qa}{F F':Addr->Prop}{H H':Hp}(t:TupStay H H'):∀{vs ds},IsAll K F H vs ds->L3.flats ds=true->IsAll K F' H' vs ds
 | _,_,.nil,_=>.nil
 | _,_,.cons r s,h=>by
   rw[L3.flats,QR] at h;exact .cons (Is.flat t r h.1) (IsAll.flats t s h.2)
end
theorem TupStay.refl(H:Hp):TupStay H H:=λ_ _ _ h=>h
section
variable {X:Cx}{pins:List (Addr×Obj)}{σ:St}{H:Hp}{s:Ui}{F:Addr->Prop}
mutual
theorem Is.reads(I:Inv X pins σ H s):∀{v d} {u:Uf},Is X.K F H v d->RelV v u->∃as,Reads s.heap u d as
 | _,_,_,.none,r=>by cases r;exact⟨_,.none⟩
 | _,_,_,.bool b,r=>by cases r;exact⟨_,.bool b⟩
 | _,_,_,.int i,r=>by obtain⟨t,rfl⟩:=r;exact⟨_,.int i t⟩
 | _,_,_,.str x,r=>by obtain⟨t,rfl⟩:=r;exact⟨_,.str x t⟩
 | _,_,_,.list f q rs,r=>by
   cases r;obtain⟨its,rv,⟨o,n,e,c,_,dt⟩,_⟩:=I.list (.of q);obtain⟨as,ra⟩:=IsAll.reads I rs rv;exact⟨_,.list e c dt (by simpa using ra)⟩
 | _,_,_,.tuple q rs,r=>by
   cases r;obtain⟨its,rv,⟨o,e,c,n,dt⟩,_⟩:=I.tuple q;obtain⟨as,ra⟩:=IsAll.reads I rs rv;exact⟨_,.tuple e c dt (by simpa using ra)⟩
theorem IsAll.reads(I:Inv X pins σ H s):∀{vs ds} {us:List Uf},IsAll X.K F H vs ds->Vals vs us->∃as,ReadsAll s.heap us ds as
 | _,_,_,.nil,r=>by cases r;exact⟨_,.nil⟩
 | _,_,_,.cons h t,r=>by
   cases r with
   | cons r1 r2=>
     obtain⟨as,ra⟩:=Is.reads I h r1;obtain⟨bs,rb⟩:=IsAll.reads I t r2;exact⟨_,.cons ra rb⟩
end
end
def IsS(K:Qa)(F:Addr->Prop)(H:Hp)(v:V)(n:Nat):Prop:=∃a xs,v = .ref a/\xs.length=n/\((F a/\Rd H a (.lst xs))\/∀H',SqL K H' a xs)
theorem IsS.to{K:Qa}{F F':Addr->Prop}{H H':Hp}{v:V}{n:Nat}(hL:∀a u,F a->H a=some u->F' a/\H' a=some u)(h:IsS K F H v n):IsS K F' H' v n:=by
 obtain⟨a,xs,e,l,⟨f,q|⟨o,q⟩⟩|q⟩:=h
 .exact⟨a,xs,e,l,.inl ⟨(hL a _ f q).1,.inl (hL a _ f q).2⟩⟩
 .exact⟨a,xs,e,l,.inl ⟨(hL a _ f q).1,.inr ⟨o,(hL a _ f q).2⟩⟩⟩
 .exact⟨a,xs,e,l,.inr q⟩
def DkAt(H:Hp)(v:V)(a:Addr)(ks:List Str):Prop:=v = .ref a/\∃kvs,H a=some (.dK kvs)/\kvs.map (·.1)=ks.map Yu
theorem DkAt.to(h:DkAt H v a ks)(e:∀u,H a=some u->H' a=some u):DkAt H' v a ks:=let ⟨h1,kvs,h2,h3⟩:=h;⟨h1,kvs,e _ h2,h3⟩
inductive R where
 | o (d:Ug)
 | n (ds:List Ug)
def R.d:R->Ug
 | .o d=>d
 | .n ds=>.list ds
structure Thg where
 R:Qa->(Addr->Prop)->(Addr->Prop)->Hp->V->Prop
 to:∀{K:Qa} {F F' W W':Addr->Prop} {H H':Hp} {v:V},(∀a u,F a->H a=some u->F' a/\H' a=some u)->(∀a u,W a->H a=some u->W' a/\H' a=some u)->TupStay H H'->R K F W H v->R K F' W' H' v
inductive DV where
 | im (d:Ug)
 | own (ds:List Ug)
 | ob
 | scr (n:Nat)
 | dct (ks:List Str)
   | gen (f:Addr->List V->HO) (ds:List Ug)
   | rd (f:Addr->List V->HO) (ds:List Ug)
   | exc (C:Addr) (ns:List Str) (ds:List Ug)
   | thg (T:Thg)
   | thr (T:Thg)
abbrev DSt:=List (Option DV)
abbrev DE:=DSt->(R->Prop)->Prop
abbrev DT:=DSt->(Bool->Prop)->Prop
abbrev DA:=DSt->(List Ug->Prop)->Prop
def unM(O:Ob):Addr->Prop:=λa=>¬O.M a
def ExAt(F:Addr->Prop)(H:Hp)(v:V)(C:Addr)(ns:List Str)(xs:List V):Prop:=∃a dx,v = .ref a/\F a/\F dx/\H a=some (XR a C dx)/\H dx=some (.xd (ns.zip xs))/\xs.length=ns.length
theorem ExAt.to(hL:∀a u,F a->H a=some u->F' a/\H' a=some u)(h:ExAt F H v C ns xs):ExAt F' H' v C ns xs:=by
 obtain⟨a,dx,e,f1,f2,q1,q2,l⟩:=h;exact⟨a,dx,e,(hL a _ f1 q1).1,(hL dx _ f2 q2).1,(hL a _ f1 q1).2,(hL dx _ f2 q2).2,l⟩
def SeenV(K:Qa)(O:Ob)(H:Hp)(v:V):DV->Prop
 | .im d=>Is K (unM O) H v d
 | .own ds=>Is K (unM O) H v (.list ds)
 | .ob=>v=O.v
 | .scr n=>IsS K (unM O) H v n
 | .dct ks=>∃a,¬O.M a/\DkAt H v a ks
 | .gen f ds=>∃a xs,v = .ref a/\¬O.M a/\H a=some (f a xs)/\IsAll K (unM O) H xs ds
 | .rd f ds=>∃a xs,v = .ref a/\¬O.M a/\H a=some (f a xs)/\IsAll K (unM O) H xs ds
 | .exc C ns ds=>∃xs,ExAt (unM O) H v C ns xs/\IsAll K (unM O) H xs ds
 | .thg T=>∃W:Addr->Prop,(∀a,W a->¬O.M a/\∃o,H a=some o)/\T.R K (unM O) W H v
 | .thr T=>∃W:Addr->Prop,(∀a,W a->¬O.M a/\∃o,H a=some o)/\T.R K (unM O) W H v
structure Seen(K:Qa)(O:Ob)(H:Hp)(σ:St)(ρ:DSt):Prop where
 ok:O.Ok
 p:O.P H
 at_:∀(i:Nat) r,ρ[i]? = some (some r)->∃v,σ[i]? = some (some v)/\SeenV K O H v r
 len:ρ.length=σ.length
theorem SeenV.stp{K:Qa}{O:Ob}{H H':Hp}{v:V}{r:DV}(s:Stp O H H')(h:SeenV K O H v r):SeenV K O H' v r:=by
 cases r with
 | im d=>exact Is.stp s (λ_ f=>f) (λ_ f=>f) h
 | own ds=>exact Is.stp s (λ_ f=>f) (λ_ f=>f) h
 | ob=>exact h
 | scr n=>exact IsS.to (λa u f q=>⟨f,s.s a u q f⟩) h
 | dct ks=>obtain⟨a,n,h⟩:=h;exact⟨a,n,h.to λu q=>s.s a u q n⟩
 | gen f ds=>obtain⟨a,xs,e,n,q,z⟩:=h;exact⟨a,xs,e,n,s.s a _ q n,IsAll.stp s (λ_ f=>f) (λ_ f=>f) z⟩
 | rd f ds=>obtain⟨a,xs,e,n,q,z⟩:=h;exact⟨a,xs,e,n,s.s a _ q n,IsAll.stp s (λ_ f=>f) (λ_ f=>f) z⟩
 | exc C ns ds=>obtain⟨xs,e,z⟩:=h;exact⟨xs,e.to λa u f q=>⟨f,s.s a u q f⟩,IsAll.stp s (λ_ f=>f) (λ_ f=>f) z⟩
 | thg T=>obtain⟨W,hw,z⟩:=h;exact⟨W,λa w=>⟨(hw a w).1,let ⟨o,e⟩:=(hw a w).2;⟨o,s.s a o e (hw a w).1⟩⟩,T.to (λa u f q=>⟨f,s.s a u q f⟩) (λa u w q=>⟨w,s.s a u q (hw a w).1⟩) s.t z⟩
 | thr T=>obtain⟨W,hw,z⟩:=h;exact⟨W,λa w=>⟨(hw a w).1,let ⟨o,e⟩:=(hw a w).2;⟨o,s.s a o e (hw a w).1⟩⟩,T.to (λa u f q=>⟨f,s.s a u q f⟩) (λa u w q=>⟨w,s.s a u q (hw a w).1⟩) s.t z⟩
theorem Seen.stp{K:Qa}{O:Ob}{H H':Hp}{σ:St}{ρ:DSt}(S:Seen K O H σ ρ)(s:Stp O H H'):Seen K O H' σ ρ :=
 ⟨S.ok,s.p S.p,λi r e=>let ⟨v,h1,h2⟩:=S.at_ i r e;⟨v,h1,h2.stp s⟩,S.len⟩
def Out(K:Qa)(O:Ob)(H H':Hp)(v:V):R->Prop
 | .o d=>Is K (unM O) H' v d
 | .n ds=>∃a xs,v = .ref a/\H a=none/\H' a=some (.lst xs)/\IsAll K (unM O) H' xs ds
theorem Out.is{K:Qa}{O:Ob}{H H':Hp}{v:V}{r:R}(ok:O.Ok)(p:O.P H)(h:Out K O H H' v r):Is K (unM O) H' v r.d:=by
 cases r with
 | o d=>exact h
 | n ds=>
   obtain⟨a,xs,rfl,hn,e,q⟩:=h;exact .list (λm=>by obtain⟨o,z⟩:=ok.here H a p m;rw[hn] at z;cases z) e q
def ED(K:Qa)(O:Ob)(t:TE)(f:DE):Prop :=
 ∀(σ:St) (H:Hp) (ρ:DSt) (Q:VK) (Qd:R->Prop),Seen K O H σ ρ->f ρ Qd->(∀v H' r,Stp O H H'->Out K O H H' v r->Qd r->Q v H')->t σ H Q
def TD(K:Qa)(O:Ob)(t:TT)(f:DT):Prop :=
 ∀(σ:St) (H:Hp) (ρ:DSt) (Q:Bool->Hp->Prop) (Qd:Bool->Prop),Seen K O H σ ρ->f ρ Qd->(∀b H',Stp O H H'->Qd b->Q b H')->t σ H Q
def AD(K:Qa)(O:Ob)(t:TA)(f:DA):Prop :=
 ∀(σ:St) (H:Hp) (ρ:DSt) (Q:List V->Hp->Prop) (Qd:List Ug->Prop),Seen K O H σ ρ->f ρ Qd->(∀vs H' ds,Stp O H H'->IsAll K (unM O) H' vs ds->Qd ds->Q vs H')->t σ H Q
section
variable {K:Qa}{O:Ob}
def cD(d:Ug):DE:=λ_ Q=>Q (.o d)
theorem zyu{i:Int}:ED K O (tC (.int i)) (cD (.int i)):=λσ H ρ Q Qd S h k=>k _ H (.o (.int i)) (.refl _ _) (Is.int i) h
theorem zx7: ED K O (tC (.str x)) (cD (.str x)):=λσ H ρ Q Qd S h k=>k _ H (.o (.str x)) (.refl _ _) (Is.str x) h
theorem zzf{b:Bool}:ED K O (tC (.bl b)) (cD (.bool b)):=λσ H ρ Q Qd S h k=>k _ H (.o (.bool b)) (.refl _ _) (Is.bool b) h
theorem zxl:ED K O (tC .non) (cD .none):=λσ H ρ Q Qd S h k=>k _ H (.o .none) (.refl _ _) Is.none h
def seeR:DV->Option Ug
 | .im d=>some d
 | .own ds=>some (.list ds)
 | .ob=>none
 | .scr _=>none
 | .dct _=>none
 | .gen _ _=>none
 | .rd _ _=>none
 | .exc _ _ _=>none
 | .thg _=>none
 | .thr _=>none
def vD(i:Nat):DE:=λρ Q=>∃r d,ρ[i]? = some (some r)/\seeR r=some d/\Q (.o d)
theorem zxx{i:Nat}:ED K O (tVar i) (vD i):=λσ H ρ Q Qd S h k=>by
 obtain⟨r,d,e,e2,h⟩:=h;obtain⟨v,hv,sv⟩:=S.at_ i r e;refine⟨v,hv,k _ H _ (.refl _ _) ?_ h⟩
 cases r with
 | im d'=>cases e2;exact sv
 | own ds=>cases e2;exact sv
 | ob=>cases e2
 | scr n=>cases e2
 | dct ks=>cases e2
 | gen f ds=>cases e2
 | rd f ds=>cases e2
 | exc C ns ds=>cases e2
 | thg T=>cases e2
 | thr T=>cases e2
def OpD(K:Qa)(O:Ob)(r:R2)(f:Ug->Ug->(R->Prop)->Prop):Prop :=
 ∀(H:Hp) (x y:V) (d e:Ug) (Q:VK) (Qd:R->Prop),O.Ok->O.P H->Is K (unM O) H x d->Is K (unM O) H y e->f d e Qd->(∀v H' r,Stp O H H'->Out K O H H' v r->Qd r->Q v H')->r x y H Q
theorem Out.ahead(ok:O.Ok)(p:O.P H)(s1:Stp O H H1)(h:Out K O H1 H2 v r):Out K O H H2 v r:=by
 cases r with
 | o d=>exact h
 | n ds=>
   obtain⟨a,xs,rfl,hn,e,q⟩:=h;have m:¬O.M a:=λm=>by obtain⟨o,z⟩:=ok.here H1 a (s1.p p) m;rw[hn] at z;cases z
   exact⟨a,xs,rfl,s1.s.free m hn,e,q⟩
def opDE(f:Ug->Ug->(R->Prop)->Prop)(fa fb:DE):DE:=λρ Q=>fa ρ λa=>fb ρ λb=>f a.d b.d Q
theorem zkl(hr:OpD K O r f)(ha:ED K O ta fa)(hb:ED K O tb fb):ED K O (tOp r ta tb) (opDE f fa fb):=λσ H ρ Q Qd S h k=>by
 refine ha σ H ρ _ _ S h λv H1 a s1 o1 h1=>?_;refine hb σ H1 ρ _ _ (S.stp s1) h1 λw H2 b s2 o2 h2=>?_;have p1:=s1.p S.p;refine hr H2 v w a.d b.d _ _ S.ok (s2.p p1) (Is.stp s2 (λ_ f=>f) (λ_ f=>f) (o1.is S.ok S.p)) (o2.is S.ok p1) h2 λz H3 c s3 o3 h3=>?_;exact k z H3 c ((s1.trans s2).trans s3) (Out.ahead S.ok S.p (s1.trans s2) o3) h3
def fn2(F:Ug->Ug->Option R):Ug->Ug->(R->Prop)->Prop:=λa b Q=>∃r,F a b=some r/\Q r
def bD(f:DE):DT:=λρ Q=>f ρ λr=>∃b,r.d = .bool b/\Q b
theorem zw0(h:ED K O t f):TD K O (zew t) (bD f):=λσ H ρ Q Qd S hf k=>by
 refine h σ H ρ _ _ S hf λv H1 r s1 o1 zz=>?_;obtain⟨b,e,q⟩:=zz;have i:=o1.is S.ok S.p;rw[e] at i;cases i;exact⟨b,rfl,k b H1 s1 q⟩
theorem zwd(h:ED K O t f):TD K O (tB t) (bD f):=λσ H ρ Q Qd S hf k=>by
 refine h σ H ρ _ _ S hf λv H1 r s1 o1 zz=>?_;obtain⟨b,e,q⟩:=zz;have i:=o1.is S.ok S.p;rw[e] at i;cases i;exact⟨b,rfl,k b H1 s1 q⟩
def andT(f g:DT):DT:=λρ Q=>f ρ λb=>if b=true then g ρ Q else Q false
def orT(f g:DT):DT:=λρ Q=>f ρ λb=>if b=true then Q true else g ρ Q
def notT(f:DT):DT:=λρ Q=>f ρ λb=>Q (!b)
theorem zyt(h:TD K O t f)(h':TD K O u g):TD K O (tAnd t u) (andT f g):=λσ H ρ Q Qd S hf k=>by
 refine h σ H ρ _ _ S hf λb H1 s1 q=>?_
 cases b with
 | true=>exact h' σ H1 ρ _ _ (S.stp s1) q λc H2 s2 q2=>k c H2 (s1.trans s2) q2
 | false=>exact k false H1 s1 q
theorem z0n(h:TD K O t f)(h':TD K O u g):TD K O (tOr t u) (orT f g):=λσ H ρ Q Qd S hf k=>by
 refine h σ H ρ _ _ S hf λb H1 s1 q=>?_
 cases b with
 | false=>exact h' σ H1 ρ _ _ (S.stp s1) q λc H2 s2 q2=>k c H2 (s1.trans s2) q2
 | true=>exact k true H1 s1 q
theorem zy7(h:TD K O t f):TD K O (tNot t) (notT f):=λσ H ρ Q Qd S hf k=>h σ H ρ _ _ S hf λb H1 s1 q=>k (!b) H1 s1 q
def ifD(c:DT)(f g:DE):DE:=λρ Q=>c ρ λb=>if b=true then f ρ Q else g ρ Q
theorem z0v(hc:TD K O c fc)(h:ED K O t f)(h':ED K O u g):ED K O (tIf c t u) (ifD fc f g):=λσ H ρ Q Qd S hf k=>by
 refine hc σ H ρ _ _ S hf λb H1 s1 q=>?_
 cases b with
 | true=>exact h σ H1 ρ _ _ (S.stp s1) q λv H2 r s2 o2 q2=>k v H2 r (s1.trans s2) (o2.ahead S.ok S.p s1) q2
 | false=>exact h' σ H1 ρ _ _ (S.stp s1) q λv H2 r s2 o2 q2=>k v H2 r (s1.trans s2) (o2.ahead S.ok S.p s1) q2
def aNil:DA:=λ_ Q=>Q []
def ztt(f:DE)(g:DA):DA:=λρ Q=>f ρ λr=>g ρ λds=>Q (r.d::ds)
theorem zx6:AD K O tNil aNil:=λσ H ρ Q Qd S h k=>k [] H [] (.refl _ _) .nil h
theorem zuo(h:ED K O t f)(h':AD K O u g):AD K O (zat t u) (ztt f g):=λσ H ρ Q Qd S hf k=>by
 refine h σ H ρ _ _ S hf λv H1 r s1 o1 q=>?_;refine h' σ H1 ρ _ _ (S.stp s1) q λvs H2 ds s2 o2 q2=>?_;exact k (v::vs) H2 (r.d::ds) (s1.trans s2) (.cons (Is.stp s2 (λ_ f=>f) (λ_ f=>f) (o1.is S.ok S.p)) o2) q2
def tupD(g:DA):DE:=λρ Q=>g ρ λds=>ds.length<=sizeLine/\Q (.o (.tuple ds))
def lstD(g:DA):DE:=λρ Q=>g ρ λds=>ds.length<=sizeLine/\Q (.n ds)
theorem zx3(h:AD K O u g):ED K O (tTup u) (tupD g):=λσ H ρ Q Qd S hf k=>by
 refine h σ H ρ _ _ S hf λvs H1 ds s1 o1 ⟨z,q⟩=>⟨by rw[o1.length];exact z,λp hp=>?_⟩;have s2:Stp O H1 (upd H1 p (.tup vs)):=.new S.ok hp _;exact k _ _ (.o (.tuple ds)) (s1.trans s2) (.tuple (.of zac) (o1.stp s2 (λ_ f=>f) (λ_ f=>f))) q
theorem zyj(h:AD K O u g):ED K O (tLst u) (lstD g):=λσ H ρ Q Qd S hf k=>by
 refine h σ H ρ _ _ S hf λvs H1 ds s1 o1 ⟨z,q⟩=>⟨by rw[o1.length];exact z,λp hp=>?_⟩;have s2:Stp O H1 (upd H1 p (.lst vs)):=.new S.ok hp _;have m:¬O.M p:=λm=>by obtain⟨o,z⟩:=S.ok.here H1 p (s1.p S.p) m;rw[hp] at z;cases z
 exact k _ _ (.n ds) (s1.trans s2) ⟨p,vs,rfl,s1.s.free m hp,zac,o1.stp s2 (λ_ f=>f) (λ_ f=>f)⟩ q
def zd9(K:Qa)(O:Ob)(r:List V->Hp->VK->Prop)(f:List Ug->(R->Prop)->Prop):Prop :=
 ∀(H:Hp) (vs:List V) (ds:List Ug) (Q:VK) (Qd:R->Prop),O.Ok->O.P H->IsAll K (unM O) H vs ds->f ds Qd->(∀v H' r,Stp O H H'->Out K O H H' v r->Qd r->Q v H')->r vs H Q
def zc6(f:List Ug->(R->Prop)->Prop)(g:DA):DE:=λρ Q=>g ρ λds=>f ds Q
theorem zmi(hr:zd9 K O r f)(h:AD K O u g):ED K O (tCB r u) (zc6 f g):=λσ H ρ Q Qd S hf k=>by
 refine h σ H ρ _ _ S hf λvs H1 ds s1 o1 q=>?_;exact hr H1 vs ds _ _ S.ok (s1.p S.p) o1 q λv H2 r s2 o2 q2=>k v H2 r (s1.trans s2) (o2.ahead S.ok S.p s1) q2
def fn1(F:List Ug->Option R):List Ug->(R->Prop)->Prop:=λds Q=>∃r,F ds=some r/\Q r
end
abbrev DG:=Ug->DSt->(DSt->Prop)->Prop
def gN(i:Nat):DG:=λd ρ Q=>Q (ρ.set i (some (.im d)))
def gTD:List Nat->List Ug->DSt->(DSt->Prop)->Prop
 | [],[],ρ,Q=>Q ρ
 | i::is,d::ds,ρ,Q=>gTD is ds (ρ.set i (some (.im d))) Q
 | _,_,_,_=>False
def gT(is:List Nat):DG:=λd ρ Q=>∃ds,d = .tuple ds/\gTD is ds ρ Q
def GS(K:Qa)(O:Ob)(t:TG)(g:DG):Prop :=
 ∀(σ:St) (H:Hp) (ρ:DSt) (v:V) (d:Ug) (Q:St->Hp->Prop) (Qd:DSt->Prop),Seen K O H σ ρ->Is K (unM O) H v d->g d ρ Qd->(∀σ' ρ',Seen K O H σ' ρ'->Qd ρ'->Q σ' H)->t v σ H Q
section
variable {K:Qa}{O:Ob}
theorem Seen.set{i:Nat}(S:Seen K O H σ ρ)(h:SeenV K O H v r):Seen K O H (σ.set i (some v)) (ρ.set i (some r)):=by
 have hl:=S.len;refine⟨S.ok,S.p,λj r' e=>?_,by rw[QX,QX];exact S.len⟩
 by_cases hj:i=j
 .subst hj
  have hi:i<ρ.length:=by
   rcases Zp i ρ.length with z|z
   .exact z
   .rw[Qz (by simpa using z)] at e;cases e
  rw[Q4 hi] at e;cases e;exact⟨v,Q4 (by lia),h⟩
 .rw[QC hj] at e;obtain⟨w,h1,h2⟩:=S.at_ j r' e;exact⟨w,by rw[QC hj];exact h1,h2⟩
theorem zv1{i:Nat}:GS K O (za0 i) (gN i):=λσ H ρ v d Q Qd S i h k=>k _ _ (S.set (r:=.im d) i) h
def GSs(K:Qa)(O:Ob)(t:TGs)(is:List Nat):Prop :=
 ∀(σ:St) (H:Hp) (ρ:DSt) (vs:List V) (ds:List Ug) (Q:St->Hp->Prop) (Qd:DSt->Prop),Seen K O H σ ρ->IsAll K (unM O) H vs ds->gTD is ds ρ Qd->(∀σ' ρ',Seen K O H σ' ρ'->Qd ρ'->Q σ' H)->t vs σ H Q
theorem zv5:GSs K O gNil []:=λσ H ρ vs ds Q Qd S i h k=>by
 cases i with
 | nil=>exact⟨rfl,k σ ρ S h⟩
 | cons _ _=>exact h.elim
theorem zta{i:Nat}{is:List Nat}(ht:GSs K O t is):GSs K O (zhv (za0 i) t) (i::is):=λσ H ρ vs ds Q Qd S h q k=>by
 cases h with
 | nil=>exact q.elim
 | cons h1 h2=>exact⟨_,_,rfl,ht _ H _ _ _ _ _ (S.set (r:=.im _) h1) h2 q k⟩
theorem zit:∀{is:List Nat} {ds:List Ug} {ρ:DSt} {Q:DSt->Prop},gTD is ds ρ Q->ds.length=is.length
 | [],[],_,_,_=>rfl
 | [],_::_,_,_,h=>h.elim
 | _::_,[],_,_,h=>h.elim
 | _::is,_::ds,ρ,Q,h=>by
   have e:=zit (is:=is) (ds:=ds) (Q:=Q) h;rw[Qi,Qi,e]
theorem zy1{is:List Nat}{n:Nat}(hn:is.length=n)(ht:GSs K O t is):GS K O (gTup K n t) (gT is):=λσ H ρ v d Q Qd S i h k=>by
 obtain⟨ds,rfl,h⟩:=h
 cases i with
 | tuple q r=>exact⟨_,_,rfl,q,by rw[r.length,zit h];exact hn,ht σ H ρ _ ds Q Qd S r h k⟩
structure Walk(K:Qa)(O:Ob)(H H1:Hp)(J:It)(ds:List Ug)(B:Addr->Prop):Prop where
 st:Stp O H H1
 hb:∀a,B a->¬O.M a/\∃o,H1 a=some o
 stop:∀H2 i,(∀a o,B a->H1 a=some o->H2 a=some o)->TupStay H1 H2->ds.length<=i->J.stop i H2
 item:∀H2 i d,(∀a o,B a->H1 a=some o->H2 a=some o)->TupStay H1 H2->ds[i]? = some d->(flat d=true\/∀a o,H1 a=some o->¬O.M a->H2 a=some o) ->
  J.go i H2/\∀x H3,J.yld i H2 x H3->Same H2 H3/\Is K (λa=>¬O.M a/\(flat d=true\/∃o,H1 a=some o)) H3 x d
abbrev DI:=DSt->(Bool->List Ug->Prop)->Prop
def SrcS(K:Qa)(O:Ob)(wi:TI)(f:DI):Prop :=
 ∀(σ:St) (H:Hp) (ρ:DSt) (R:It->Hp->Prop) (Qd:Bool->List Ug->Prop),Seen K O H σ ρ->f ρ Qd ->
   (∀(J:It) (H1:Hp) (ds:List Ug) (B:Addr->Prop) (fr:Bool),Walk K O H H1 J ds B->(fr=true->∀a,B a->H a=none)->Qd fr ds->R J H1)->wi σ H R
end
def zbq(h:Nat)(g:DG)(ft:DT)(fe:DE)(ρ:DSt)(Q:List Ug->Prop):List Ug->List Ug->Prop
 | [],acc=>Q acc
 | d::ds,acc=>g d (Qp h none++ρ) λρ2=>ft ρ2 λb=>if b=true then fe ρ2 λr=>acc.length<sizeLine/\zbq h g ft fe ρ Q ds (acc ++ [r.d]) else zbq h g ft fe ρ Q ds acc
def zj9(h:Nat)(f:DI)(g:DG)(ft:DT)(fe:DE):DE:=λρ Q=>f ρ λ_ ds=>zbq h g ft fe ρ (λes=>Q (.n es)) ds []
section
variable {K:Qa}{O:Ob}
theorem zgs(S:Seen K O H σ ρ)(h:Nat):Seen K O H (Qp h none++σ) (Qp h none++ρ):=by
 refine⟨S.ok,S.p,λi r e=>?_,by rw[Qf,Qf,QG,QG,S.len]⟩
 by_cases hi:i<h
 .rw[Q6 (by simpa using hi),QP,GO hi] at e;cases e
 .rw[QB (by simpa using Jq hi),QG] at e;obtain⟨v,h1,h2⟩:=S.at_ _ r e;exact⟨v,by rw[QB (by simpa using Jq hi),QG];exact h1,h2⟩
theorem zj1(S:Seen K O H σ ρ)(hD:H D=none):Seen K (O.plus D (.lst xs)) (upd H D (.lst xs)) σ ρ:=by
 have gr:Same H (upd H D (.lst xs)):=same_new hD _;refine⟨S.ok.plus D xs,⟨S.ok.grow _ _ gr S.p,zac⟩,λi r e=>?_,S.len⟩;obtain⟨v,h1,h2⟩:=S.at_ i r e
 have go:∀d,Is K (unM O) H v d->Is K (unM (O.plus D (.lst xs))) (upd H D (.lst xs)) v d:=λd z=>
  z.to (λa ys f q=>⟨λm=>(by
   rcases m with m|rfl
   .exact f m
   .rw[hD] at q;cases q),gr _ _ q⟩) λa ys q=>SqT.stay (h:=q) λb u _ hb=>gr b u hb
 refine⟨v,h1,?_⟩
 cases r with
 | im d=>exact go d h2
 | own ds=>exact go _ h2
 | ob=>exact h2
 | scr n=>exact IsS.to (λa u f q=>⟨λm=>(by
  rcases m with m|rfl
  .exact f m
  .rw[hD] at q;cases q),gr _ _ q⟩) h2
 | dct ks=>
   obtain⟨a,n,h2⟩:=h2;refine⟨a,λm=>?_,h2.to λu q=>gr _ _ q⟩;rcases m with m|rfl
   .exact n m
   .obtain⟨_,kvs,q,_⟩:=h2;rw[hD] at q;cases q
 | gen f ds=>
   obtain⟨a,ys,e,n,q,z⟩:=h2
   refine⟨a,ys,e,λm=>?_,gr _ _ q,z.to (λa ys f q=>⟨λm=>(by
    rcases m with m|rfl
    .exact f m
    .rw[hD] at q;cases q),gr _ _ q⟩) λa ys q=>SqT.stay (h:=q) λb u _ hb=>gr b u hb⟩
   rcases m with m|rfl
   .exact n m
   .rw[hD] at q;cases q
 | rd f ds=>
   obtain⟨a,ys,e,n,q,z⟩:=h2
   refine⟨a,ys,e,λm=>?_,gr _ _ q,z.to (λa ys f q=>⟨λm=>(by
    rcases m with m|rfl
    .exact f m
    .rw[hD] at q;cases q),gr _ _ q⟩) λa ys q=>SqT.stay (h:=q) λb u _ hb=>gr b u hb⟩
   rcases m with m|rfl
   .exact n m
   .rw[hD] at q;cases q
 | exc C ns ds=>
   obtain⟨ys,e,z⟩:=h2
   have mv:∀a u,unM O a->H a=some u->unM (O.plus D (.lst xs)) a/\upd H D (.lst xs) a=some u:=λa u f q=>⟨λm=>(by
    rcases m with m|rfl
    .exact f m
    .rw[hD] at q;cases q),gr _ _ q⟩
   exact⟨ys,e.to mv,z.to (λa ys f q=>mv a _ f q) λa ys q=>SqT.stay (h:=q) λb u _ hb=>gr b u hb⟩
 | thg T=>
   obtain⟨W,hw,z⟩:=h2
   exact⟨W,λa w=>⟨λm=>(by
    obtain⟨n,o,q⟩:=hw a w;rcases m with m|rfl
    .exact n m
    .rw[hD] at q;cases q),let ⟨o,q⟩:=(hw a w).2;⟨o,gr _ _ q⟩⟩,T.to (λa u f q=>⟨λm=>(by
    rcases m with m|rfl
    .exact f m
    .rw[hD] at q;cases q),gr _ _ q⟩) (λa u w q=>⟨w,gr _ _ q⟩) (λb u _ hb=>gr b u hb) z⟩
 | thr T=>
   obtain⟨W,hw,z⟩:=h2
   exact⟨W,λa w=>⟨λm=>(by
    obtain⟨n,o,q⟩:=hw a w;rcases m with m|rfl
    .exact n m
    .rw[hD] at q;cases q),let ⟨o,q⟩:=(hw a w).2;⟨o,gr _ _ q⟩⟩,T.to (λa u f q=>⟨λm=>(by
    rcases m with m|rfl
    .exact f m
    .rw[hD] at q;cases q),gr _ _ q⟩) (λa u w q=>⟨w,gr _ _ q⟩) (λb u _ hb=>gr b u hb) z⟩
theorem znh{h:Nat}(hs:SrcS K O wi f)(hg:∀O':Ob,GS K O' tg g)
 (hf:∀(D:Addr) (xs:List V),¬O.M D->TD K (O.plus D (.lst xs)) tf ft) (he:∀(D:Addr) (xs:List V),¬O.M D->ED K (O.plus D (.lst xs)) te fe):ED K O (zdh h wi tg tf te) (zj9 h f g ft fe):=by
 intro σ H ρ Q Qd S hq k;refine hs σ H ρ _ _ S hq λJ H1 ds B fr W _ hgo D hD=>?_;have S1:=S.stp W.st;have nM:¬O.M D:=λm=>by obtain⟨o,z⟩:=S.ok.here H1 D S1.p m;rw[hD] at z;cases z
 have aD:∀a o,H1 a=some o->a≠D:=λa o e z=>by rw[z,hD] at e;cases e
 refine⟨λi m ys H2=>m=ds.length-i/\i<=ds.length/\H2 D=some (.lst ys)/\(∀a o,H1 a=some o->¬O.M a->H2 a=some o)/\TupStay H1 H2/\Seen K (O.plus D (.lst ys)) H2 σ ρ /\
  ∃acc,IsAll K (λa=>¬(O.M a\/a=D)) H2 ys acc/\zbq h g ft fe ρ (λes=>Qd (.n es)) (ds.drop i) acc,⟨ds.length,rfl,QK _,zac,λa o e _=>by rw[zaa (aD a o e)];exact e,λa u _ e=>by rw[zaa (aD a u e)];exact e,zj1 S1 hD,[],.nil,by simpa using hgo⟩,?_⟩
 rintro i m ys H2 ⟨rfl,hi,hDy,kp,tst,S2,acc,hacc,go⟩;refine⟨hDy,?_⟩;have kB:∀a o,B a->H1 a=some o->H2 a=some o:=λa o b e=>kp a o e (W.hb a b).1
 by_cases hlt:i<ds.length
 .right;have hd:ds[i]? = some ds[i]:=Qb hlt;rw[QJ hlt] at go;obtain⟨hgo1,hy⟩:=W.item H2 i ds[i] kB tst hd (.inr kp);refine⟨hgo1,λx H3 y=>?_⟩;obtain⟨sm,ix⟩:=hy x H3 y;have st3:Stp (O.plus D (.lst ys)) H2 H3:=.same S2.ok sm;have S3:=S2.stp st3
  have ix':Is K (unM (O.plus D (.lst ys))) H3 x ds[i]:=by
   by_cases hfl:flat ds[i]=true
   .exact Is.flat (TupStay.refl H3) ix hfl
   .exact ix.weak λa ha mm=>by
     rcases mm with mm|mm
     .exact ha.1 mm
     .rcases ha.2 with z|⟨o,z⟩
      .exact hfl z
      .exact aD a o z mm
  refine hg _ _ H3 _ x ds[i] _ _ (zgs S3 h) ix' go λσ2 ρ2 Sg q=>?_;refine hf D ys nM σ2 H3 ρ2 _ _ Sg q λb H4 st4 q4=>?_;have st34:=st3.trans st4;have acc4:∀{H':Hp},Stp (O.plus D (.lst ys)) H2 H'->IsAll K (λa=>¬(O.M a\/a=D)) H' ys acc:=λst=>hacc.stp st (λ_ z=>z) (λ_ z=>z)
  cases b with
  | false=>
    refine⟨ds.length-(i+1),by lia,rfl,hlt,st34.s D _ hDy |> λz=>(st34.p S2.p).2,λa o e n=>?_,λa u hu e=>st34.t a u hu (tst a u hu e),S2.stp st34,acc,acc4 st34,q4⟩
    exact st34.s a o (kp a o e n) λmm=>by
     rcases mm with mm|mm
     .exact n mm
     .exact aD a o e mm
  | true=>
    refine he D ys nM σ2 H4 ρ2 _ _ (Sg.stp st4) q4 λyv H5 r st5 o5 zz=>?_;obtain⟨hz,q5⟩:=zz;have st25:=st34.trans st5;have S5:=S2.stp st25;have hD5:H5 D=some (.lst ys):=(st25.p S2.p).2;have iy:=o5.is (Sg.stp st4).ok (Sg.stp st4).p;have a5:=acc4 st25;refine⟨hD5,by rw[hacc.length];exact hz,ds.length-(i+1),by lia,rfl,hlt,zac,λa o e n=>?_,λa u hu e=>?_,?_,acc ++ [r.d],?_,q5⟩
    .rw[zaa (aD a o e)]
     exact st25.s a o (kp a o e n) λmm=>by
      rcases mm with mm|mm
      .exact n mm
      .exact aD a o e mm
    .rw[zaa (aD a u e)];exact st25.t a u hu (tst a u hu e)
    .have p5:O.P (upd H5 D (.lst (ys ++ [yv]))):=S.ok.loc H5 _ (λa m=>zaa λz=>nM (z ▸ m)) S5.p.1;refine⟨S.ok.plus D _,⟨p5,zac⟩,λj r' e=>?_,S5.len⟩;obtain⟨v',h1,h2⟩:=S5.at_ j r' e
     have go:∀d,Is K (unM (O.plus D (.lst ys))) H5 v' d->Is K (unM (O.plus D (.lst (ys ++ [yv])))) (upd H5 D (.lst (ys ++ [yv]))) v' d:=λd z=>
      z.to (λa xs fa qa=>⟨fa,by rw[zaa λz=>fa (.inr z)];exact qa⟩) λa xs qa=>SqT.stay (h:=qa) λb u hu hb=>by
       rw[zaa λz=>?_]
       .exact hb
       .obtain⟨us,e1|⟨o',e1⟩⟩:=hu <;> (rw[z,hD5] at hb;cases hb;cases e1)
     refine⟨v',h1,?_⟩
     cases r' with
     | im d=>exact go d h2
     | own es=>exact go _ h2
     | ob=>exact h2
     | scr n=>exact IsS.to (λa u fa qa=>⟨fa,by rw[zaa λz=>fa (.inr z)];exact qa⟩) h2
     | dct ks=>obtain⟨a,fa,h2⟩:=h2;exact⟨a,fa,h2.to λu qa=>by rw[zaa λz=>fa (.inr z)];exact qa⟩
     | gen f ds=>
       obtain⟨a,xs,e,fa,q,z⟩:=h2;refine⟨a,xs,e,fa,by rw[zaa λz=>fa (.inr z)];exact q,z.to (λa xs fa qa=>⟨fa,by rw[zaa λz=>fa (.inr z)];exact qa⟩) λa xs qa=>SqT.stay (h:=qa) λb u hu hb=>?_⟩;rw[zaa λz=>?_]
       .exact hb
       .obtain⟨us,e1|⟨o',e1⟩⟩:=hu <;> (rw[z,hD5] at hb;cases hb;cases e1)
     | rd f ds=>
       obtain⟨a,xs,e,fa,q,z⟩:=h2;refine⟨a,xs,e,fa,by rw[zaa λz=>fa (.inr z)];exact q,z.to (λa xs fa qa=>⟨fa,by rw[zaa λz=>fa (.inr z)];exact qa⟩) λa xs qa=>SqT.stay (h:=qa) λb u hu hb=>?_⟩;rw[zaa λz=>?_]
       .exact hb
       .obtain⟨us,e1|⟨o',e1⟩⟩:=hu <;> (rw[z,hD5] at hb;cases hb;cases e1)
     | exc C ns ds=>
       obtain⟨xs,e,z⟩:=h2;have mv:∀a u,unM (O.plus D (.lst ys)) a->H5 a=some u->unM (O.plus D (.lst (ys ++ [yv]))) a/\upd H5 D (.lst (ys ++ [yv])) a=some u:=λa u fa qa=>⟨fa,by rw[zaa λz=>fa (.inr z)];exact qa⟩;refine⟨xs,e.to mv,z.to (λa xs fa qa=>mv a _ fa qa) λa xs qa=>SqT.stay (h:=qa) λb u hu hb=>?_⟩;rw[zaa λz=>?_]
       .exact hb
       .obtain⟨us,e1|⟨o',e1⟩⟩:=hu <;> (rw[z,hD5] at hb;cases hb;cases e1)
     | thg T=>
       obtain⟨W,hw,z⟩:=h2;refine⟨W,λa w=>⟨(hw a w).1,let ⟨o,q⟩:=(hw a w).2;⟨o,by rw[zaa λz=>(hw a w).1 (.inr z)];exact q⟩⟩,T.to (λa u fa qa=>⟨fa,by rw[zaa λz=>fa (.inr z)];exact qa⟩) (λa u w q=>⟨w,by rw[zaa λz=>(hw a w).1 (.inr z)];exact q⟩) (λb u hu hb=>?_) z⟩;rw[zaa λz=>?_]
       .exact hb
       .obtain⟨us,e1|⟨o',e1⟩⟩:=hu <;> (rw[z,hD5] at hb;cases hb;cases e1)
     | thr T=>
       obtain⟨W,hw,z⟩:=h2;refine⟨W,λa w=>⟨(hw a w).1,let ⟨o,q⟩:=(hw a w).2;⟨o,by rw[zaa λz=>(hw a w).1 (.inr z)];exact q⟩⟩,T.to (λa u fa qa=>⟨fa,by rw[zaa λz=>fa (.inr z)];exact qa⟩) (λa u w q=>⟨w,by rw[zaa λz=>(hw a w).1 (.inr z)];exact q⟩) (λb u hu hb=>?_) z⟩;rw[zaa λz=>?_]
       .exact hb
       .obtain⟨us,e1|⟨o',e1⟩⟩:=hu <;> (rw[z,hD5] at hb;cases hb;cases e1)
    .have mv:∀{vs es},IsAll K (λa=>¬(O.M a\/a=D)) H5 vs es->IsAll K (λa=>¬(O.M a\/a=D)) (upd H5 D (.lst (ys ++ [yv]))) vs es:=λz=>
      z.to (λa xs fa qa=>⟨fa,by rw[zaa λz=>fa (.inr z)];exact qa⟩) λa xs qa=>SqT.stay (h:=qa) λb u hu hb=>by
       rw[zaa λz=>?_]
       .exact hb
       .obtain⟨us,e1|⟨o',e1⟩⟩:=hu <;> (rw[z,hD5] at hb;cases hb;cases e1)
     exact mv (a5.snoc iy)
 .left;have e:i=ds.length:=by lia
  subst e;rw[ZF] at go;refine⟨W.stop H2 _ kB tst (Qg _),k _ H2 (.n acc) ?_ ⟨D,ys,rfl,W.st.s.free nM hD,hDy,hacc.weak λa z m=>z (.inl m)⟩ go⟩;refine W.st.trans ⟨λa o e n=>kp a o e n,λ_=>S2.p.1,tst⟩
end
section
variable {K:Qa}{O:Ob}
theorem zgh{i:Nat}{d:Ug}(h:IsAll K (unM O) H1 xs ds)(hd:ds[i]? = some d)(t:TupStay H1 H2)(c:flat d=true\/∀a o,H1 a=some o->¬O.M a->H2 a=some o):
 ∃v,xs[i]? = some v/\Is K (λa=>¬O.M a/\(flat d=true\/∃o,H1 a=some o)) H2 v d:=by
 obtain⟨v,hv,iv⟩:=h.get hd;refine⟨v,hv,?_⟩;rcases c with c|c
 .exact Is.flat t iv c
 .exact iv.to (λa ys f q=>⟨⟨f,.inr ⟨_,q⟩⟩,c a _ q f⟩) λa ys q=>SqT.stay (h:=q) t
def R.isN:R->Bool
 | .n _=>true
 | .o _=>false
def srcL(f:DE):DI:=λρ Q=>f ρ λr=>∃ds,r.d = .list ds/\Q r.isN ds
theorem zmb(h:ED K O t f):SrcS K O (zb2 K t) (srcL f):=λσ H ρ R Qd S hf k=>by
 refine h σ H ρ _ _ S hf λv H1 r st o1 zz=>?_;obtain⟨ds,e,q⟩:=zz;have i1:=o1.is S.ok S.p;rw[e] at i1
 cases i1 with
 | list f0 ha hs=>
   rename_i a xs
   refine⟨a,rfl,⟨xs,.of ha⟩,k (Itl K a) H1 ds (λb=>b=a) r.isN ⟨st,λb hb=>by subst hb;exact⟨f0,_,ha⟩,λH2 i kb _ hi=>?_,λH2 i d kb t2 hd c=>?_⟩ (λz b hb=>?_) q⟩
   .exact⟨xs,.of (kb a _ rfl ha),by rw[hs.length];exact hi⟩
   .obtain⟨w,hw,iw⟩:=zgh (O:=O) hs hd t2 c;have q2:SqL K H2 a xs:=.of (kb a _ rfl ha);refine⟨⟨xs,w,q2,hw⟩,λx H3 zz=>?_⟩;obtain⟨e3,y⟩:=zz;subst e3;have:=y xs q2;rw[hw] at this;cases this;exact⟨Same.refl _,iw⟩
   .subst hb
    cases r with
    | o d=>cases z
    | n es=>
      obtain⟨a',xs',e',hn,_⟩:=o1;cases e';exact hn
def srcT(f:DE):DI:=λρ Q=>f ρ λr=>∃ds,r.d = .tuple ds/\Q true ds
theorem zwh(h:ED K O t f):SrcS K O (iTup K t) (srcT f):=λσ H ρ R Qd S hf k=>by
 refine h σ H ρ _ _ S hf λv H1 r st o1 zz=>?_;obtain⟨ds,e,q⟩:=zz;have i1:=o1.is S.ok S.p;rw[e] at i1
 cases i1 with
 | tuple ha hs=>
   rename_i a xs
   refine⟨a,rfl,⟨xs,ha⟩,k (Itt K a) H1 ds (λ_=>False) true ⟨st,λb hb=>hb.elim,λH2 i kb t2 hi=>?_,λH2 i d kb t2 hd c=>?_⟩ (λz b hb=>hb.elim) q⟩
   .exact⟨xs,SqT.stay t2 ha,by rw[hs.length];exact hi⟩
   .obtain⟨w,hw,iw⟩:=zgh (O:=O) hs hd t2 c;have q2:SqT K H2 a xs:=SqT.stay t2 ha;refine⟨⟨xs,w,q2,hw⟩,λx H3 zz=>?_⟩;obtain⟨e3,y⟩:=zz;subst e3;have:=y xs q2;rw[hw] at this;cases this;exact⟨Same.refl _,iw⟩
def zfa(lo:Int)(n:Nat):List Ug:=(Q7 n).map λk=>.int (lo+(k:Nat))
theorem zfg{lo:Int}{n i:Nat}{d:Ug}(h:(zfa lo n)[i]? = some d):i<n/\d = .int (lo+(i:Nat)):=by
 unfold zfa at h;rw[Qm] at h
 by_cases hi:i<n
 .rw[Zk hi] at h;cases h;exact⟨hi,rfl⟩
 .rw[Qz (by simpa using hi)] at h;cases h
theorem zqt(st:Stp O H H1)(lo:Int)(n:Nat):Walk K O H H1 (Itr lo n) (zfa lo n) (λ_=>False) :=
 ⟨st,λb hb=>hb.elim,λH2 i _ _ hi=>(show n<=i by simpa[zfa] using hi),λH2 i d _ t2 hd c=>by
  obtain⟨hi,rfl⟩:=zfg hd;refine⟨hi,λx H3 zz=>?_⟩;obtain⟨e3,y⟩:=zz;subst e3 y
  exact⟨Same.refl _,.int _⟩⟩
def zto(g:DA):DI:=λρ Q=>g ρ λds=>∃j:Int,ds = [.int j]/\-(2 ^ 62)<=j/\j<2 ^ 62/\Q true (zfa 0 j.toNat)
theorem zso(h:AD K O t g):SrcS K O (zn1 t) (zto g):=λσ H ρ R Qd S hf k=>by
 refine h σ H ρ _ _ S hf λvs H1 ds st is zz=>?_;obtain⟨j,e,b1,b2,q⟩:=zz;subst e
 cases is with
 | cons i0 is=>
   cases is;cases i0;exact⟨j,rfl,b1,b2,k _ H1 _ _ true (zqt st 0 j.toNat) (λ_ _ hb=>hb.elim) q⟩
end
def sg(c:Nat):Str:=⟨#[c]⟩
def Its(x:Str):It:=⟨λi _=>i<x.cps.size,λi H v H'=>H'=H/\∃c,x.cps[i]? = some c/\v = .str (sg c),λi _=>x.cps.size<=i⟩
theorem zlj{P:Um}{w:Uq}{K:Qa}{tg:Expr}{it:Addr}{x:Str}{t:Tok}{ty:String}(hty:["enumerate", "zip", "dict_itemiterator", "dict_reverseitemiterator", "odict_iterator", "itertools.zip_longest", "itertools.pairwise"].contains ty=false)
 (W:∀A':Us,A'.handled=none->Walks P w A' it [it] [it] x.cps.size (SignAt x) (λi h=>h.IsStrIter it ty x t i))
 (hself:∀(A:Us) (i:Nat) (s:Ui) (Q:Uf->Ui->Prop) (E:Uf->Ui->Prop),s.heap.IsStrIter it ty x t i->Q (.ref it) s->wpAny (model P w) A (pyIter (.ref it)) Q E s) :
 Turn P w K tg (Its x) [it] it (λi h=>i<=x.cps.size/\h.IsStrIter it ty x t i) where
 mem:=by simp
 obj:=λi h st b hb=>by
  have e:b=it:=by simpa using hb
  subst e;obtain⟨_,o,e,c,d⟩:=st;exact⟨o,e,λv z=>by rw[d] at z;cases z⟩
 keep:=λi h h' st k=>⟨st.1,by
  obtain⟨_,o,e,c⟩:=st
  exact⟨o,k it (by simp) o e,c⟩⟩
 item:=by
  intro X hP hw hK hc i pins s σ H E I hf st hg;subst hP hw hK;obtain⟨f0,f1,f2,f3,f4,f5⟩:=hf it (by simp);refine(W X.A (I.ok.hd hc)).item i s _ _ hg st.2 λv h' tk hv st' kk=>?_;obtain⟨c,u,hcx,rfl⟩:=hv;have I1:Inv X pins σ H { s with heap:=h',toks:=tk }:=I.turned (λb o hb e=>kk b o (by simpa using hb) e) f0 f1 f3 f4 f5;obtain⟨o,e,hcl,hdt⟩:=id st';exact⟨_,rfl,zke (s:={ s with heap:=h',toks:=tk }) e hcl hdt hty ⟨.str (sg c),H,I1,⟨u,rfl⟩,⟨rfl,c,hcx,rfl⟩,⟨hg,st'⟩,λb hb=>(hf b hb).1⟩⟩
 done:=by
  intro X hP hw hK hc i pins s σ H E I hf st hg;subst hP hw hK;obtain⟨f0,f1,f2,f3,f4,f5⟩:=hf it (by simp);have hi:i=x.cps.size:=Nat.le_antisymm st.1 hg;subst hi;exact(W X.A (I.ok.hd hc)).done s _ _ st.2 λh' tk kk=>⟨rfl,I.turned (λb o hb e=>kk b o (by simpa using hb) e) f0 f1 f3 f4 f5⟩
 self:=λA i s Q E st h=>hself A i s Q E st.2 h
def iStr(t:TE):TI:=λσ H R=>t σ H λv H1=>∃x,v = .str x/\R (Its x) H1
theorem zzd(hl:PE X l tl):PI X tg l (iStr tl):=by
 intro pins s σ H R I h;refine thn (hl pins s σ H _ I h) λv s1 zz=>?_;obtain⟨y,H1,I1,r1,q1⟩:=zz;obtain⟨x,e,q⟩:=q1;subst e;obtain⟨t,rfl⟩:=r1
 have fin:∀(o:Obj) (T:Nat->Heap->Prop),Turn X.prog X.w X.K tg (Its x) [s1.heap.objs.size] s1.heap.objs.size T->T 0 (s1.heap.push o)->PIE X pins σ tg R (.ref s1.heap.objs.size) { s1 with heap:=s1.heap.push o }:=λo T hT h0=>by
  refine⟨s1.heap.objs.size,[s1.heap.objs.size],T,Its x,H1,rfl,I1.kept (t':=s1.toks) λb o e=>Qj _ e,hT,h0,λb hb=>?_,q⟩;have e:b=s1.heap.objs.size:=by simpa using hb
  subst e;exact I1.fpOk (Qg _) (I1.hok.fresh (Qg _))
 cases ha:x.cps.all (· < 128)
 .exact wpAny_pyIter_wide ha (fin _ _ (zlj (by decide) (λA' hA=>Walks.strWide hA _ x t) λ_ _ _ _ _ st h=>wpAny_pyIter_striter_wide st h) ⟨QK _,_,Q1 _ rfl,rfl,rfl⟩)
 .exact wpAny_pyIter_ascii ha (fin _ _ (zlj (by decide) (λA' hA=>Walks.strAscii hA _ x t) λ_ _ _ _ _ st h=>wpAny_pyIter_striter_ascii st h) ⟨QK _,_,Q1 _ rfl,rfl,rfl⟩)
def sgs(x:Str):List Ug:=x.cps.toList.map λc=>.str (sg c)
def srcS(f:DE):DI:=λρ Q=>f ρ λr=>∃x,r.d = .str x/\Q true (sgs x)
theorem zvk{K:Qa}{O:Ob}{t:TE}{f:DE}(h:ED K O t f):SrcS K O (iStr t) (srcS f):=λσ H ρ R Qd S hf k=>by
 refine h σ H ρ _ _ S hf λv H1 r st o1 zz=>?_;obtain⟨x,e,q⟩:=zz;have i1:=o1.is S.ok S.p;rw[e] at i1;cases i1;refine⟨x,rfl,k (Its x) H1 (sgs x) (λ_=>False) true ⟨st,λb hb=>hb.elim,λH2 i _ _ hi=>(show x.cps.size<=i by simpa[sgs] using hi),λH2 i d _ t2 hd c=>?_⟩ (λ_ _ hb=>hb.elim) q⟩;unfold sgs at hd;rw[Qm] at hd;obtain⟨n,hn,rfl⟩:=Qt.mp hd;have hn':x.cps[i]? = some n:=by simpa using hn
 have hi:i<x.cps.size:=by
  obtain⟨z,_⟩:=Array.getElem?_eq_some_iff.mp hn';exact z
 refine⟨hi,λy H3 zz=>?_⟩;obtain⟨e3,n',h1,h2⟩:=zz;subst e3 h2;rw[hn'] at h1;cases h1;exact⟨Same.refl _,.str _⟩
structure DEnds where
 nx:DSt->Prop
 rt:R->Prop
 bk:DSt->Prop:=λ_=>False
 ct:DSt->Prop:=λ_=>False
abbrev DS:=DEnds->DSt->Prop
def unO(O:Ob)(A:Nat->Addr->Prop):Addr->Prop:=λa=>¬O.M a/\∀j,¬A j a
def OwnO(o:HO):Prop:=(∀us,o≠.tup us/\∀o',o≠.frz o' (.tup us))/\∀o',o≠.frz o' (.own 0)
theorem OwnO.lst: OwnO (.lst xs):=⟨λ_=>⟨λz=>(nomatch z),λ_ z=>(nomatch z)⟩,λ_ z=>(nomatch z)⟩
def RepV(K:Qa)(O:Ob)(A:Nat->Addr->Prop)(H:Hp)(i:Nat)(v:V):DV->Prop
 | .im d=>Is K (unO O A) H v d
 | .own ds=>∃a xs,v = .ref a/\A i a/\H a=some (.lst xs)/\IsAll K (unO O A) H xs ds
 | .ob=>v=O.v
 | .scr n=>IsS K (unO O A) H v n
 | .dct ks=>∃a,A i a/\DkAt H v a ks
 | .gen f ds=>∃a xs,v = .ref a/\A i a/\H a=some (f a xs)/\IsAll K (unO O A) H xs ds
 | .rd f ds=>∃a xs,v = .ref a/\unO O A a/\H a=some (f a xs)/\IsAll K (unO O A) H xs ds
 | .exc C ns ds=>∃xs,ExAt (unO O A) H v C ns xs/\IsAll K (unO O A) H xs ds
 | .thg T=>T.R K (unO O A) (A i) H v
 | .thr T=>∃W:Addr->Prop,(∀a,W a->unO O A a/\∃o,H a=some o)/\T.R K (unO O A) W H v
structure Rep(K:Qa)(O:Ob)(H₀:Hp)(A:Nat->Addr->Prop)(H:Hp)(σ:St)(ρ:DSt):Prop where
 ok:O.Ok
 p:O.P H
 p0:O.P H₀
 st:Stp O H₀ H
 dis:∀i j a,A i a->A j a->i=j
 own:∀i a,A i a->H₀ a=none/\(∃o,H a=some o/\OwnO o)/\¬O.M a
 at_:∀(i:Nat) r,ρ[i]? = some (some r)->∃v,σ[i]? = some (some v)/\RepV K O A H i v r
 len:ρ.length=σ.length
def Frm(O:Ob)(A:Nat->Addr->Prop)(H:Hp)(A':Nat->Addr->Prop)(H':Hp):Prop:=∀a o,H a=some o->unO O A a->H' a=some o/\unO O A' a
theorem Frm.refl: Frm O A H A H:=λ_ _ h u=>⟨h,u⟩
theorem Frm.trans(a:Frm O A H A1 H1)(b:Frm O A1 H1 A2 H2):Frm O A H A2 H2:=λc o h u=>let ⟨h1,u1⟩:=a c o h u;b c o h1 u1
structure Post(K:Qa)(O:Ob)(H₀:Hp)(A:Nat->Addr->Prop)(H:Hp)(D:Ends)(Dd:DEnds):Prop where
 nx:∀A' σ' H' ρ',Rep K O H₀ A' H' σ' ρ'->Frm O A H A' H'->Dd.nx ρ'->D.nx σ' H'
 bk:∀A' σ' H' ρ',Rep K O H₀ A' H' σ' ρ'->Frm O A H A' H'->Dd.bk ρ'->D.bk σ' H'
 ct:∀A' σ' H' ρ',Rep K O H₀ A' H' σ' ρ'->Frm O A H A' H'->Dd.ct ρ'->D.ct σ' H'
 rt:∀H' v r,Stp O H₀ H'->Out K O H₀ H' v r->Dd.rt r->D.rt v H'
def SD(K:Qa)(O:Ob)(t:TS)(g:DS):Prop :=
 ∀(H₀:Hp) (A:Nat->Addr->Prop) (σ:St) (H:Hp) (ρ:DSt) (D:Ends) (Dd:DEnds),Rep K O H₀ A H σ ρ->g Dd ρ->Post K O H₀ A H D Dd->t D σ H
section
variable {K:Qa}{O:Ob}{H₀ H H':Hp}{A:Nat->Addr->Prop}{σ:St}{ρ:DSt}
theorem Rep.seen(r:Rep K O H₀ A H σ ρ):Seen K O H σ ρ:=by
 refine⟨r.ok,r.p,λi x e=>?_,r.len⟩;obtain⟨v,hv,h⟩:=r.at_ i x e;refine⟨v,hv,?_⟩
 cases x with
 | im d=>exact h.weak λa u=>u.1
 | own ds=>
   obtain⟨a,xs,rfl,ha,hl,hs⟩:=h;exact .list (r.own i a ha).2.2 hl (hs.weak λa u=>u.1)
 | ob=>exact h
 | scr n=>exact IsS.to (λa u f q=>⟨f.1,q⟩) h
 | dct ks=>obtain⟨a,ha,h⟩:=h;exact⟨a,(r.own i a ha).2.2,h⟩
 | gen f ds=>obtain⟨a,xs,e,ha,q,z⟩:=h;exact⟨a,xs,e,(r.own i a ha).2.2,q,z.weak λa u=>u.1⟩
 | rd f ds=>obtain⟨a,xs,e,ha,q,z⟩:=h;exact⟨a,xs,e,ha.1,q,z.weak λa u=>u.1⟩
 | exc C ns ds=>obtain⟨xs,e,z⟩:=h;exact⟨xs,e.to λa u f q=>⟨f.1,q⟩,z.weak λa u=>u.1⟩
 | thg T=>exact⟨A i,λa w=>⟨(r.own i a w).2.2,let ⟨o,q,_⟩:=(r.own i a w).2.1;⟨o,q⟩⟩,T.to (λa u f q=>⟨f.1,q⟩) (λa u w q=>⟨w,q⟩) (TupStay.refl _) h⟩
 | thr T=>obtain⟨W,hw,z⟩:=h;exact⟨W,λa w=>⟨(hw a w).1.1,(hw a w).2⟩,T.to (λa u f q=>⟨f.1,q⟩) (λa u w q=>⟨w,q⟩) (TupStay.refl _) z⟩
theorem Rep.stp(r:Rep K O H₀ A H σ ρ)(s:Stp O H H'):Rep K O H₀ A H' σ ρ:=by
 refine⟨r.ok,s.p r.p,r.p0,r.st.trans s,r.dis,λi a ha=>?_,λi x e=>?_,r.len⟩
 .obtain⟨h0,⟨xs,hx,ho⟩,hm⟩:=r.own i a ha;exact⟨h0,⟨xs,s.s a _ hx hm,ho⟩,hm⟩
 .obtain⟨v,hv,h⟩:=r.at_ i x e;refine⟨v,hv,?_⟩
  cases x with
  | im d=>exact Is.stp s (λ_ z=>z) (λ_ z=>z.1) h
  | own ds=>
    obtain⟨a,xs,rfl,ha,hl,hs⟩:=h;exact⟨a,xs,rfl,ha,s.s a _ hl (r.own i a ha).2.2,hs.stp s (λ_ z=>z) (λ_ z=>z.1)⟩
  | ob=>exact h
  | scr n=>exact IsS.to (λa u f q=>⟨f,s.s a u q f.1⟩) h
  | dct ks=>obtain⟨a,ha,h⟩:=h;exact⟨a,ha,h.to λu q=>s.s a u q (r.own i a ha).2.2⟩
  | gen f ds=>obtain⟨a,xs,e,ha,q,z⟩:=h;exact⟨a,xs,e,ha,s.s a _ q (r.own i a ha).2.2,z.stp s (λ_ z=>z) (λ_ z=>z.1)⟩
  | rd f ds=>obtain⟨a,xs,e,ha,q,z⟩:=h;exact⟨a,xs,e,ha,s.s a _ q ha.1,z.stp s (λ_ z=>z) (λ_ z=>z.1)⟩
  | exc C ns ds=>obtain⟨xs,e,z⟩:=h;exact⟨xs,e.to λa u f q=>⟨f,s.s a u q f.1⟩,z.stp s (λ_ z=>z) (λ_ z=>z.1)⟩
  | thg T=>exact T.to (λa u f q=>⟨f,s.s a u q f.1⟩) (λa u w q=>⟨w,s.s a u q (r.own i a w).2.2⟩) s.t h
  | thr T=>obtain⟨W,hw,z⟩:=h;exact⟨W,λa w=>let ⟨f,o,q⟩:=hw a w;⟨f,o,s.s a o q f.1⟩,T.to (λa u f q=>⟨f,s.s a u q f.1⟩) (λa u w q=>⟨w,s.s a u q (hw a w).1.1⟩) s.t z⟩
theorem Frm.stp(s:Stp O H H'):Frm O A H A H':=λa o e u=>⟨s.s a o e u.1,u⟩
theorem Rep.setIm{i:Nat}{d:Ug}(r:Rep K O H₀ A H σ ρ)(h:Is K (unO O A) H v d):Rep K O H₀ (λj a=>j≠i/\A j a) H (σ.set i (some v)) (ρ.set i (some (.im d))):=by
 have un:∀a,unO O A a->unO O (λj a=>j≠i/\A j a) a:=λa u=>⟨u.1,λj z=>u.2 j z.2⟩;refine⟨r.ok,r.p,r.p0,r.st,λj k a x y=>r.dis j k a x.2 y.2,λj a x=>r.own j a x.2,λj x e=>?_,by rw[QX,QX];exact r.len⟩
 by_cases hj:i=j
 .subst hj
  have hi:i<ρ.length:=by
   rcases Zp i ρ.length with z|z
   .exact z
   .rw[Qz (by simpa using z)] at e;cases e
  rw[Q4 hi] at e;cases e;exact⟨v,Q4 (by have:=r.len;lia),h.weak un⟩
 .rw[QC hj] at e;obtain⟨w,h1,h2⟩:=r.at_ j x e;refine⟨w,by rw[QC hj];exact h1,?_⟩
  cases x with
  | im d=>exact h2.weak un
  | own ds=>
    obtain⟨a,xs,rfl,ha,hl,hs⟩:=h2;exact⟨a,xs,rfl,⟨λz=>hj z.symm,ha⟩,hl,hs.weak un⟩
  | ob=>exact h2
  | scr n=>exact IsS.to (λa u f q=>⟨un a f,q⟩) h2
  | dct ks=>obtain⟨a,ha,h2⟩:=h2;exact⟨a,⟨λz=>hj z.symm,ha⟩,h2⟩
  | gen f ds=>obtain⟨a,xs,e,ha,q,z⟩:=h2;exact⟨a,xs,e,⟨λz=>hj z.symm,ha⟩,q,z.weak un⟩
  | rd f ds=>obtain⟨a,xs,e,ha,q,z⟩:=h2;exact⟨a,xs,e,un a ha,q,z.weak un⟩
  | exc C ns ds=>obtain⟨xs,e,z⟩:=h2;exact⟨xs,e.to λa u f q=>⟨un a f,q⟩,z.weak un⟩
  | thg T=>exact T.to (λa u f q=>⟨un a f,q⟩) (λa u w q=>⟨⟨λz=>hj z.symm,w⟩,q⟩) (TupStay.refl _) h2
  | thr T=>obtain⟨W,hw,z⟩:=h2;exact⟨W,λa w=>⟨un a (hw a w).1,(hw a w).2⟩,T.to (λa u f q=>⟨un a f,q⟩) (λa u w q=>⟨w,q⟩) (TupStay.refl _) z⟩
def reg(A:Nat->Addr->Prop)(i:Nat)(W:Addr->Prop):Nat->Addr->Prop:=λj b=>(j≠i/\A j b)\/(j=i/\W b)
theorem Rep.tstay{i:Nat}(r:Rep K O H₀ A H σ ρ)(stay:∀b u,H b=some u->¬A i b->H' b=some u):TupStay H H':=λb u hu hb=>stay b u hb λz=>by
 obtain⟨_,⟨o,q,ho⟩,_⟩:=r.own i b z;rw[hb] at q;cases q;obtain⟨us,e1|⟨o',e1⟩⟩:=hu
 .exact(ho.1 us).1 e1
 .exact(ho.1 us).2 o' e1
theorem Rep.setX{i:Nat}(r:Rep K O H₀ A H σ ρ)(s:Stp O H H1)(stay1:∀b u,H1 b=some u->¬A i b->H' b=some u)(hW:∀b,W b->(A i b\/H b=QF)/\∃o,H' b=some o/\OwnO o)
 (hR:RepV K O (reg A i W) H' i v y):Rep K O H₀ (reg A i W) H' (σ.set i (some v)) (ρ.set i (some y)):=by
 have ts1:=(r.stp s).tstay stay1;have ts:TupStay H H':=λb u hu hb=>ts1 b u hu (s.t b u hu hb);have nA:∀b,O.M b->¬A i b:=λb m z=>(r.own i b z).2.2 m;have stay:∀b u,H b=some u->¬A i b->¬O.M b->H' b=some u:=λb u e z m=>stay1 b u (s.s b u e m) z
 have sM:∀b,O.M b->H' b=H1 b:=λb m=>by
  obtain⟨o,e⟩:=r.ok.here H1 b (s.p r.p) m;rw[e,stay1 b o e (nA b m)]
 have pp:O.P H':=r.ok.loc H1 _ sM (s.p r.p);have oth:∀{j b},j≠i->A j b->¬A i b:=λhj a z=>hj (r.dis _ _ _ a z)
 have un:∀b u,H b=some u->unO O A b->unO O (reg A i W) b:=λb u e f=>⟨f.1,λj z=>by
  rcases z with z|z
  .exact f.2 j z.2
  .rcases(hW b z.2).1 with y|y
   .exact f.2 i y
   .rw[e] at y;cases y⟩
 have tF:∀b u,unO O A b->H b=some u->unO O (reg A i W) b/\H' b=some u:=λb u f q=>⟨un b u q f,stay b u q (f.2 i) f.1⟩;have mv:∀{v d},Is K (unO O A) H v d->Is K (unO O (reg A i W)) H' v d:=λz=>z.to (λb ys f q=>tF b _ f q) λb ys q=>SqT.stay (h:=q) ts;have mvs:∀{v d},IsAll K (unO O A) H v d->IsAll K (unO O (reg A i W)) H' v d:=λz=>z.to (λb ys f q=>tF b _ f q) λb ys q=>SqT.stay (h:=q) ts
 have wm:∀b,W b->H₀ b=QF/\¬O.M b:=λb w=>by
  rcases(hW b w).1 with z|z
  .exact⟨(r.own i b z).1,(r.own i b z).2.2⟩
  .have m:¬O.M b:=λm=>by obtain⟨o,e⟩:=r.ok.here H b r.p m;rw[z] at e;cases e
   exact⟨r.st.s.free m z,m⟩
 refine⟨r.ok,pp,r.p0,⟨λb o hb n=>?_,λ_=>pp,λb u hu hb=>ts b u hu (r.st.t b u hu hb)⟩,λj k b x y=>?_,λj b x=>?_,λj x e=>?_,by rw[QX,QX];exact r.len⟩
 .exact stay b o (r.st.s b o hb n) (λz=>by rw[(r.own i b z).1] at hb;cases hb) n
 .rcases x with x|x <;> rcases y with y|y
  .exact r.dis j k b x.2 y.2
  .rcases(hW b y.2).1 with z|z
   .exact absurd (r.dis j i b x.2 z) x.1
   .obtain⟨_,⟨o,q,_⟩,_⟩:=r.own j b x.2;rw[z] at q;cases q
  .rcases(hW b x.2).1 with z|z
   .exact absurd (r.dis k i b y.2 z) y.1
   .obtain⟨_,⟨o,q,_⟩,_⟩:=r.own k b y.2;rw[z] at q;cases q
  .exact x.1.trans y.1.symm
 .rcases x with x|x
  .obtain⟨h0,⟨o,q,ho⟩,m⟩:=r.own j b x.2;exact⟨h0,⟨o,stay b o q (oth x.1 x.2) m,ho⟩,m⟩
  .exact⟨(wm b x.2).1,(hW b x.2).2,(wm b x.2).2⟩
 .by_cases hj:i=j
  .subst hj
   have hi:i<ρ.length:=by
    rcases Zp i ρ.length with z|z
    .exact z
    .rw[Qz (by simpa using z)] at e;cases e
   rw[Q4 hi] at e;cases e;exact⟨v,Q4 (by have:=r.len;lia),hR⟩
  .rw[QC hj] at e;obtain⟨w,h1,h2⟩:=r.at_ j x e;have hj':j≠i:=λz=>hj z.symm;refine⟨w,by rw[QC hj];exact h1,?_⟩
   cases x with
   | im d=>exact mv h2
   | own es=>
     obtain⟨b,ys,rfl,hb,hlb,hs⟩:=h2;exact⟨b,ys,rfl,.inl ⟨hj',hb⟩,stay b _ hlb (oth hj' hb) (r.own j b hb).2.2,mvs hs⟩
   | ob=>exact h2
   | scr n=>exact IsS.to (λb u f q=>tF b u f q) h2
   | dct ks=>obtain⟨b,hb,h2⟩:=h2;exact⟨b,.inl ⟨hj',hb⟩,h2.to λu q=>stay b u q (oth hj' hb) (r.own j b hb).2.2⟩
   | gen f ds=>obtain⟨b,xs,e,hb,q,z⟩:=h2;exact⟨b,xs,e,.inl ⟨hj',hb⟩,stay b _ q (oth hj' hb) (r.own j b hb).2.2,mvs z⟩
   | rd f ds=>obtain⟨b,xs,e,hb,q,z⟩:=h2;exact⟨b,xs,e,un b _ q hb,stay b _ q (hb.2 i) hb.1,mvs z⟩
   | exc C ns ds=>obtain⟨xs,e,z⟩:=h2;exact⟨xs,e.to λb u f q=>tF b u f q,mvs z⟩
   | thg T=>exact T.to (λb u f q=>tF b u f q) (λb u w q=>⟨.inl ⟨hj',w⟩,stay b u q (oth hj' w) (r.own j b w).2.2⟩) ts h2
   | thr T=>obtain⟨W',hw,z⟩:=h2;exact⟨W',λb w=>let ⟨f,o,q⟩:=hw b w;⟨un b o q f,o,stay b o q (f.2 i) f.1⟩,T.to (λb u f q=>tF b u f q) (λb u w q=>⟨w,stay b u q ((hw b w).1.2 i) (hw b w).1.1⟩) ts z⟩
theorem Rep.setOwn{i:Nat}(r:Rep K O H₀ A H σ ρ)(s:Stp O H H')(hn:H a=none)(hl:H' a=some (.lst xs))(hf:IsAll K (unM O) H' xs ds)(fl:flats ds=true):
 Rep K O H₀ (λj b=>(j≠i/\A j b)\/(j=i/\b=a)) H' (σ.set i (some (.ref a))) (ρ.set i (some (.own ds))) :=
 r.setX (W:=λb=>b=a) s (λ_ _ e _=>e) (λb e=>by subst e;exact⟨.inr hn,_,hl,.lst⟩) ⟨a,xs,rfl,.inr ⟨rfl,rfl⟩,hl,IsAll.flats (TupStay.refl H') hf fl⟩
theorem Frm.setIm{i:Nat}(s:Stp O H H'):Frm O A H (λj a=>j≠i/\A j a) H':=λa o e u=>⟨s.s a o e u.1,u.1,λj z=>u.2 j z.2⟩
theorem Frm.setOwn{i:Nat}(s:Stp O H H')(hn:H a=none):Frm O A H (λj b=>(j≠i/\A j b)\/(j=i/\b=a)) H':=λb o e u=>⟨s.s b o e u.1,u.1,λj z=>by
 rcases z with z|z
 .exact u.2 j z.2
 .rw[z.2,hn] at e;cases e⟩
theorem zld{i:Nat}:reg A i (A i)=A:=by
 funext j b;refine propext ⟨λz=>?_,λz=>?_⟩
 .rcases z with z|z
  .exact z.2
  .rw[z.1];exact z.2
 .by_cases e:j=i
  .exact .inr ⟨e,e ▸ z⟩
  .exact .inl ⟨e,z⟩
theorem Rep.changeX{i:Nat}(r:Rep K O H₀ A H σ ρ)(hv:σ[i]? = some (some (.ref a)))(ha:A i a)(ho:OwnO o)(hR:RepV K O A (upd H a o) i (.ref a) y):Rep K O H₀ A (upd H a o) σ (ρ.set i (some y)):=by
 have hs:σ.set i (some (.ref a))=σ:=by
  refine Zw λj=>?_;rw[List.getElem?_set]
  split
  .rename_i e
   subst e;rw[GO (Qk.mp hv).1,hv]
  .rfl
 have:=r.setX (i:=i) (v:=.ref a) (W:=A i) (y:=y) (H':=upd H a o) (.refl O H) (λb u e n=>by rw[zaa λz=>n (by rw[z];exact ha)];exact e) (λb z=>⟨.inl z,by
  by_cases e:b=a
  .subst e;exact⟨_,zac,ho⟩
  .obtain⟨_,⟨u,q,ou⟩,_⟩:=r.own i b z
   exact⟨u,by rw[zaa e];exact q,ou⟩⟩) (by rw[zld];exact hR)
 rw[zld,hs] at this;exact this
theorem Rep.up{i:Nat}(r:Rep K O H₀ A H σ ρ)(ha:A i a)(h:IsAll K (unO O A) H xs ds):IsAll K (unO O A) (upd H a o) xs ds :=
 have st:∀b u,H b=some u->¬A i b->upd H a o b=some u:=λb u e n=>by rw[zaa λz=>n (by rw[z];exact ha)];exact e
 h.to (λb ys f q=>⟨f,st b _ q (f.2 i)⟩) λb ys q=>SqT.stay (h:=q) (r.tstay st)
theorem Rep.change{i:Nat}(r:Rep K O H₀ A H σ ρ)(e:ρ[i]? = some (some (.own ds)))(hv:σ[i]? = some (some (.ref a)))(ha:A i a)(hs:IsAll K (unO O A) H ys es):
 Rep K O H₀ A (upd H a (.lst ys)) σ (ρ.set i (some (.own es))) :=
 r.changeX hv ha .lst ⟨a,ys,rfl,ha,zac,r.up ha hs⟩
theorem Frm.change{i:Nat}(ha:A i a):Frm O A H A (upd H a o):=λb u e n=>⟨by rw[zaa (show b≠a from λz=>n.2 i (by rw[z];exact ha))];exact e,n⟩
theorem Rep.disown{i:Nat}(r:Rep K O H₀ A H σ ρ)(e:ρ[i]? = some (some (.own ds))):Rep K O H₀ (λj a=>j≠i/\A j a) H σ (ρ.set i (some (.im (.list ds)))):=by
 have un:∀a,unO O A a->unO O (λj a=>j≠i/\A j a) a:=λa u=>⟨u.1,λj z=>u.2 j z.2⟩;refine⟨r.ok,r.p,r.p0,r.st,λj k a x y=>r.dis j k a x.2 y.2,λj a x=>r.own j a x.2,λj x ej=>?_,by rw[QX];exact r.len⟩
 by_cases hj:i=j
 .subst hj;have hi:i<ρ.length:=(Qk.mp e).1;rw[Q4 hi] at ej;cases ej;obtain⟨w,h1,h2⟩:=r.at_ i _ e;obtain⟨a,xs,rfl,ha,hl,hs⟩:=h2;exact⟨.ref a,h1,.list ⟨(r.own i a ha).2.2,λj z=>z.1 (r.dis j i a z.2 ha)⟩ hl (hs.weak un)⟩
 .rw[QC hj] at ej;obtain⟨w,h1,h2⟩:=r.at_ j x ej;refine⟨w,h1,?_⟩
  cases x with
  | im d=>exact h2.weak un
  | own fs=>
    obtain⟨b,us,rfl,hb,hlb,hs2⟩:=h2;exact⟨b,us,rfl,⟨λz=>hj z.symm,hb⟩,hlb,hs2.weak un⟩
  | ob=>exact h2
  | scr n=>exact IsS.to (λa u f q=>⟨un a f,q⟩) h2
  | dct ks=>obtain⟨b,hb,h2⟩:=h2;exact⟨b,⟨λz=>hj z.symm,hb⟩,h2⟩
  | gen f ds=>obtain⟨b,xs,e,hb,q,z⟩:=h2;exact⟨b,xs,e,⟨λz=>hj z.symm,hb⟩,q,z.weak un⟩
  | rd f ds=>obtain⟨b,xs,e,hb,q,z⟩:=h2;exact⟨b,xs,e,un b hb,q,z.weak un⟩
  | exc C ns ds=>obtain⟨xs,e,z⟩:=h2;exact⟨xs,e.to λb u f q=>⟨un b f,q⟩,z.weak un⟩
  | thg T=>exact T.to (λa u f q=>⟨un a f,q⟩) (λa u w q=>⟨⟨λz=>hj z.symm,w⟩,q⟩) (TupStay.refl _) h2
  | thr T=>obtain⟨W,hw,z⟩:=h2;exact⟨W,λa w=>⟨un a (hw a w).1,(hw a w).2⟩,T.to (λa u f q=>⟨un a f,q⟩) (λa u w q=>⟨w,q⟩) (TupStay.refl _) z⟩
end
section
variable {K:Qa}{O:Ob}
theorem Post.frm(P:Post K O H₀ A H D Dd)(f:Frm O A H A1 H1):Post K O H₀ A1 H1 D Dd :=
 ⟨λA' σ' H' ρ' r g=>P.nx A' σ' H' ρ' r (f.trans g),λA' σ' H' ρ' r g=>P.bk A' σ' H' ρ' r (f.trans g),λA' σ' H' ρ' r g=>P.ct A' σ' H' ρ' r (f.trans g),P.rt⟩
def seqD(g k:DS):DS:=λDd ρ=>g { Dd with nx:=k Dd } ρ
theorem zxo(h:SD K O t g)(h':SD K O u k):SD K O (tSeq t u) (seqD g k):=λH₀ A σ H ρ D Dd r q P=>
 h H₀ A σ H ρ _ _ r q ⟨λA' σ' H' ρ' r' f q'=>h' H₀ A' σ' H' ρ' D Dd r' q' (P.frm f),P.bk,P.ct,P.rt⟩
theorem zv4:SD K O zog (λDd ρ=>Dd.nx ρ):=λH₀ A σ H ρ D Dd r q P=>P.nx A σ H ρ r .refl q
def ifS(c:DT)(g k:DS):DS:=λDd ρ=>c ρ λb=>if b=true then g Dd ρ else k Dd ρ
theorem zzq(hc:TD K O c fc)(h:SD K O t g)(h':SD K O u k):SD K O (tIfS c t u) (ifS fc g k):=λH₀ A σ H ρ D Dd r q P=>by
 refine hc σ H ρ _ _ r.seen q λb H1 s1 q1=>?_
 cases b with
 | true=>exact h H₀ A σ H1 ρ D Dd (r.stp s1) q1 (P.frm (.stp s1))
 | false=>exact h' H₀ A σ H1 ρ D Dd (r.stp s1) q1 (P.frm (.stp s1))
def retS(f:DE):DS:=λDd ρ=>f ρ Dd.rt
theorem zw9(h:ED K O t f):SD K O (tRet t) (retS f):=λH₀ A σ H ρ D Dd r q P=>by
 refine h σ H ρ _ _ r.seen q λv H1 x s1 o1 q1=>P.rt H1 v x (r.st.trans s1) (o1.ahead r.ok r.p0 r.st) q1
def retO(i:Nat):DS:=λDd ρ=>∃ds,ρ[i]? = some (some (.own ds))/\Dd.rt (.n ds)
theorem zrd{i:Nat}:SD K O (tRet (tVar i)) (retO i):=λH₀ A σ H ρ D Dd r q P=>by
 obtain⟨ds,e,q⟩:=q;obtain⟨v,hv,a,xs,rfl,ha,hl,hs⟩:=r.at_ i _ e;exact⟨_,hv,P.rt H _ (.n ds) r.st ⟨a,xs,rfl,(r.own i a ha).1,hl,hs.weak λb u=>u.1⟩ q⟩
def asgS(i:Nat)(f:DE):DS:=λDd ρ=>f ρ λr=>match r with
 | .o d=>flat d=true/\Dd.nx (ρ.set i (some (.im d)))
 | .n ds=>flats ds=true/\Dd.nx (ρ.set i (some (.own ds)))
theorem zp3{i:Nat}(h:ED K O t f):SD K O (tAsg t (za0 i)) (asgS i f):=λH₀ A σ H ρ D Dd r q P=>by
 refine h σ H ρ _ _ r.seen q λv H1 x s1 o1 q1=>?_
 cases x with
 | o d=>
   obtain⟨fl,q1⟩:=q1;exact P.nx _ _ H1 _ ((r.stp s1).setIm (Is.flat (TupStay.refl H1) o1 fl)) (.setIm s1) q1
 | n ds=>
   obtain⟨fl,q1⟩:=q1;obtain⟨a,xs,rfl,hn,hl,hs⟩:=o1;exact P.nx _ _ H1 _ (r.setOwn s1 hn hl hs fl) (.setOwn s1 hn) q1
def appS(i:Nat)(f:DE):DS:=λDd ρ=>∃ds,ρ[i]? = some (some (.own ds))/\f ρ λr=>flat r.d=true/\ds.length<sizeLine/\Dd.nx (ρ.set i (some (.own (ds ++ [r.d]))))
theorem zre{i:Nat}(h:ED K O t f):SD K O (ze7 (tBM K "list" zf3 (tVar i) (zat t tNil))) (appS i f):=λH₀ A σ H ρ D Dd r q P=>by
 obtain⟨ds,e,q⟩:=q;obtain⟨v,hv,a,xs,rfl,ha,hl,hs⟩:=r.at_ i _ e;refine⟨_,hv,?_⟩;refine⟨.inl ⟨rfl,xs,.of hl⟩,?_⟩;refine h σ H ρ _ _ r.seen q λw H1 x s1 o1 zz=>?_;obtain⟨fl,hz,q1⟩:=zz;have r1:=r.stp s1;obtain⟨v1,hv1,a1,xs1,e1,ha1,hl1,hs1⟩:=r1.at_ i _ e;rw[hv] at hv1;cases hv1;cases e1;refine⟨a,xs1,w,rfl,rfl,hl1,by rw[hs1.length];exact hz,?_⟩;have iw:Is K (unO O A) H1 w x.d:=Is.flat (TupStay.refl H1) (o1.is r.ok r.p) fl;exact P.nx A σ _ _ (r1.change e hv ha (hs1.snoc iw)) ((Frm.stp s1).trans (.change ha)) q1
end
def GR(K:Qa)(O:Ob)(t:TG)(g:DG):Prop :=
 ∀(H₀:Hp) (A:Nat->Addr->Prop) (σ:St) (H:Hp) (ρ:DSt) (v:V) (d:Ug) (Q:St->Hp->Prop) (Qd:DSt->Prop),Rep K O H₀ A H σ ρ->flat d=true->Is K (unO O A) H v d->g d ρ Qd ->
   (∀A' σ' ρ',Rep K O H₀ A' H σ' ρ'->Frm O A H A' H->Qd ρ'->Q σ' H)->t v σ H Q
section
variable {K:Qa}{O:Ob}
theorem zvr{i:Nat}:GR K O (za0 i) (gN i):=λH₀ A σ H ρ v d Q Qd r _ h q k=>k _ _ _ (r.setIm h) (.setIm (.refl _ _)) q
def GRs(K:Qa)(O:Ob)(t:TGs)(is:List Nat):Prop :=
 ∀(H₀:Hp) (A:Nat->Addr->Prop) (σ:St) (H:Hp) (ρ:DSt) (vs:List V) (ds:List Ug) (Q:St->Hp->Prop) (Qd:DSt->Prop),Rep K O H₀ A H σ ρ->flats ds=true->IsAll K (unO O A) H vs ds->gTD is ds ρ Qd ->
   (∀A' σ' ρ',Rep K O H₀ A' H σ' ρ'->Frm O A H A' H->Qd ρ'->Q σ' H)->t vs σ H Q
theorem zu9:GRs K O gNil []:=λH₀ A σ H ρ vs ds Q Qd r _ i h k=>by
 cases i with
 | nil=>exact⟨rfl,k A σ ρ r .refl h⟩
 | cons _ _=>exact h.elim
theorem zsq{i:Nat}{is:List Nat}(ht:GRs K O t is):GRs K O (zhv (za0 i) t) (i::is):=λH₀ A σ H ρ vs ds Q Qd r fl h q k=>by
 cases h with
 | nil=>exact q.elim
 | cons h1 h2=>
   rw[flats,QR] at fl;have f1:Frm O A H (λj a=>j≠i/\A j a) H:=.setIm (.refl _ _);refine⟨_,_,rfl,ht _ _ _ H _ _ _ _ _ (r.setIm h1) fl.2 (IsAll.flats (TupStay.refl H) h2 fl.2) q λA' σ' ρ' r' f q'=>k A' σ' ρ' r' (f1.trans f) q'⟩
theorem zy4{is:List Nat}{n:Nat}(hn:is.length=n)(ht:GRs K O t is):GR K O (gTup K n t) (gT is):=λH₀ A σ H ρ v d Q Qd r fl i h k=>by
 obtain⟨ds,rfl,h⟩:=h
 cases i with
 | tuple q is'=>exact⟨_,_,rfl,q,by rw[is'.length,zit h];exact hn,ht H₀ A σ H ρ _ ds Q Qd r (by simpa[flat] using fl) is' h k⟩
def zea(g:DG)(gb:DS)(Dd:DEnds):List Ug->DSt->Prop
 | [],ρ=>Dd.nx ρ
 | d::ds,ρ=>flat d=true/\g d ρ λρ2=>gb { Dd with nx:=zea g gb Dd ds,ct:=zea g gb Dd ds,bk:=Dd.nx } ρ2
abbrev DJ:=DSt->(List Ug->Prop)->Prop
def SrcR(K:Qa)(O:Ob)(wi:TI)(f:DJ):Prop :=
 ∀(H₀:Hp) (A:Nat->Addr->Prop) (σ:St) (H:Hp) (ρ:DSt) (R:It->Hp->Prop) (Qd:List Ug->Prop),Rep K O H₀ A H σ ρ->f ρ Qd ->
   (∀(J:It) (H1:Hp) (ds:List Ug) (B:Addr->Prop),Walk K O H H1 J ds B->(∀a,B a->unO O A a)->Qd ds->R J H1)->wi σ H R
def newJ(f:DI):DJ:=λρ Q=>f ρ λfr ds=>fr=true/\Q ds
theorem znp(h:SrcS K O wi f):SrcR K O wi (newJ f):=λH₀ A σ H ρ R Qd r q k=>by
 refine h σ H ρ _ _ r.seen q λJ H1 ds B fr W hfr ⟨e,q1⟩=>k J H1 ds B W (λa b=>⟨(W.hb a b).1,λj z=>?_⟩) q1;obtain⟨_,⟨xs,q,_⟩,_⟩:=r.own j a z;rw[hfr e a b] at q;cases q
def varJ(i:Nat):DJ:=λρ Q=>∃ds,ρ[i]? = some (some (.im (.list ds)))/\Q ds
theorem zr0{i:Nat}:SrcR K O (zb2 K (tVar i)) (varJ i):=λH₀ A σ H ρ R Qd r q k=>by
 obtain⟨ds,e,q⟩:=q;obtain⟨v,hv,h⟩:=r.at_ i _ e;have h':Is K (unO O A) H v (.list ds):=h
 cases h' with
 | list f0 ha hs=>
   rename_i a xs
   have hs':IsAll K (unM O) H xs ds:=hs.weak λb u=>u.1;refine⟨_,hv,a,rfl,⟨xs,.of ha⟩,k (Itl K a) H ds (λb=>b=a) ⟨.refl _ _,λb hb=>by subst hb;exact⟨f0.1,_,ha⟩,λH2 i kb _ hi=>?_,λH2 i d kb t2 hd c=>?_⟩ (λb hb=>by subst hb;exact f0) q⟩
   .exact⟨xs,.of (kb a _ rfl ha),by rw[hs.length];exact hi⟩
   .obtain⟨w,hw,iw⟩:=zgh (O:=O) hs' hd t2 c;have q2:SqL K H2 a xs:=.of (kb a _ rfl ha);refine⟨⟨xs,w,q2,hw⟩,λx H3 zz=>?_⟩;obtain⟨e3,y⟩:=zz;subst e3;have:=y xs q2;rw[hw] at this;cases this;exact⟨Same.refl _,iw⟩
def forS(f:DJ)(g:DG)(gb:DS):DS:=λDd ρ=>f ρ λds=>zea g gb Dd ds ρ
theorem Rep.tupStay(r:Rep K O H₀ A H1 σ ρ)(f:Frm O A H1 A2 H2):TupStay H1 H2:=λa u hu e=>by
 refine(f a u e ⟨λm=>?_,λj z=>?_⟩).1
 .have mm:=r.ok.mutb H1 a u r.p e m;obtain⟨xs,e1|⟨o,e1⟩⟩:=hu
  .exact mm.1 xs e1
  .exact mm.2 o _ e1
 .obtain⟨_,⟨xs,q,ho⟩,_⟩:=r.own j a z;rw[e] at q;cases q;obtain⟨ys,e1|⟨o,e1⟩⟩:=hu
  .exact(ho.1 ys).1 e1
  .exact(ho.1 ys).2 o e1
theorem zxz(hs:SrcR K O wi f)(hg:GR K O tg g)(hb:SD K O tb gb):SD K O (tFor wi tg tb) (forS f g gb):=λH₀ A σ H ρ D Dd r q P=>by
 refine hs H₀ A σ H ρ _ _ r q λJ H1 ds B W uB go=>?_;have r1:=r.stp W.st;have f1:Frm O A H A H1:=.stp W.st;refine⟨λi m σ2 H2=>m=ds.length-i/\i<=ds.length/\∃A2 ρ2,Rep K O H₀ A2 H2 σ2 ρ2/\Frm O A H1 A2 H2/\zea g gb Dd (ds.drop i) ρ2,⟨ds.length,rfl,QK _,A,ρ,r1,.refl,by simpa using go⟩,?_⟩;rintro i m σ2 H2 ⟨rfl,hi,A2,ρ2,r2,f2,go2⟩;have kB:∀a o,B a->H1 a=some o->H2 a=some o:=λa o b e=>(f2 a o e (uB a b)).1;have ts:TupStay H1 H2:=r1.tupStay f2
 by_cases hlt:i<ds.length
 .right;have hd:ds[i]? = some ds[i]:=Qb hlt;rw[QJ hlt] at go2;obtain⟨fl,go2⟩:=go2;obtain⟨hgo,hy⟩:=W.item H2 i ds[i] kB ts hd (.inl fl);refine⟨hgo,λσ' H'=>∃A' ρ',Rep K O H₀ A' H' σ' ρ'/\Frm O A H1 A' H'/\zea g gb Dd (ds.drop (i+1)) ρ',λσ' H' ⟨A',ρ',x1,x2,x3⟩=>⟨ds.length-(i+1),by lia,rfl,hlt,A',ρ',x1,x2,x3⟩,λx H3 y=>?_⟩;obtain⟨sm,ix⟩:=hy x H3 y;have st3:Stp O H2 H3:=.same r2.ok sm;have r3:=r2.stp st3;refine hg H₀ A2 σ2 H3 ρ2 x ds[i] _ _ r3 fl (Is.flat (TupStay.refl H3) ix fl) go2 λA3 σ3 ρ3 r3' f3 q3=>?_;have f13:Frm O A H1 A3 H3:=(f2.trans (.stp st3)).trans f3;refine hb H₀ A3 σ3 H3 ρ3 _ _ r3' q3 ⟨λA' σ' H' ρ' r' f' q'=>⟨A',ρ',r',f13.trans f',q'⟩,λA' σ' H' ρ' r' f' q'=>P.nx A' σ' H' ρ' r' (f1.trans (f13.trans f')) q',λA' σ' H' ρ' r' f' q'=>⟨A',ρ',r',f13.trans f',q'⟩,P.rt⟩
 .left;have e:i=ds.length:=by lia
  subst e;rw[ZF] at go2;exact⟨W.stop H2 _ kB ts (Qg _),P.nx A2 σ2 H2 ρ2 r2 (f1.trans f2) go2⟩
def zp6(c:DT)(gb:DS):DS:=λDd ρ=>∃W:Nat->DSt->Prop,(∃m,W m ρ)/\∀m ρ,W m ρ->c ρ λb=>if b=true then gb { Dd with nx:=λρ'=>∃m',m'<m/\W m' ρ',ct:=λρ'=>∃m',m'<m/\W m' ρ',bk:=Dd.nx } ρ else Dd.nx ρ
theorem zr2(hc:TD K O c fc)(hb:SD K O tb gb):SD K O (zlg c tb) (zp6 fc gb):=λH₀ A σ H ρ D Dd r q P=>by
 obtain⟨W,⟨m0,w0⟩,turn⟩:=q;refine⟨λm σ2 H2=>∃A2 ρ2,Rep K O H₀ A2 H2 σ2 ρ2/\Frm O A H A2 H2/\W m ρ2,⟨m0,A,ρ,r,.refl,w0⟩,?_⟩;rintro m σ2 H2 ⟨A2,ρ2,r2,f2,w2⟩;refine hc σ2 H2 ρ2 _ _ r2.seen (turn m ρ2 w2) λb H3 s3 q3=>?_;have f3:Frm O A H A2 H3:=f2.trans (.stp s3)
 cases b with
 | true=>
   refine⟨λσ' H'=>∃A' ρ',Rep K O H₀ A' H' σ' ρ'/\Frm O A H A' H'/\∃m',m'<m/\W m' ρ',λσ' H' ⟨A',ρ',x1,x2,m',x3,x4⟩=>⟨m',x3,A',ρ',x1,x2,x4⟩,?_⟩;exact hb H₀ A2 σ2 H3 ρ2 _ _ (r2.stp s3) q3 ⟨λA' σ' H' ρ' r' f' q'=>⟨A',ρ',r',f3.trans f',q'⟩,λA' σ' H' ρ' r' f' q'=>P.nx A' σ' H' ρ' r' (f3.trans f') q',λA' σ' H' ρ' r' f' q'=>⟨A',ρ',r',f3.trans f',q'⟩,P.rt⟩
 | false=>exact P.nx A2 σ2 H3 ρ2 (r2.stp s3) f3 q3
end
def spO(K:Qa)(φ:Ob->Prop)(n:Nat)(f:List Ug->(R->Prop)->Prop):Sp:=λvs H Q _=>
 ∃(O:Ob) (ds:List Ug) (Qr:R->Prop),O.Ok/\φ O/\O.P H/\ds.length=n/\IsAll K (unM O) H vs ds/\f ds Qr/\∀r,Qr r->∀v H',Stp O H H'->Out K O H H' v r->Q v H'
def spD(K:Qa)(φ:Ob->Prop)(n:Nat)(f:List Ug->(R->Prop)->Prop):Sp:=λvs H Q _=>
 ∃(O:Ob) (ds:List Ug) (ws:List V) (Qr:R->Prop),O.Ok/\φ O/\O.P H/\ds.length=n/\vs=O.v::ws/\IsAll K (unM O) H ws ds/\f ds Qr/\∀r,Qr r->∀v H',Stp O H H'->Out K O H H' v r->Q v H'
def zbo(N:List Str)(rs:List DV):DSt:=rs.map some++Qp (N.length-rs.length) none
section
variable {K:Qa}{O:Ob}
theorem zfu(ok:O.Ok)(p:O.P H)(hl:vs.length=rs.length)(h:∀(i:Nat) r,rs[i]? = some r->∃v,vs[i]? = some v/\((∃d,r = .im d/\Is K (unM O) H v d)\/(r = .ob/\v=O.v))):
 Rep K O H (λ_ _=>False) H (L2.start N vs) (zbo N rs):=by
 refine⟨ok,p,p,.refl _ _,λ_ _ _ z=>z.elim,λ_ _ z=>z.elim,λi r e=>?_,?_⟩
 .unfold zbo at e
  by_cases hi:i<rs.length
  .rw[Q6 (by simpa using hi),Qm] at e
   cases q:rs[i]? with
   | none=>rw[q] at e;cases e
   | some r'=>
     rw[q] at e;have e':r'=r:=QZ (QZ e);subst e';obtain⟨v,hv,hh⟩:=h i r' q;refine⟨v,?_,?_⟩
     .unfold L2.start;rw[Q6 (by rw[Qe,hl];exact hi),Qm,hv];rfl
     .rcases hh with ⟨d,rfl,hd⟩|⟨rfl,hd⟩
      .exact hd.weak λa u=>⟨u,λj z=>z⟩
      .exact hd
  .rw[QB (by simpa using hi),QP] at e
   split at e <;> cases e
 .unfold zbo L2.start;rw[Qf,Qf,Qe,Qe,QG,QG,hl]
theorem zt6(h:SD K O t g)(ok:O.Ok)(p:O.P H)(ia:IsAll K (unM O) H vs ds)
 (hg:g { nx:=λ_=>Qr (.o .none),rt:=Qr } (zbo N (ds.map .im))) (hQ:∀r,Qr r->∀v H',Stp O H H'->Out K O H H' v r->Q v H'):t { nx:=λ_ H'=>Q .non H',rt:=Q } (L2.start N vs) H:=by
 refine h H _ _ H _ _ _ (zfu ok p (by rw[Qe];exact ia.length) λi r e=>?_) hg ⟨λA' σ' H' ρ' r' _ q=>hQ _ q .non H' r'.st Is.none,λA' σ' H' ρ' r' _ q=>q.elim,λA' σ' H' ρ' r' _ q=>q.elim,λH' v r s o q=>hQ r q v H' s o⟩;rw[Qm] at e;obtain⟨d,hd,rfl⟩:=Qt.mp e;obtain⟨v,hv,iv⟩:=ia.get hd;exact⟨v,hv,.inl ⟨d,rfl,iv⟩⟩
theorem zzn(h:SD K O t g)(ok:O.Ok)(p:O.P H)(ia:IsAll K (unM O) H ws ds)
 (hg:g { nx:=λ_=>Qr (.o .none),rt:=Qr } (zbo N (.ob::ds.map .im))) (hQ:∀r,Qr r->∀v H',Stp O H H'->Out K O H H' v r->Q v H'):t { nx:=λ_ H'=>Q .non H',rt:=Q } (L2.start N (O.v::ws)) H:=by
 refine h H _ _ H _ _ _ (zfu ok p (by rw[Qi,Qi,Qe,ia.length]) λi r e=>?_) hg ⟨λA' σ' H' ρ' r' _ q=>hQ _ q .non H' r'.st Is.none,λA' σ' H' ρ' r' _ q=>q.elim,λA' σ' H' ρ' r' _ q=>q.elim,λH' v r s o q=>hQ r q v H' s o⟩
 cases i with
 | zero=>cases e;exact⟨O.v,rfl,.inr ⟨rfl,rfl⟩⟩
 | succ i=>
   rw[Jc,Qm] at e;obtain⟨d,hd,rfl⟩:=Qt.mp e;obtain⟨v,hv,iv⟩:=ia.get hd;exact⟨v,by rw[Jc];exact hv,.inl ⟨d,rfl,iv⟩⟩
def calD(n:Nat)(f:List Ug->(R->Prop)->Prop)(g:DA):DE:=λρ Q=>g ρ λds=>ds.length=n/\f ds Q
theorem zu0{n:Nat}(hφ:φ O)(h:AD K O t g):ED K O (zb4 (spO K φ n f) [] E t) (calD n f g):=λσ H ρ Q Qd S q k=>by
 refine h σ H ρ _ _ S q λvs H1 ds s1 is zz=>?_;obtain⟨hn,q1⟩:=zz;rw[Qx];exact⟨O,ds,Qd,S.ok,hφ,s1.p S.p,hn,is,q1,λr qr v H' s2 o2=>k v H' r (s1.trans s2) (o2.ahead S.ok S.p s1) qr⟩
def calO(i:Nat)(n:Nat)(f:List Ug->(R->Prop)->Prop)(g:DA):DE:=λρ Q=>ρ[i]? = some (some .ob)/\g ρ λds=>ds.length=n/\f ds Q
theorem zrl{i n:Nat}(hφ:φ O)(h:AD K O t g):ED K O (zb4 (spD K φ n f) [] E (zat (tVar i) t)) (calO i n f g):=λσ H ρ Q Qd S q k=>by
 obtain⟨e,q⟩:=q;obtain⟨v,hv,hh⟩:=S.at_ i _ e;refine⟨v,hv,?_⟩;refine h σ H ρ _ _ S q λvs H1 ds s1 is zz=>?_;obtain⟨hn,q1⟩:=zz;show spD K φ n f ((v::vs) ++ []) H1 Q E;rw[Qx];exact⟨O,ds,vs,Qd,S.ok,hφ,s1.p S.p,hn,by rw[show v=O.v from hh],is,q1,λr qr v H' s2 o2=>k v H' r (s1.trans s2) (o2.ahead S.ok S.p s1) qr⟩
theorem zns{φ:Ob->Prop}{n:Nat}{f:List Ug->(R->Prop)->Prop}{ps:List Str}(hn:ps.length=n):∀vs H Q E,spO K φ n f vs H Q E->vs.length=ps.length:=λvs H Q E zz=>by obtain⟨O,ds,_,_,_,_,h,is,_⟩:=zz;rw[is.length,h,hn]
theorem ziy{φ:Ob->Prop}{n:Nat}{f:List Ug->(R->Prop)->Prop}{ps:List Str}(hn:ps.length=n+1):∀vs H Q E,spD K φ n f vs H Q E->vs.length=ps.length:=λvs H Q E zz=>by obtain⟨O,ds,ws,_,_,_,_,h,e,is,_⟩:=zz;rw[e,Qi,is.length,h,hn]
end
section
variable {X:Cx}
def rEqD(K:Qa)(neg:Bool):R2:=λx y H Q=>∃F G d e,Is K F H x d/\Is K G H y e/\d.canLay0=true/\e.canLay0=true/\d.depth<=60/\Q (.bl (if neg then !PyData.eqv d e else QH d e)) H
theorem zym(hu:X.A.units+64<GF):OpR X (U9 .Eq) (rEqD X.K false):=by
 intro pins s σ H x y v u Q I rx ry h;obtain⟨F,G,d,e,i1,i2,h1,h2,h3,q⟩:=h;obtain⟨as,ra⟩:=i1.reads I rx;obtain⟨bs,rb⟩:=i2.reads I ry;exact SeqAt.compareEq_reads ra rb h1 h2 (by lia) ⟨.bl _,H,I,rfl,q⟩
theorem zwy(hu:X.A.units+64<GF):OpR X (U9 .NotEq) (rEqD X.K true):=by
 intro pins s σ H x y v u Q I rx ry h;obtain⟨F,G,d,e,i1,i2,h1,h2,h3,q⟩:=h;obtain⟨as,ra⟩:=i1.reads I rx;obtain⟨bs,rb⟩:=i2.reads I ry;exact SeqAt.compareNe_reads ra rb h1 h2 (by lia) ⟨.bl _,H,I,rfl,q⟩
theorem zna:∀{bs:List Bool} {us:List Uf},Vals (bs.map V.bl) us->us=bs.map Jg
 | [],_,r=>by cases r;rfl
 | b::bs,_,r=>by
   rw[QL] at r
   cases r with
   | cons h t=>rw[zna t,show _=Jg b from h];rfl
theorem zqc{bs:List Bool}:(Q7 bs.length).any (λi=>bs[i]?.getD false)=bs.any id:=by
 apply Jz.mpr;rw[Jd,Jd];constructor
 .rintro⟨i,hi,h⟩;have hi':i<bs.length:=by simpa using hi
  rw[Qb hi'] at h;exact⟨_,JK hi',by simpa using h⟩
 .rintro⟨x,hx,h⟩;obtain⟨i,hi,e⟩:=List.mem_iff_getElem.mp hx;exact⟨i,by simpa using hi,by rw[Qb hi,e];simpa using h⟩
def rAll(any:Bool):List V->Hp->VK->Prop:=λxs H Q=>∃(p:Addr) (bs:List Bool),xs = [.ref p]/\H p=some (.lst (bs.map V.bl))/\Q (.bl (if any then bs.any id else bs.all id)) H
theorem zp7(hc:X.calm=true):CallR X (.builtin "any") (rAll true):=by
 intro pins s σ H xs us Q I r h;obtain⟨p,bs,rfl,hH,q⟩:=h;obtain⟨u,rfl,ru⟩:=Vals.one r;cases ru;obtain⟨z,its,n,rv,hl,e⟩:=I.lstM hH;have ei:=zna rv;subst ei;have pl:s.heap.IsList p (bs.map Jg).toArray:=⟨_,e,rfl,_,rfl⟩;have hne:p≠s.heap.objs.size:=QN (Qv e);refine call_any_walk (wpAny_pyIter_list pl ?_);refine⟨s.heap.objs.size,_,_,_,_,_,λi=>bs[i]?.getD false,rfl,Walks.list (A:=X.A.in1) (I.ok.hd hc) _ p hne (bs.map Jg).toArray,⟨⟨_,Q1 _ rfl,rfl,rfl⟩,_,Qj _ e,rfl,_,rfl⟩,?_,λh' tk kk=>?_⟩
 .intro i v s' Q' E' hv hq;have hv:(bs.map Jg).toArray[i]? = some v:=hv;rw[Y9,Qm] at hv;obtain⟨b,hb,rfl⟩:=Qt.mp hv;have hq:Q' (bs[i]?.getD false) s':=hq;rw[hb] at hq;exact Ge hq
 .have I1:Inv X pins σ H { s with heap:=h',toks:=tk }:=I.kept λb o eb=>kk b o (by simp;exact QN (Qv eb)) (Qj _ eb);refine⟨.bl _,H,I1,?_,q⟩;show Jg _=Jg _;rw[Qq,Qe,zqc];rfl
theorem zlp:∀{ys:List Str} {us:List Uf},Vals (ys.map V.str) us->StrsAre us ys
 | [],_,r=>by cases r;exact .nil
 | y::ys,_,r=>by
   rw[QL] at r
   cases r with
   | cons h t=>obtain⟨tk,rfl⟩:=h;exact .cons y tk (zlp t)
theorem zfs:∀{ys:List Str} {us:List Uf},StrsAre us ys->Vals (ys.map V.str) us
 | _,_,.nil=>.nil
 | _,_,.cons y t r=>.cons ⟨t,rfl⟩ (zfs r)
def zpe:List V->Hp->VK->Prop:=λxs H Q=>∃p ys,xs = [.ref p]/\H p=some (.lst (ys.map V.str))/\ys.length<64/\∀zs l,zs.Perm ys->sortedS zs=true->H l=none->Q (.ref l) (upd H l (.lst (zs.map V.str)))
theorem zou:CallR X (.builtin "sorted") zpe:=by
 intro pins s σ H xs us Q I r h;obtain⟨p,ys,rfl,hH,hz,q⟩:=h;obtain⟨u,rfl,ru⟩:=Vals.one r;cases ru;obtain⟨z,its,n,rv,hl,e⟩:=I.lstM hH;refine sorted_strs (ss:=ys) ⟨_,e,rfl,_,rfl⟩ (zlp rv) (by rw[<- hl,Qe];exact hz) λout zs h1 h2 h3=>?_;obtain⟨c,he⟩:=sortedAll_at s.heap its out;have hn:H (s.heap.objs.size+1)=none:=I.hok.fresh (Yi _);refine⟨.ref _,_,I.laid (a:=s.heap.objs.size+1) (o:=.lst (zs.map V.str)) (t':=s.toks) (λb o eb=>sortedAll_old eb) (Yi _) ?_,rfl,q zs _ h2 h3 hn⟩;refine⟨?_,out.toList,c,zfs h1,by simpa using he⟩;rw[Qe,h2.length_eq];have:sizeLine=16777216:=Ur;lia
theorem zon(h:ItemsOf P acc ys.length)(hv:∀i v,P i v->∃y,ys[i]? = some y/\RelV y v):Vals ys acc.toList:=by
 have go:∀(k:Nat) (zs:List V) (l:List Uf),zs.length=l.length->(∀(i:Nat) v,l[i]? = some v->∃y,zs[i]? = some y/\RelV y v)->Vals zs l:=by
  intro k zs l
  induction l generalizing zs with
  | nil=>intro e _;cases zs with
    | nil=>exact .nil
    | cons _ _=>simp at e
  | cons a l ih=>intro e hh;cases zs with
    | nil=>simp at e
    | cons z zs=>
      obtain⟨y,h1,h2⟩:=hh 0 a rfl;simp at h1;subst h1;exact .cons h2 (ih zs (by simpa using e) λi v ev=>by simpa using hh (i+1) v (by simpa using ev))
 refine go 0 ys acc.toList (by have e:=h.1;simp[e]) λi v e=>hv i v (h.2 i v (by simpa using e))
def zk0:List V->Hp->VK->Prop:=λxs H Q=>∃x:Str,xs = [.str x]/\x.cps.size<=sizeLine/\∀l,H l=none->Q (.ref l) (upd H l (.lst (x.cps.toList.map λc=>V.str (sg c))))
theorem zg6(hc:X.calm=true):CallR X (.type "list") zk0:=by
 intro pins s σ H xs us Q I r h;obtain⟨x,rfl,hz,q⟩:=h;obtain⟨u,rfl,ru⟩:=Vals.one r;obtain⟨t,rfl⟩:=ru;refine call_list_str (I.ok.hd hc) x t (λh' tk acc c kk e it=>?_) hz;refine⟨.ref _,_,I.laid (a:=s.heap.objs.size) (o:=.lst (x.cps.toList.map λc=>V.str (sg c))) kk (Qg _) ?_,rfl,q _ I.fresh⟩;refine⟨by simpa using hz,acc.toList,c,zon (P:=SignAt x) (by simpa using it) λi v hv=>?_,by simpa using e⟩;obtain⟨cc,uu,h1,rfl⟩:=hv;exact⟨.str (sg cc),by rw[Qm];simp[h1],⟨uu,rfl⟩⟩
end
def tx(l:List Nat):Str:=⟨l.toArray⟩
theorem zo8(x:Str):tx x.cps.toList=x:=by cases x;simp[tx]
theorem zbs(l:List Nat):(tx l).cps.toList=l:=by simp[tx]
theorem zq3(l:List Nat):(tx l).length=l.length:=by simp[tx,Vg]
def cutL{α:Type}(xs:List α)(lo hi:Option Int):List α:=(xs.drop (HT.sIx xs.length 0 lo)).take (HT.sIx xs.length xs.length hi-HT.sIx xs.length 0 lo)
theorem zgq(n d:Nat)(v:Int):max (0:Int) (min (if v<0 then v+n else v) n)=((HT.sIx n d (some v):Nat):Int):=by
 rw[<- HT.clip_eq v n d]
 by_cases h:v<0
 .rw[GO h,GO h];lia
 .rw[GP h,GP h];lia
theorem zmu(lo hi:Option Int)(n:Nat):JV lo hi 1 n=(Q7 (HT.sIx n n hi-HT.sIx n 0 lo)).map λk=>HT.sIx n 0 lo+k:=by
 have e1:(match lo with|none=>(0:Int)|some i=>max 0 (min (if i<0 then i+(n:Int) else i) n))=((HT.sIx n 0 lo:Nat):Int):=by
  cases lo with
  | none=>rfl
  | some v=>exact zgq n 0 v
 have e2:(match hi with|none=>(n:Int)|some i=>max 0 (min (if i<0 then i+(n:Int) else i) n))=((HT.sIx n n hi:Nat):Int):=by
  cases hi with
  | none=>rfl
  | some v=>exact zgq n n v
 have e0:JV lo hi 1 n=sliceRange ((HT.sIx n 0 lo:Nat):Int) ((HT.sIx n n hi:Nat):Int) 1:=by
  rw[<- e1,<- e2];cases lo <;> cases hi <;> rfl
 rw[e0];generalize HT.sIx n 0 lo=a;generalize HT.sIx n n hi=b;simp only[sliceRange,show((1:Int) > 0)=True from by simp,GZ]
 by_cases hlt:(a:Int)<b
 .have e3:(((b:Int)-a+1-1) / 1).toNat=b-a:=by first|lia|(simp;done)|(simp;lia)
  simp only[hlt,GZ,e3];refine List.map_congr_left λk _=>?_;lia
 .have:b-a=0:=by lia
  simp[hlt,this]
theorem zqg{α:Type}(l:List α):∀(n a:Nat),a+n<=l.length->((Q7 n).map λk=>a+k).filterMap (λi=>l[i]?)=(l.drop a).take n
 | 0,_,_=>by simp
 | n+1,a,h=>by
   have hlt:a+n<l.length:=by lia
   rw[List.range_succ,QE,List.filterMap_append,zqg l n a (by lia),Vs,Z7];simp[Qb hlt]
section
variable {X:Cx}
def rSlS:V->Option Int->Option Int->Hp->VK->Prop:=λx lo hi H Q=>∃z:Str,x = .str z/\z.length<=sizeLine/\Q (.str (tx (cutL z.cps.toList lo hi))) H
theorem zy6:SlR X rSlS:=by
 intro pins s σ H x v vl vu lo hi sl Q I rx hs pl pu h;obtain⟨z,rfl,hz,q⟩:=h;obtain⟨t,rfl⟩:=rx;refine⟨"str",_,PySem.F.slot_str_getitem.lookup,typeIs_str s z t,?_⟩;have hl:z.cps.toList.length=z.length:=by simp[Vg]
 have hi':HT.sIx z.length z.length hi<=z.length:=HT.sIx_le _ _ (Qg _) hi
 have key:∀l u:Option (Int×Tok),l.map (·.1)=lo->u.map (·.1)=hi->s.heap.IsSlice sl l u none->wpAny (model X.prog X.w) X.A (UU (.str z t) (.ref sl)) (EP X pins σ Q) X.xe s:=by
  intro l u el eu hsl
  have e:Gu z l u none=(Q7 (HT.sIx z.length z.length hi-HT.sIx z.length 0 lo)).map λk=>HT.sIx z.length 0 lo+k:=by
   unfold Gu;rw[el,eu];exact zmu lo hi z.length
  have ec:tx (cutL z.cps.toList lo hi)=⟨((Gu z l u none).filterMap (z.cps[·]?)).toArray⟩:=by
   rw[e];unfold cutL tx;rw[hl]
   by_cases hij:HT.sIx z.length 0 lo<=HT.sIx z.length z.length hi
   .have p:=zqg z.cps.toList (HT.sIx z.length z.length hi-HT.sIx z.length 0 lo) (HT.sIx z.length 0 lo) (by rw[hl];lia);rw[<- p];simp
   .have:HT.sIx z.length z.length hi-HT.sIx z.length 0 lo=0:=by lia
    rw[this];simp
  refine wpAny_getItem_str_slice hsl rfl ?_;unfold sliceMade
  split
  .rename_i hc
   have hw:(Gu z l u none).length=z.length:=by simpa using hc
   have ex:tx (cutL z.cps.toList lo hi)=z:=by
    rw[e,Qe,Z1] at hw;unfold cutL;rw[hl];have h0:HT.sIx z.length 0 lo=0\/z.length=0:=by lia
    rcases h0 with h0|h0
    .rw[h0] at hw ⊢;rw[Je,Zg (by rw[hl];lia)];exact zo8 z
    .have hn:z.cps.toList = []:=Za (by rw[hl];exact h0);rw[hn];simp only[List.drop_nil,List.take_nil];rw[<- hn];exact zo8 z
   exact⟨.str _,H,I,⟨t,by rw[ex]⟩,q⟩
  .rw[<- ec]
   have hlen:(tx (cutL z.cps.toList lo hi)).length<=sizeLine:=by
    rw[zq3];unfold cutL;rw[Q8,Zd,hl];lia
   first
    | exact⟨.str _,H,I.tok _,⟨_,rfl⟩,q⟩
    | exact⟨hlen,.str _,H,I.tok _,⟨_,rfl⟩,q⟩
    | exact λ_=>⟨.str _,H,I.tok _,⟨_,rfl⟩,q⟩
 obtain⟨o,ho,hc,hd⟩:=hs
 cases pl with
 | none=>cases pu with
   | none=>exact key none none rfl rfl ⟨o,ho,hc,hd⟩
   | int j t'=>exact key none (some (j,t')) rfl rfl ⟨o,ho,hc,hd⟩
 | int i ti=>cases pu with
   | none=>exact key (some (i,ti)) none rfl rfl ⟨o,ho,hc,hd⟩
   | int j t'=>exact key (some (i,ti)) (some (j,t')) rfl rfl ⟨o,ho,hc,hd⟩
def zt4(K:Qa):V->Option Int->Option Int->Hp->VK->Prop:=λx lo hi H Q=>∃a xs,x = .ref a/\SqT K H a xs/\(HT.sIx xs.length 0 lo=0/\HT.sIx xs.length xs.length hi=xs.length)/\Q (.ref a) H
theorem zfe{prog:Um}{w:Uq}{A:Us}{E:Uf->Ui->Prop}{s:Ui}{t sl:Addr}{items:Array Uf}{vl vu:Uf}{lo hi:Option Int}{Q:Uf->Ui->Prop}(ht:IsTup s.heap t items)(hs:s.heap.IsSliceOf sl vl vu .none)(pl:Gk vl lo)(pu:Gk vu hi)
 (hw:HT.sIx items.size 0 lo=0/\HT.sIx items.size items.size hi=items.size) (h:Q (.ref t) s):wpAny (model prog w) A (UU (.ref t) (.ref sl)) Q E s:=by
 obtain⟨os,hos,hcs,hds⟩:=id hs;have hTs:s.TypeIs (.ref sl) "slice" := ⟨os,hos,hcs⟩;unfold UU
 try with_reducible refine U5 ?_
 first|refine Uh (Uo ?_)|skip
 refine Uh (wpAny_sequenceKey ht.typeIs (by decide) ?_)
 refine Uh (Gj (name:=JU "__getitem__") ht.typeIs Zj
  (wpAny_call_entry Zj ht.typeIs entry_tuple_getitem ?_ (args_tuple_getitem _ _)))
 show wpAny _ _ (Ya (.ref t) >>= _) _ _ s;refine Uh (tupleItemsOf_ ht ?_);refine Uh (Gq hTs ?_);rw[GO (by decide)];refine Uh (HT.sliceApplied_gen hs pl pu ?_)
 have hno:(((HT.sIx items.size 0 lo:Nat):Int) == 0 && (1:Int) == 1 && (HT.sIx items.size items.size hi-HT.sIx items.size 0 lo) == items.size)=true:=by
  rw[hw.1,hw.2];simp
 show wpAny _ _ (if(((HT.sIx items.size 0 lo:Nat):Int) == 0 && (1:Int) == 1 && (HT.sIx items.size items.size hi-HT.sIx items.size 0 lo) == items.size)=true then _ else _) _ _ s;rw[GO hno];obtain⟨o,ho,hc,n,hd⟩:=id ht;refine Uh ?_;unfold Builtin.Tuple.tupleIsExact;refine Uh (Gq ht.typeIs (Uo ?_));show wpAny _ _ (if((Yv "tuple") == (Yv "tuple"))=true then _ else _) _ _ s;rw[GO (by decide)];exact Uh (UQ (Uo ⟨_,rfl,Uo h⟩))
theorem sl_tupW:SlR X (zt4 X.K):=by
 intro pins s σ H x v vl vu lo hi sl Q I rx hs pl pu h;obtain⟨a,xs,rfl,hx,hw,q⟩:=h;cases rx;obtain⟨its,r,ht,hz⟩:=I.tuple hx;have hlen:its.toArray.size=xs.length:=by rw[Qq];exact r.length.symm
 exact⟨"tuple",_,Zj.lookup,ht.typeIs,zfe ht hs pl pu (by rw[hlen];exact hw) ⟨.ref a,H,I,rfl,q⟩⟩
def rSl(K:Qa):V->Option Int->Option Int->Hp->VK->Prop:=λx lo hi H Q=>rSlL K x lo hi H Q\/rSlT K x lo hi H Q\/zt4 K x lo hi H Q\/rSlS x lo hi H Q
theorem zxy:SlR X (rSl X.K):=sl_list.or (sl_tup.or (sl_tupW.or zy6))
def zqa(K:Qa):R2:=λx y H Q=>∃a b ys,x = .ref a/\y = .ref b/\SqT K H a []/\SqT K H b ys/\Q (.ref b) H
theorem zrr:OpR X (UG .Add) (zqa X.K):=by
 intro pins s σ H x y v u Q I rx ry h;obtain⟨a,b,ys,rfl,rfl,ha,hb,q⟩:=h;cases rx;cases ry;obtain⟨its,r1,p1,_⟩:=I.tuple ha;obtain⟨its2,r2,p2,_⟩:=I.tuple hb;cases r1;obtain⟨⟨cls,dd,data,sl⟩,ho,hc,n,hd⟩:=id p1;obtain⟨⟨cls2,dd2,data2,sl2⟩,ho2,hc2,n2,hd2⟩:=id p2;simp only at hc hd hc2 hd2;subst hc hd hc2 hd2
 exact G9 ⟨_,ho,rfl⟩ ⟨_,ho2,rfl⟩ Gi Gz JA J5 (Jw _ _)
  (tuple_addW0 a b _ its2.toArray n n2 dd dd2 sl sl2 (by simp)) ⟨ho,ho2,⟨.ref b,H,I,rfl,q⟩⟩
end
section
variable {K:Qa}{O:Ob}{F:Addr->Prop}{H:Hp}
theorem zgj:∀{vs:List V} {bs:List Bool},IsAll K F H vs (bs.map .bool)->vs=bs.map V.bl
 | _,[],h=>by cases h;rfl
 | _,y::ys,h=>by
   rw[QL] at h
   cases h with
   | cons h1 h2=>cases h1;rw[zgj h2];rfl
theorem zey:∀(ys:List Str),IsAll K F H (ys.map V.str) (ys.map .str)
 | []=>.nil
 | y::ys=>.cons (.str y) (zey ys)
theorem zjw{i:Int}{d:Ug}(h:IsAll K F H vs ds)(e:atI ds i=some d):∃v,atI vs i=some v/\Is K F H v d:=by
 unfold atI at e ⊢;rw[h.length]
 cases q:ixN ds.length i with
 | none=>rw[q] at e;cases e
 | some j=>
   rw[q] at e;obtain⟨v,hv,iv⟩:=h.get (i:=j) e;exact⟨v,hv,iv⟩
theorem zff(h:IsAll K F H vs ds)(lo hi:Option Int):IsAll K F H (cutV vs lo hi) (cutL ds lo hi):=by
 unfold cutV cutL;rw[h.length];exact(h.drop _).take _
theorem zce(ok:O.Ok)(hp:H p=none)(h:IsAll K (unM O) H vs ds):Stp O H (upd H p (.lst vs))/\Out K O H (upd H p (.lst vs)) (.ref p) (.n ds):=by
 have s:Stp O H (upd H p (.lst vs)):=.new ok hp _;exact⟨s,p,vs,rfl,hp,zac,h.stp s (λ_ z=>z) (λ_ z=>z)⟩
theorem zi4(ok:O.Ok)(hp:H p=none)(h:IsAll K (unM O) H vs ds):Stp O H (upd H p (.tup vs))/\Out K O H (upd H p (.tup vs)) (.ref p) (.o (.tuple ds)):=by
 have s:Stp O H (upd H p (.tup vs)):=.new ok hp _;exact⟨s,Is.tuple (.of zac) (h.stp s (λ_ z=>z) (λ_ z=>z))⟩
def okD(d:Ug):Bool:=d.canLay0 && decide (d.depth<=60)
def eqF(neg:Bool):Ug->Ug->Option R:=λd e=>if(okD d && e.canLay0)=true then some (.o (.bool (if neg then !PyData.eqv d e else QH d e))) else none
theorem zlk(neg:Bool):OpD K O (rEqD K neg) (fn2 (eqF neg)):=λH x y d e Q Qd ok p ix iy ⟨r,hr,q⟩ k=>by
 unfold eqF at hr
 split at hr
 .rename_i hc
  cases hr;simp only[QR,okD,GW] at hc;exact⟨_,_,d,e,ix,iy,hc.1.1,hc.2,hc.1.2,k _ H (.o _) (.refl _ _) (Is.bool _) q⟩
 .cases hr
def inF(neg:Bool):Ug->Ug->Option R:=λd e=>match d,e with
 | .str x,.str y=>some (.o (.bool (if neg then !(!(Yr y x 0 y.length 1).isEmpty) else !(Yr y x 0 y.length 1).isEmpty)))
 | d,.list es=>if(okD d && JC es)=true then some (.o (.bool (if neg then !es.any (λy=>QH y d) else es.any λy=>QH y d))) else none
 | d,.tuple es=>if(okD d && JC es)=true then some (.o (.bool (if neg then !es.any (λy=>QH y d) else es.any λy=>QH y d))) else none
 | _,_=>none
def intF(g:Int->Int->Ug):Ug->Ug->Option R
 | .int i,.int j=>some (.o (g i j))
 | _,_=>none
theorem zsy(h:∀i j H,Is K (unM O) H (g i j) (G i j)):OpD K O (rI0 g) (fn2 (intF G)):=λH x y d e Q Qd ok p ix iy ⟨r,hr,q⟩ k=>by
 unfold intF at hr
 split at hr
 .cases ix;cases iy;cases hr;exact⟨_,_,rfl,rfl,k _ H (.o _) (.refl _ _) (h _ _ H) q⟩
 .cases hr
theorem zxt:OpD K O (rI0 λi j=>.bl (decide (i<j))) (fn2 (intF λi j=>.bool (decide (i<j)))):=zsy λ_ _ _=>.bool _
def isNF(neg:Bool):Ug->Ug->(R->Prop)->Prop:=λd e Q=>e = .none/\Q (.o (.bool (match d with | .none=>!neg|_=>neg)))
theorem Is.non{d:Ug}(h:Is K F H v d):decide (v = .non)=(match d with | .none=>true|_=>false):=by cases h <;> rfl
theorem zsn:OpD K O (λx y H Q=>y = .non/\Q (.bl (!decide (x = .non))) H) (isNF true):=λH x y d e Q Qd ok p ix iy ⟨e1,q⟩ k=>by
 subst e1;cases iy;refine⟨rfl,k _ H (.o _) (.refl _ _) ?_ q⟩;rw[ix.non];cases d <;> exact Is.bool _
def zt7(K:Qa):R2:=λx y H Q=>rI0 (λi j=>.int (i+j)) x y H Q\/(∃i j,x = .str i/\y = .str j/\i.length+j.length<=sizeLine/\Q (.str (i++j)) H)\/rCat x y H Q\/ztr K x y H Q\/zqa K x y H Q
theorem zu1: OpR X (UG .Add) (zt7 X.K):=op_add.or (op_add_str.or (op_cat.or (op_catT.or zrr)))
def addF:Ug->Ug->Option R:=λd e=>match d,e with
 | .int i,.int j=>some (.o (.int (i+j)))
 | .str x,.str y=>if x.length+y.length<=sizeLine then some (.o (.str (x++y))) else none
 | .list a,.list b=>if a.length+b.length<=sizeLine then some (.n (a++b)) else none
 | .tuple a,.tuple b=>if a.length+b.length<=sizeLine then some (.o (.tuple (a++b))) else none
 | _,_=>none
theorem zwc:OpD K O (zt7 K) (fn2 addF):=λH x y d e Q Qd ok p ix iy ⟨r,hr,q⟩ k=>by
 unfold addF at hr
 split at hr
 .cases ix;cases iy;cases hr;exact .inl ⟨_,_,rfl,rfl,k _ H (.o _) (.refl _ _) (Is.int _) q⟩
 .split at hr
  .rename_i hz
   cases ix;cases iy;cases hr;exact .inr (.inl ⟨_,_,rfl,rfl,hz,k _ H (.o _) (.refl _ _) (Is.str _) q⟩)
  .cases hr
 .split at hr
  .rename_i hz
   cases hr
   cases ix with
   | list f1 h1 s1=>
     cases iy with
     | list f2 h2 s2=>
       refine .inr (.inr (.inl ⟨_,_,_,_,rfl,rfl,h1,h2,by rw[s1.length,s2.length];exact hz,λp' hp=>?_⟩));obtain⟨a1,a2⟩:=zce ok hp (s1.append s2);exact k _ _ _ a1 a2 q
  .cases hr
 .split at hr
  .rename_i hz
   cases hr
   cases ix with
   | tuple h1 s1=>
     cases iy with
     | tuple h2 s2=>
       rename_i a xs b ys
       cases xs with
       | nil=>
         cases s1;exact .inr (.inr (.inr (.inr ⟨a,b,ys,rfl,rfl,h1,h2,k _ H (.o _) (.refl _ _) (Is.tuple h2 s2) q⟩)))
       | cons z zs=>
         refine .inr (.inr (.inr (.inl ⟨a,b,_,ys,rfl,rfl,h1,h2,by simp,by rw[s1.length,s2.length];exact hz,λe=>?_,λ_ p' hp=>?_⟩)))
         .subst e;cases s2;rw[Qx] at q;exact k _ H (.o _) (.refl _ _) (Is.tuple h1 s1) q
         .obtain⟨a1,a2⟩:=zi4 ok hp (s1.append s2);exact k _ _ _ a1 a2 q
  .cases hr
 .cases hr
def idxF:Ug->Ug->Option R:=λd e=>match d,e with
 | .list ds,.int i=>(atI ds i).map .o
 | .tuple ds,.int i=>(atI ds i).map .o
 | .str x,.int i=>if x.length<=sizeLine then(atI x.cps.toList i).map λc=>.o (.str (sg c)) else none
 | _,_=>none
theorem zv8:OpD K O (rIx K) (fn2 idxF):=λH x y d e Q Qd ok p ix iy ⟨r,hr,q⟩ k=>by
 unfold idxF at hr
 split at hr
 .obtain⟨z,hz,rfl⟩:=Qt.mp hr;cases iy
  cases ix with
  | list f1 h1 s1=>
    obtain⟨v,hv,iv⟩:=zjw s1 hz;exact .inl ⟨_,_,_,v,rfl,rfl,.of h1,hv,k v H (.o z) (.refl _ _) iv q⟩
 .obtain⟨z,hz,rfl⟩:=Qt.mp hr;cases iy
  cases ix with
  | tuple h1 s1=>
    obtain⟨v,hv,iv⟩:=zjw s1 hz;exact .inr (.inl ⟨_,_,_,v,rfl,rfl,h1,hv,k v H (.o z) (.refl _ _) iv q⟩)
 .split at hr
  .rename_i hl
   obtain⟨c,hc,rfl⟩:=Qt.mp hr;cases iy;cases ix;exact .inr (.inr ⟨_,_,c,rfl,rfl,hl,hc,k _ H (.o _) (.refl _ _) (Is.str _) q⟩)
  .cases hr
 .cases hr
abbrev DO:=DSt->(Option Int->Prop)->Prop
def OD(K:Qa)(O:Ob)(t:TO)(f:DO):Prop :=
 ∀(σ:St) (H:Hp) (ρ:DSt) (Q:Option Int->Hp->Prop) (Qd:Option Int->Prop),Seen K O H σ ρ->f ρ Qd->(∀o H',Stp O H H'->Qd o->Q o H')->t σ H Q
def noO:DO:=λ_ Q=>Q none
def zue(f:DE):DO:=λρ Q=>f ρ λr=>∃i,r.d = .int i/\Q (some i)
theorem zwf:OD K O zm9 noO:=λσ H ρ Q Qd S h k=>k none H (.refl _ _) h
theorem zu5(h:ED K O t f):OD K O (zkk t) (zue f):=λσ H ρ Q Qd S hf k=>by
 refine h σ H ρ _ _ S hf λv H1 r s1 o1 zz=>?_;obtain⟨i,e,q⟩:=zz;have iv:=o1.is S.ok S.p;rw[e] at iv;cases iv;exact⟨i,rfl,k (some i) H1 s1 q⟩
def slcF(lo hi:Option Int):Ug->Option R
 | .list ds=>some (.n (cutL ds lo hi))
 | .tuple ds=>some (.o (.tuple (cutL ds lo hi)))
 | .str x=>if x.length<=sizeLine then some (.o (.str (tx (cutL x.cps.toList lo hi)))) else none
 | _=>none
def slD(f:DE)(a b:DO):DE:=λρ Q=>f ρ λr=>a ρ λlo=>b ρ λhi=>∃s,slcF lo hi r.d=some s/\Q s
theorem zs1(h:ED K O t f)(ha:OD K O tl a)(hb:OD K O th b):ED K O (tSl (rSl K) t tl th) (slD f a b):=λσ H ρ Q Qd S hf k=>by
 refine h σ H ρ _ _ S hf λv H1 r s1 o1 q1=>?_;refine ha σ H1 ρ _ _ (S.stp s1) q1 λlo H2 s2 q2=>?_;refine hb σ H2 ρ _ _ ((S.stp s1).stp s2) q2 λhi H3 s3 zz=>?_;obtain⟨s,hr,q⟩:=zz;have st:=(s1.trans s2).trans s3;have iv:Is K (unM O) H3 v r.d:=Is.stp (s2.trans s3) (λ_ z=>z) (λ_ z=>z) (o1.is S.ok S.p);revert hr;generalize r.d=d at iv;intro hr;unfold slcF at hr
 split at hr
 .cases hr
  cases iv with
  | list f1 h1 z1=>
    refine .inl ⟨_,_,rfl,.of h1,λp hp=>?_⟩;obtain⟨a1,a2⟩:=zce S.ok hp (zff z1 lo hi);exact k _ _ _ (st.trans a1) (Out.ahead S.ok S.p st a2) q
 .cases hr
  cases iv with
  | tuple h1 z1=>
    rename_i a' xs
    by_cases hw:HT.sIx xs.length 0 lo=0/\HT.sIx xs.length xs.length hi=xs.length
    .refine .inr (.inr (.inl ⟨a',xs,rfl,h1,hw,k _ H3 (.o _) st ?_ q⟩))
     have e:cutV xs lo hi=xs:=by
      unfold cutV;rw[hw.1,hw.2,Je,Yy,QT]
     have z2:=zff z1 lo hi;rw[e] at z2;exact Is.tuple h1 z2
    .refine .inr (.inl ⟨a',xs,rfl,h1,hw,λp hp=>?_⟩);obtain⟨a1,a2⟩:=zi4 S.ok hp (zff z1 lo hi);exact k _ _ _ (st.trans a1) (Out.ahead S.ok S.p st a2) q
 .split at hr
  .rename_i hl
   cases hr;cases iv;exact .inr (.inr (.inr ⟨_,rfl,hl,k _ H3 (.o _) st (Is.str _) q⟩))
  .cases hr
 .cases hr
def lenF:List Ug->Option R
 | [.str x]=>if x.length<=sizeLine then some (.o (.int x.length)) else none
 | [.list ds]=>some (.o (.int ds.length))
 | [.tuple ds]=>some (.o (.int ds.length))
 | _=>none
theorem za7{d:Ug}(h:IsAll K F H vs [d]):∃v,vs = [v]/\Is K F H v d:=by
 cases h with
 | cons h1 h2=>cases h2;exact⟨_,rfl,h1⟩
theorem zxd:zd9 K O (λxs H Q=>∃x n,xs = [x]/\LenV K x H n/\Q (.int n) H) (fn1 lenF):=λH vs ds Q Qd ok p is ⟨r,hr,q⟩ k=>by
 unfold lenF at hr
 split at hr
 .split at hr
  .rename_i hl
   obtain⟨v,rfl,iv⟩:=za7 is;cases iv;cases hr;exact⟨_,_,rfl,⟨hl,rfl⟩,k _ H (.o _) (.refl _ _) (Is.int _) q⟩
  .cases hr
 .obtain⟨v,rfl,iv⟩:=za7 is;cases hr
  cases iv with
  | list f1 h1 s1=>exact⟨_,_,rfl,.inl ⟨_,.of h1,s1.length.symm⟩,k _ H (.o _) (.refl _ _) (Is.int _) q⟩
 .obtain⟨v,rfl,iv⟩:=za7 is;cases hr
  cases iv with
  | tuple h1 s1=>exact⟨_,_,rfl,.inr ⟨_,h1,s1.length.symm⟩,k _ H (.o _) (.refl _ _) (Is.int _) q⟩
 .cases hr
def allD(any:Bool):List Ug->(R->Prop)->Prop:=λds Q=>∃bs:List Bool,ds = [.list (bs.map .bool)]/\Q (.o (.bool (if any then bs.any id else bs.all id)))
theorem zyw(any:Bool):zd9 K O (rAll any) (allD any):=λH vs ds Q Qd ok p is ⟨bs,e,q⟩ k=>by
 subst e;obtain⟨v,rfl,iv⟩:=za7 is
 cases iv with
 | list f1 h1 s1=>
   rw[zgj s1] at h1;exact⟨_,bs,rfl,h1,k _ H (.o _) (.refl _ _) (Is.bool _) q⟩
def zoy:List Ug->Option R
 | [.int i]=>some (.o (.int i))
 | [.bool b]=>some (.o (.int (if b then 1 else 0)))
 | _=>none
theorem zx9:zd9 K O (λxs H Q=>(∃i,xs = [.int i]/\Q (.int i) H)\/∃k,xs = [.bl k]/\Q (.int (if k then 1 else 0)) H) (fn1 zoy):=λH vs ds Q Qd ok p is ⟨r,hr,q⟩ k=>by
 unfold zoy at hr
 split at hr
 .obtain⟨v,rfl,iv⟩:=za7 is;cases hr;cases iv;exact .inl ⟨_,rfl,k _ H (.o _) (.refl _ _) (Is.int _) q⟩
 .obtain⟨v,rfl,iv⟩:=za7 is;cases hr;cases iv;exact .inr ⟨_,rfl,k _ H (.o _) (.refl _ _) (Is.int _) q⟩
 .cases hr
def zq8(K:Qa):List V->Hp->VK->Prop:=λxs H Q=>zk0 xs H Q\/(∃p ys,xs = [.ref p]/\(SqL K H p ys\/SqT K H p ys)/\∀l,H l=none->Q (.ref l) (upd H l (.lst ys)))
theorem zoi(hc:X.calm=true):CallR X (.type "list") (zq8 X.K):=(zg6 hc).or zk4
def zoo:List Ug->Option R
 | [.str x]=>if x.length<=sizeLine then some (.n (sgs x)) else none
 | [.list ds]=>some (.n ds)
 | [.tuple ds]=>some (.n ds)
 | _=>none
theorem zp9(x:Str):IsAll K F H (x.cps.toList.map λc=>V.str (sg c)) (sgs x):=by
 have e:=zey (K:=K) (F:=F) (H:=H) (x.cps.toList.map sg);rw[ZG,ZG] at e;exact e
theorem zvc:zd9 K O (zq8 K) (fn1 zoo):=λH vs ds Q Qd ok p is ⟨r,hr,q⟩ k=>by
 unfold zoo at hr
 split at hr
 .split at hr
  .rename_i hl
   obtain⟨v,rfl,iv⟩:=za7 is;cases iv;cases hr;refine .inl ⟨_,rfl,hl,λl hl=>?_⟩;obtain⟨a1,a2⟩:=zce (K:=K) ok hl (zp9 _);exact k _ _ _ a1 a2 q
  .cases hr
 .obtain⟨v,rfl,iv⟩:=za7 is;cases hr
  cases iv with
  | list f1 h1 s1=>
    refine .inr ⟨_,_,rfl,.inl (.of h1),λl hl=>?_⟩;obtain⟨a1,a2⟩:=zce ok hl s1;exact k _ _ _ a1 a2 q
 .obtain⟨v,rfl,iv⟩:=za7 is;cases hr
  cases iv with
  | tuple h1 s1=>
    refine .inr ⟨_,_,rfl,.inr h1,λl hl=>?_⟩;obtain⟨a1,a2⟩:=zce ok hl s1;exact k _ _ _ a1 a2 q
 .cases hr
def tupF:List Ug->Option R
 | [.list ds]=>some (.o (.tuple ds))
 | [.tuple ds]=>some (.o (.tuple ds))
 | _=>none
theorem zrv:zd9 K O (λxs H Q=>∃p ys,xs = [.ref p]/\((SqL K H p ys/\∀l,H l=none->Q (.ref l) (upd H l (.tup ys)))\/(SqT K H p ys/\Q (.ref p) H))) (fn1 tupF):=λH vs ds Q Qd ok p is ⟨r,hr,q⟩ k=>by
 unfold tupF at hr
 split at hr
 .obtain⟨v,rfl,iv⟩:=za7 is;cases hr
  cases iv with
  | list f1 h1 s1=>
    refine⟨_,_,rfl,.inl ⟨.of h1,λl hl=>?_⟩⟩;obtain⟨a1,a2⟩:=zi4 ok hl s1;exact k _ _ _ a1 a2 q
 .obtain⟨v,rfl,iv⟩:=za7 is;cases hr
  cases iv with
  | tuple h1 s1=>exact⟨_,_,rfl,.inr ⟨h1,k _ H (.o _) (.refl _ _) (Is.tuple h1 s1) q⟩⟩
 .cases hr
end
structure Ctx3{ι:Type}(P:Um)(w:Uq)(K:Qa)(mg:Str->Option Uf)(base:Heap)(k:Nat)(X:ι->Cx):Prop where
 hP:∀i,(X i).prog=P
 hw:∀i,(X i).w=w
 hK:∀i,(X i).K=K
 hmg:∀i,(X i).mg=mg
 hb:∀i,(X i).base=base
 calm:∀i,(X i).calm=true
 room:∀i,Room k (X i).A
 xe:∀i,(X i).xe=λ_ _=>False
def E3{ι κ:Type}(K:Qa)(X:ι->Cx)(O:κ->Ob)(e:Expr)(f:DE):Prop:=∃t,(∀i,PE (X i) e t)/\∀j,ED K (O j) t f
def T3{ι κ:Type}(K:Qa)(X:ι->Cx)(O:κ->Ob)(e:Expr)(f:DT):Prop:=∃t,(∀i,PT (X i) e t)/\∀j,TD K (O j) t f
def W3{ι κ:Type}(K:Qa)(X:ι->Cx)(O:κ->Ob)(e:Expr)(f:DT):Prop:=∃t,(∀i,PW (X i) e t)/\∀j,TD K (O j) t f
def A3{ι κ:Type}(K:Qa)(X:ι->Cx)(O:κ->Ob)(es:List Expr)(f:DA):Prop:=∃t,(∀i,PA (X i) es t)/\∀j,AD K (O j) t f
def I3{ι κ:Type}(K:Qa)(X:ι->Cx)(O:κ->Ob)(tg e:Expr)(f:DI):Prop:=∃t,(∀i,PI (X i) tg e t)/\∀j,SrcS K (O j) t f
def J3{ι κ:Type}(K:Qa)(X:ι->Cx)(O:κ->Ob)(tg e:Expr)(f:DJ):Prop:=∃t,(∀i,PI (X i) tg e t)/\∀j,SrcR K (O j) t f
def S3{ι κ:Type}(K:Qa)(X:ι->Cx)(O:κ->Ob)(s:Stmt)(g:DS):Prop:=∃t,(∀i,PS (X i) s t)/\∀j,SD K (O j) t g
def Ss3{ι κ:Type}(K:Qa)(X:ι->Cx)(O:κ->Ob)(s:List Stmt)(g:DS):Prop:=∃t,(∀i,PSs (X i) s t)/\∀j,SD K (O j) t g
def O3{ι κ:Type}(K:Qa)(X:ι->Cx)(O:κ->Ob)(e:Option Expr)(f:DO):Prop:=∃t,(∀i,PO (X i) e t)/\∀j,OD K (O j) t f
def G3{ι:Type}(K:Qa)(X:ι->Cx)(h:Nat)(tg:Expr)(g:DG):Prop:=∃t,(∀i,PG (X i) tg t)/\(∀O:Ob,GS K O t g)/\(∀O:Ob,GR K O t g)/\OwnG h t
section
variable {ι κ:Type}{P:Um}{w:Uq}{K:Qa}{mg:Str->Option Uf}{base:Heap}{k:Nat}{X:ι->Cx}{O:κ->Ob}{a b c:Expr}{fa fb fc:DE}{pos:Pos}
theorem zad(n:Nat)(hN:∀i,(X i).N[n]? = some x:=by intro i;rfl)(hv:∀i,Vis (X i).env.scope x:=by intro i;first|exact Or.inl rfl|exact Or.inr (Or.inl rfl)|exact Or.inr (Or.inr rfl))
 (hd:(x == ("__debug__" : Str))=false:=by decide) (hcd:(x == ("__classdict__" : Str))=false:=by decide):E3 K X O (.Name x pos) (vD n):=⟨_,λi=>zaf (hN i) (hv i) hd hcd,λj=>zxx⟩
theorem zbd{n:Int}{j:Nat}:E3 K X O (.Constant (.int n) j pos) (cD (.int n)):=⟨_,λi=>zau,λj=>zyu⟩
theorem zud{j:Nat}:E3 K X O (.Constant (.str x) j pos) (cD (.str x)):=⟨_,λi=>zbn,λj=>zx7⟩
theorem e_bl{x:Bool}{j:Nat}:E3 K X O (.Constant (.bool x) j pos) (cD (.bool x)):=⟨_,λi=>z0c,λj=>zzf⟩
theorem zkq{j:Nat}:E3 K X O (.Constant .none j pos) (cD .none):=⟨_,λi=>zw8,λj=>zxl⟩
theorem e_op(ho:∀i,OpR (X i) (UG op) r)(hd:∀j,OpD K (O j) r F)(ha:E3 K X O a fa)(hb:E3 K X O b fb):E3 K X O (.BinOp a op b pos) (opDE F fa fb) :=
 let ⟨_,p1,d1⟩:=ha;let ⟨_,p2,d2⟩:=hb;⟨_,λi=>za4 (ho i) (p1 i) (p2 i),λj=>zkl (hd j) (d1 j) (d2 j)⟩
theorem ze0(C:Ctx3 P w K mg base k X)(ha:E3 K X O a fa)(hb:E3 K X O b fb):E3 K X O (.BinOp a .Add b pos) (opDE (fn2 addF) fa fb):=e_op (λi=>by have h:=zu1 (X:=X i);rw[C.hK] at h;exact h) (λ_=>zwc) ha hb
theorem zuc(ho:∀i,OpR (X i) (U9 op) r)(hd:∀j,OpD K (O j) r F)(ha:E3 K X O a fa)(hb:E3 K X O b fb)(hm:UN op b=false):E3 K X O (.Compare a [op] [b] pos) (opDE F fa fb) :=
 let ⟨_,p1,d1⟩:=ha;let ⟨_,p2,d2⟩:=hb;⟨_,λi=>zvb (ho i) (p1 i) (p2 i) hm,λj=>zkl (hd j) (d1 j) (d2 j)⟩
theorem zow(ho:∀i,OpR (X i) (U9 op) r)(hd:∀j,OpD K (O j) r F)(ha:E3 K X O a fa)(hb:E3 K X O b fb)(hm:UN op b=false):T3 K X O (.Compare a [op] [b] pos) (bD (opDE F fa fb)) :=
 let ⟨_,p1,d1⟩:=ha;let ⟨_,p2,d2⟩:=hb;⟨_,λi=>zel (ho i) (p1 i) (p2 i) hm,λj=>zw0 (zkl (hd j) (d1 j) (d2 j))⟩
theorem zt9(C:Ctx3 P w K mg base k X):∀i,OpR (X i) (U9 .Eq) (rEqD K false):=λi=>by have h:=zym (X:=X i) (C.room i).units;rw[C.hK] at h;exact h
theorem zzt(C:Ctx3 P w K mg base k X):∀i,OpR (X i) (U9 .NotEq) (rEqD K true):=λi=>by have h:=zwy (X:=X i) (C.room i).units;rw[C.hK] at h;exact h
theorem e_eq(C:Ctx3 P w K mg base k X)(ha:E3 K X O a fa)(hb:E3 K X O b fb):E3 K X O (.Compare a [.Eq] [b] pos) (opDE (fn2 (eqF false)) fa fb):=zuc (zt9 C) (λ_=>zlk false) ha hb (zcl b)
theorem zvo(ha:E3 K X O a fa)(hb:E3 K X O b fb):E3 K X O (.Compare a [.IsNot] [b] pos) (opDE (isNF true) fa fb):=zuc (λi=>zun) (λ_=>zsn) ha hb (zcl b)
theorem t_eq(C:Ctx3 P w K mg base k X)(ha:E3 K X O a fa)(hb:E3 K X O b fb):T3 K X O (.Compare a [.Eq] [b] pos) (bD (opDE (fn2 (eqF false)) fa fb)):=zow (zt9 C) (λ_=>zlk false) ha hb (zcl b)
theorem t_ne(C:Ctx3 P w K mg base k X)(ha:E3 K X O a fa)(hb:E3 K X O b fb):T3 K X O (.Compare a [.NotEq] [b] pos) (bD (opDE (fn2 (eqF true)) fa fb)):=zow (zzt C) (λ_=>zlk true) ha hb (zcl b)
theorem t_lt(ha:E3 K X O a fa)(hb:E3 K X O b fb):T3 K X O (.Compare a [.Lt] [b] pos) (bD (opDE (fn2 (intF λi j=>.bool (decide (i<j)))) fa fb)):=zow (λi=>z0h) (λ_=>zxt) ha hb (zcl b)
variable {ft fu:DT}{rest:List Expr}
theorem zdg(ha:E3 K X O a fa)(he:∀i whole,isTrue a (X i).env whole=(do let v <- whole;standAt a.pos;holding [v] (truthy v)):=by intro _ _;rfl):T3 K X O a (bD fa):=let ⟨_,p,d⟩:=ha;⟨_,λi=>zyy (p i) (he i),λj=>zwd (d j)⟩
theorem zhb(h:T3 K X O a ft):T3 K X O (.UnaryOp .Not a pos) (notT ft):=let ⟨_,p,d⟩:=h;⟨_,λi=>zyl (p i),λj=>zy7 (d j)⟩
theorem zxb(h:T3 K X O a ft):W3 K X O (.BoolOp .And [a] pos) ft:=let ⟨_,p,d⟩:=h;⟨_,λi=>znd (p i),d⟩
theorem zz1(h:T3 K X O a ft):W3 K X O (.BoolOp .Or [a] pos) ft:=let ⟨_,p,d⟩:=h;⟨_,λi=>zxv (p i),d⟩
theorem zzm(h:T3 K X O a ft)(h':W3 K X O (.BoolOp .And (b::rest) pos) fu):W3 K X O (.BoolOp .And (a::b::rest) pos) (andT ft fu):=let ⟨_,p,d⟩:=h;let ⟨_,p2,d2⟩:=h';⟨_,λi=>zpb (p i) (p2 i),λj=>zyt (d j) (d2 j)⟩
theorem w_or(h:T3 K X O a ft)(h':W3 K X O (.BoolOp .Or (b::rest) pos) fu):W3 K X O (.BoolOp .Or (a::b::rest) pos) (orT ft fu):=let ⟨_,p,d⟩:=h;let ⟨_,p2,d2⟩:=h';⟨_,λi=>z0q (p i) (p2 i),λj=>z0n (d j) (d2 j)⟩
theorem t_w(h:W3 K X O a ft):T3 K X O a ft:=let ⟨_,p,d⟩:=h;⟨_,λi=>(p i).pt,d⟩
theorem e_if(hc:T3 K X O c ft)(ha:E3 K X O a fa)(hb:E3 K X O b fb):E3 K X O (.IfExp c a b pos) (ifD ft fa fb):=let ⟨_,p,d⟩:=hc;let ⟨_,p1,d1⟩:=ha;let ⟨_,p2,d2⟩:=hb;⟨_,λi=>zlc (p i) (p1 i) (p2 i),λj=>z0v (d j) (d1 j) (d2 j)⟩
variable {es:List Expr}{ga:DA}
theorem zah:A3 K X O [] aNil:=⟨_,λi=>zbg,λj=>zx6⟩
theorem zae(ha:E3 K X O a fa)(hr:A3 K X O es ga)(hs:∀i,Ul (a::es) (X i).env=(false,eval a (X i).env)::Ul es (X i).env:=by intro i;rfl):A3 K X O (a::es) (ztt fa ga):=let ⟨_,p,d⟩:=ha;let ⟨_,p2,d2⟩:=hr;⟨_,λi=>zaq (p i) (p2 i) (hs i),λj=>zuo (d j) (d2 j)⟩
theorem zkc{n:Nat}(h:A3 K X O es ga):E3 K X O (.Tuple es n pos) (tupD ga):=let ⟨_,p,d⟩:=h;⟨_,λi=>zww (p i),λj=>zx3 (d j)⟩
theorem zcr(h:A3 K X O es ga):E3 K X O (.List es pos) (lstD ga):=let ⟨_,p,d⟩:=h;⟨_,λi=>zl3 (p i),λj=>zyj (d j)⟩
theorem zc3(C:Ctx3 P w K mg base k X)(ha:E3 K X O a fa)(hb:E3 K X O b fb)(hs:zep b:=by intro _ _;rfl):E3 K X O (.Subscript a b pos) (opDE (fn2 idxF) fa fb) :=
 let ⟨_,p1,d1⟩:=ha;let ⟨_,p2,d2⟩:=hb;⟨tOp (rIx K) _ _,λi=>by have h:=zkt (pos:=pos) (zhf (X:=X i)) (p1 i) (p2 i) hs;rw[C.hK] at h;exact h,λj=>zkl zv8 (d1 j) (d2 j)⟩
theorem zyd:O3 K X O none noO:=⟨_,λi=>zwm,λj=>zwf⟩
theorem zl8(ha:E3 K X O a fa):O3 K X O (some a) (zue fa):=let ⟨_,p,d⟩:=ha;⟨_,λi=>zid (p i),λj=>zu5 (d j)⟩
theorem zni(C:Ctx3 P w K mg base k X){lo hi:Option Expr}{fl fh:DO}{p2:Pos}(ha:E3 K X O a fa)(hl:O3 K X O lo fl)(hh:O3 K X O hi fh):E3 K X O (.Subscript a (.Slice lo hi none p2) pos) (slD fa fl fh) :=
 let ⟨_,p1,d1⟩:=ha;let ⟨_,q2,d2⟩:=hl;let ⟨_,q3,d3⟩:=hh;⟨tSl (rSl K) _ _ _,λi=>by have h:=zlr (pos:=pos) (p2:=p2) (zxy (X:=X i)) (p1 i) (q2 i) (q3 i);rw[C.hK] at h;exact h,λj=>zs1 (d1 j) (d2 j) (d3 j)⟩
theorem ztk{x:Str}{id:String}{r:List V->Hp->VK->Prop}{F:List Ug->(R->Prop)->Prop}{p:Pos}(C:Ctx3 P w K mg base k X)(hc:∀i,CallR (X i) (.builtin id) r)(hd:∀j,zd9 K (O j) r F)(hv:Uu x=some (.builtin id))(hm:mg x=none)(ha:A3 K X O (a::es) ga)
 (hg:∀i,Gl (X i) x:=by intro i;rfl) (hn:x ≠ "__name__" := by decide) (hdb:(x == ("__debug__" : Str))=false:=by decide) (he:∀i,Ul (a::es) (X i).env=(false,eval a (X i).env)::Ul es (X i).env:=by intro i;rfl) (hpl:∀i,(U7 pos (Ul es (X i).env)).any (·.1)=false:=by intro i;rfl) :
 E3 K X O (.Call (.Name x p) (a::es) [] pos) (zc6 F ga):=let ⟨_,q,d⟩:=ha;⟨_,λi=>zdt (hc i) (hg i) (by rw[C.hmg];exact hm) hv (q i) hn hdb (he i) (hpl i),λj=>zmi (hd j) (d j)⟩
theorem zo1(C:Ctx3 P w K mg base k X)(hc:∀i,CallR (X i) (.type T) r)(hd:∀j,zd9 K (O j) r F)(hv:Uu x=some (.type T))(hm:mg x=none)(ha:A3 K X O (a::es) ga)
 (hg:∀i,Gl (X i) x:=by intro i;rfl) (hn:x ≠ "__name__" := by decide) (hdb:(x == ("__debug__" : Str))=false:=by decide) (he:∀i,Ul (a::es) (X i).env=(false,eval a (X i).env)::Ul es (X i).env:=by intro i;rfl) (hpl:∀i,(U7 pos (Ul es (X i).env)).any (·.1)=false:=by intro i;rfl) :
 E3 K X O (.Call (.Name x p) (a::es) [] pos) (zc6 F ga):=let ⟨_,q,d⟩:=ha;⟨_,λi=>zjc (hc i) (hg i) (by rw[C.hmg];exact hm) hv (q i) hn hdb (he i) (hpl i),λj=>zmi (hd j) (d j)⟩
end
theorem zk2:Uu "len" = some (.builtin "len"):=by decide +kernel
theorem zwz:Uu "any" = some (.builtin "any"):=by decide +kernel
theorem zfw:Uu "sorted" = some (.builtin "sorted"):=by decide +kernel
theorem zx0:Uu "int" = some (.type "int"):=by decide +kernel
theorem zm6:Uu "list" = some (.type "list"):=by decide +kernel
theorem zro:Uu "tuple" = some (.type "tuple"):=by decide +kernel
structure Blt(mg:Str->Option Uf):Prop where
 len:mg "len" = none
 all:mg "all" = none
 any:mg "any" = none
 sorted:mg "sorted" = none
 min:mg "min" = none
 max:mg "max" = none
 repr:mg "repr" = none
 int:mg "int" = none
 list:mg "list" = none
 tuple:mg "tuple" = none
 range:mg "range" = none
 set:mg "set" = none
 isinstance:mg "isinstance" = none
 enumerate:mg "enumerate" = none
 zip:mg "zip" = none
 reversed:mg "reversed" = none
 str:mg "str" = none
 sum:mg "sum" = none
 dict:mg "dict" = none
 bool:mg "bool" = none
structure Def3(P:Um)(w:Uq)(K:Qa)(mg:Str->Option Uf)(base:Heap)(k:Nat)(x:Str)(ps:List Str)(sp:Sp):Prop where
 ex:∃f fd,FnOk P w K mg base CX0 k f fd ps sp/\mg x=some (.ref f)/\ZR K (.ref f)=true/\Binds K fd ps []
structure Top3(K:Qa)(mg:Str->Option Uf)(x:Str)(st:Stmt):Prop where
 ex:∃f fd,Fun K x x st f fd/\mg x=some (.ref f)
structure CIx where
 C:Addr
 s:Ui
 H:Hp
 ex:List Addr
def zcm{ι:Type}(X:ι->Cx)(scope:Uz)(N':List Str):ι×CIx->Cx:=λp=>zbr (X p.1) scope N' p.2.C p.2.s p.2.H p.2.ex
def zf8{κ:Type}(O:κ->Ob):{ p:κ×(Addr×List V) // ¬(O p.1).M p.2.1 }->Ob:=λp=>(O p.1.1).plus p.1.2.1 (.lst p.1.2.2)
def F3{ι κ:Type}(K:Qa)(X:ι->Cx)(O:κ->Ob)(ifs:List Expr)(f:DT):Prop:=∃t,(∀i,PF (X i) ifs t)/\∀j,TD K (O j) t f
def yesD:DT:=λ_ Q=>Q true
section
variable {ι κ:Type}{P:Um}{w:Uq}{K:Qa}{mg:Str->Option Uf}{base:Heap}{k:Nat}{X:ι->Cx}{O:κ->Ob}{a b c tg:Expr}{fa fb fc:DE}{pos p:Pos}{es:List Expr}{ga:DA}
theorem Ctx3.comp(C:Ctx3 P w K mg base k X)(scope:Uz)(N':List Str):Ctx3 P w K mg base k (zcm X scope N'):=⟨λi=>C.hP i.1,λi=>C.hw i.1,λi=>C.hK i.1,λi=>C.hmg i.1,λi=>C.hb i.1,λi=>C.calm i.1,λi=>C.room i.1,λ_=>rfl⟩
theorem zhh(C:Ctx3 P w K mg base k X)(B:Blt mg)(ha:A3 K X O [a] ga)(hg:∀i,Gl (X i) "len" := by intro i;rfl)(he:∀i,Ul [a] (X i).env=(false,eval a (X i).env)::Ul [] (X i).env:=by intro i;rfl):E3 K X O (.Call (.Name "len" p) [a] [] pos) (zc6 (fn1 lenF) ga) :=
 ztk C (λi=>by have h:=zgz (X:=X i);rw[C.hK] at h;exact h) (λ_=>zxd) zk2 B.len ha hg (by decide) (by decide) he
theorem z0s(C:Ctx3 P w K mg base k X)(B:Blt mg)(ha:A3 K X O [a] ga)(hg:∀i,Gl (X i) "any" := by intro i;rfl)(he:∀i,Ul [a] (X i).env=(false,eval a (X i).env)::Ul [] (X i).env:=by intro i;rfl):E3 K X O (.Call (.Name "any" p) [a] [] pos) (zc6 (allD true) ga) :=
 ztk C (λi=>zp7 (C.calm i)) (λ_=>zyw true) zwz B.any ha hg (by decide) (by decide) he
theorem zy3(C:Ctx3 P w K mg base k X)(B:Blt mg)(ha:A3 K X O [a] ga)(hg:∀i,Gl (X i) "int" := by intro i;rfl)(he:∀i,Ul [a] (X i).env=(false,eval a (X i).env)::Ul [] (X i).env:=by intro i;rfl):E3 K X O (.Call (.Name "int" p) [a] [] pos) (zc6 (fn1 zoy) ga) :=
 zo1 C (λi=>zpn) (λ_=>zx9) zx0 B.int ha hg (by decide) (by decide) he
theorem zvh(C:Ctx3 P w K mg base k X)(B:Blt mg)(ha:A3 K X O [a] ga)(hg:∀i,Gl (X i) "list" := by intro i;rfl)(he:∀i,Ul [a] (X i).env=(false,eval a (X i).env)::Ul [] (X i).env:=by intro i;rfl):E3 K X O (.Call (.Name "list" p) [a] [] pos) (zc6 (fn1 zoo) ga) :=
 zo1 C (λi=>by have h:=zoi (X:=X i) (C.calm i);rw[C.hK] at h;exact h) (λ_=>zvc) zm6 B.list ha hg (by decide) (by decide) he
theorem ze4(C:Ctx3 P w K mg base k X)(B:Blt mg)(ha:A3 K X O [a] ga)(hg:∀i,Gl (X i) "tuple" := by intro i;rfl)(he:∀i,Ul [a] (X i).env=(false,eval a (X i).env)::Ul [] (X i).env:=by intro i;rfl):E3 K X O (.Call (.Name "tuple" p) [a] [] pos) (zc6 (fn1 tupF) ga) :=
 zo1 C (λi=>by have h:=zj8 (X:=X i);rw[C.hK] at h;exact h) (λ_=>zrv) zro B.tuple ha hg (by decide) (by decide) he
theorem zca{k' n:Nat}(C:Ctx3 P w K mg base k X)(D:Def3 P w K mg base k' x ps (spO K φ n F))(hφ:∀j,φ (O j))(ha:A3 K X O (a::es) ga)(hk:k'<=k:=by decide)(hg:∀i,Gl (X i) x:=by intro i;rfl)
 (hdb:(x == ("__debug__" : Str))=false:=by decide) (he:∀i,Ul (a::es) (X i).env=(false,eval a (X i).env)::Ul es (X i).env:=by intro i;rfl) (hpl:∀i,(U7 pos (Ul es (X i).env)).any (·.1)=false:=by intro i;rfl):E3 K X O (.Call (.Name x p) (a::es) [] pos) (calD n F ga):=by
 obtain⟨f,fd,G,m,kp,bn⟩:=D.ex;obtain⟨t,q,d⟩:=ha;refine⟨zb4 (spO K φ n F) [] E0 t,λi=>?_,λj=>zu0 (hφ j) (d j)⟩;have G':FnOk (X i).prog (X i).w (X i).K (X i).mg (X i).base CX0 k f fd ps (spO K φ n F):=by rw[C.hP,C.hw,C.hK,C.hmg,C.hb];exact G.mono hk
 exact zc0 G' (C.room i) (hg i) (by rw[C.hmg];exact m) (by rw[C.hK];exact kp) (by rw[C.hK];exact bn) .nil ze1 (q i) hdb (he i) (hpl i)
theorem zb5{k' n:Nat}(v:Nat)(C:Ctx3 P w K mg base k X)(D:Def3 P w K mg base k' x ps (spD K φ n F))(hφ:∀j,φ (O j))(ha:A3 K X O es ga)(hk:k'<=k:=by decide)(hg:∀i,Gl (X i) x:=by intro i;rfl)
 (hN:∀i,(X i).N[v]? = some y:=by intro i;rfl) (hv:∀i,Vis (X i).env.scope y:=by intro i;first|exact Or.inl rfl|exact Or.inr (Or.inl rfl)|exact Or.inr (Or.inr rfl)) (hd:(y == ("__debug__" : Str))=false:=by decide) (hcd:(y == ("__classdict__" : Str))=false:=by decide)
 (hdb:(x == ("__debug__" : Str))=false:=by decide) (he:∀i,Ul (.Name y py::es) (X i).env=(false,eval (.Name y py) (X i).env)::Ul es (X i).env:=by intro i;rfl) (hpl:∀i,(U7 pos (Ul es (X i).env)).any (·.1)=false:=by intro i;rfl) :
 E3 K X O (.Call (.Name x p) (.Name y py::es) [] pos) (calO v n F ga):=by
 obtain⟨f,fd,G,m,kp,bn⟩:=D.ex;obtain⟨t,q,d⟩:=ha;refine⟨zb4 (spD K φ n F) [] E0 (zat (tVar v) t),λi=>?_,λj=>zrl (hφ j) (d j)⟩;have G':FnOk (X i).prog (X i).w (X i).K (X i).mg (X i).base CX0 k f fd ps (spD K φ n F):=by rw[C.hP,C.hw,C.hK,C.hmg,C.hb];exact G.mono hk
 exact zc0 G' (C.room i) (hg i) (by rw[C.hmg];exact m) (by rw[C.hK];exact kp) (by rw[C.hK];exact bn) .nil ze1 (zaq (zaf (hN i) (hv i) hd hcd) (q i) (he i)) hdb (he i) (hpl i)
theorem zb8(C:Ctx3 P w K mg base k X)(ha:E3 K X O a fa):I3 K X O tg a (srcL fa):=let ⟨_,p,d⟩:=ha;⟨zb2 K _,λi=>by have h:=zdn (tg:=tg) (p i);rw[C.hK] at h;exact h,λj=>zmb (d j)⟩
theorem zkf(C:Ctx3 P w K mg base k X)(ha:E3 K X O a fa):I3 K X O tg a (srcT fa):=let ⟨_,p,d⟩:=ha;⟨iTup K _,λi=>by have h:=zxn (tg:=tg) (p i);rw[C.hK] at h;exact h,λj=>zwh (d j)⟩
theorem zua(ha:E3 K X O a fa):I3 K X O tg a (srcS fa):=let ⟨_,p,d⟩:=ha;⟨_,λi=>zzd (p i),λj=>zvk (d j)⟩
theorem i_r1(C:Ctx3 P w K mg base k X)(B:Blt mg)(ha:A3 K X O [a] ga)(hg:∀i,Gl (X i) "range" := by intro i;rfl)(hs:∀i,Ul [a] (X i).env = [(false,eval a (X i).env)]:=by intro i;rfl):I3 K X O tg (.Call (.Name "range" p) [a] [] pos) (zto ga) :=
 let ⟨_,q,d⟩:=ha;⟨_,λi=>zjn (hg i) (by rw[C.hmg];exact B.range) (q i) (hs i),λj=>zso (d j)⟩
theorem zcp(h:I3 K X O tg a fi):J3 K X O tg a (newJ fi):=let ⟨_,p,d⟩:=h;⟨_,p,λj=>znp (d j)⟩
theorem zn6(C:Ctx3 P w K mg base k X)(n:Nat)(hN:∀i,(X i).N[n]? = some x:=by intro i;rfl)(hv:∀i,Vis (X i).env.scope x:=by intro i;first|exact Or.inl rfl|exact Or.inr (Or.inl rfl)|exact Or.inr (Or.inr rfl))(hd:(x == ("__debug__" : Str))=false:=by decide)(hcd:(x == ("__classdict__" : Str))=false:=by decide):
 J3 K X O tg (.Name x pos) (varJ n):=⟨zb2 K (tVar n),λi=>by have h:=zdn (tg:=tg) (X:=X i) (zaf (pos:=pos) (hN i) (hv i) hd hcd);rw[C.hK] at h;exact h,λj=>zr0⟩
theorem zax{h:Nat}(n:Nat)(hlt:n<h:=by decide)(hN:∀i,(X i).N.Nodup:=by intro i;exact GQ (by kernel_rfl))(hi:∀i,(X i).N[n]? = some x:=by intro i;rfl)(hx:∀i,Loc (X i).env.scope x:=by intro i;first|exact Or.inl rfl|exact Or.inr rfl)
 (hf:∀i,(X i).fn x=true\/(X i).env.scope.names.lookup x=some .local:=by intro i;first|exact .inl rfl|exact .inr rfl):G3 K X h (.Name x pos) (gN n):=⟨_,λi=>zdm (hN i) (hi i) (hx i) (hf i),λ_=>zv1,λ_=>zvr,zd1 hlt⟩
def Gs3{ι:Type}(K:Qa)(X:ι->Cx)(h:Nat)(es:List Expr)(is:List Nat):Prop:=∃t,(∀i,PGs (X i) es t)/\(∀O:Ob,GSs K O t is)/\(∀O:Ob,GRs K O t is)/\zg9 h t/\zg5 t
theorem zq6{h:Nat}:Gs3 K X h [] []:=⟨_,λi=>zvz,λ_=>zv5,λ_=>zu9,zuh,zwe⟩
theorem zf7{h:Nat}{is:List Nat}(n:Nat)(hr:Gs3 K X h es is)(hlt:n<h:=by decide)(hN:∀i,(X i).N.Nodup:=by intro i;exact GQ (by kernel_rfl))(hi:∀i,(X i).N[n]? = some x:=by intro i;rfl)(hx:∀i,Loc (X i).env.scope x:=by intro i;first|exact Or.inl rfl|exact Or.inr rfl)
 (hf:∀i,(X i).fn x=true\/(X i).env.scope.names.lookup x=some .local:=by intro i;first|exact .inl rfl|exact .inr rfl) (hs:∀i,(UE (.Name x pos::es) (X i).env).map (·.2)=Gf (.Name x pos) (X i).env::(UE es (X i).env).map (·.2):=by intro i;rfl):Gs3 K X h (.Name x pos::es) (n::is) :=
 let ⟨_,p,d1,d2,o,m⟩:=hr;⟨_,λi=>zr4 (zdm (hN i) (hi i) (hx i) (hf i)) (p i) (hs i),λO=>zta (d1 O),λO=>zsq (d2 O),zs3 zlh m (zd1 hlt) o,zrx zlh m⟩
theorem zt0{h n:Nat}{is:List Nat}{j:Nat}(C:Ctx3 P w K mg base k X)(hr:Gs3 K X h es is)(hn:is.length=n:=by rfl)(hn2:∀i,(UE es (X i).env).length=n:=by intro i;rfl)(hst:∀i,(UE es (X i).env).findIdx? (·.1)=none:=by intro i;rfl):G3 K X h (.Tuple es j pos) (gT is) :=
 let ⟨_,p,d1,d2,o,m⟩:=hr;⟨_,λi=>by have z:=zyi (pos:=pos) (k:=j) (C.calm i) (p i) (hn2 i) (hst i);rw[C.hK] at z;exact z,λO=>zy1 hn (d1 O),λO=>zy4 hn (d2 O),zwb o⟩
theorem zka: F3 K X O' [] yesD:=⟨_,λi=>zeg,λj σ H ρ Q Qd S h k=>k true H (.refl _ _) h⟩
theorem zt3(h:T3 K X O c ft):F3 K X O [c] ft:=let ⟨_,p,d⟩:=h;⟨_,λi=>zp5 (p i),d⟩
theorem zfr{iter:Expr}{scope:Uz}(h:Nat)(N':List Str)(C:Ctx3 P w K mg base k X)(S:∀i,ScopeOk h N' (X i).N scope (X i).env.scope)(hs:I3 K X O tg iter fi)
 (hg:G3 K (zcm X scope N') h tg g) (hf:F3 K (zcm X scope N') (zf8 O) ifs ft) (he:E3 K (zcm X scope N') (zf8 O) elt fe) (hset:∀i x,Uw iter (X i).env x=pure x:=by intro _ _;rfl) :
 E3 K X O (.ListComp elt [⟨tg,iter,ifs,0⟩] scope pos) (zj9 h fi g ft fe):=by
 obtain⟨ti,p1,d1⟩:=hs;obtain⟨tg',p2,d2,_,ow⟩:=hg;obtain⟨tf,p3,d3⟩:=hf;obtain⟨te,p4,d4⟩:=he;exact⟨_,λi=>zf0 h (S i) (C.calm i) (p1 i) (λc s H ex=>p2 (i,⟨c,s,H,ex⟩)) ow (λc s H ex=>p3 (i,⟨c,s,H,ex⟩)) (λc s H ex=>p4 (i,⟨c,s,H,ex⟩)) (hset i),λj=>znh (d1 j) d2 (λD xs nm=>d3 ⟨(j,(D,xs)),nm⟩) λD xs nm=>d4 ⟨(j,(D,xs)),nm⟩⟩
variable {st:Stmt}{sts:List Stmt}{g1 g2:DS}{ft:DT}
theorem zd0:Ss3 K X O [] (λDd ρ=>Dd.nx ρ):=⟨_,λi=>znx,λj=>zv4⟩
theorem zai(h:S3 K X O st g1):Ss3 K X O [st] g1:=let ⟨_,p,d⟩:=h;⟨_,λi=>zcj (p i),d⟩
theorem zag(h:S3 K X O st g1)(h':Ss3 K X O sts g2):Ss3 K X O (st::sts) (seqD g1 g2):=let ⟨_,p,d⟩:=h;let ⟨_,p2,d2⟩:=h';⟨_,λi=>za5 (p i) (p2 i),λj=>zxo (d j) (d2 j)⟩
theorem zb1(ha:E3 K X O a fa):S3 K X O (.Return (some a) pos) (retS fa):=let ⟨_,p,d⟩:=ha;⟨_,λi=>zdq (p i),λj=>zw9 (d j)⟩
theorem zha(n:Nat)(hN:∀i,(X i).N[n]? = some x:=by intro i;rfl)(hv:∀i,Vis (X i).env.scope x:=by intro i;first|exact Or.inl rfl|exact Or.inr (Or.inl rfl)|exact Or.inr (Or.inr rfl))(hd:(x == ("__debug__" : Str))=false:=by decide)(hcd:(x == ("__classdict__" : Str))=false:=by decide):
 S3 K X O (.Return (some (.Name x px)) pos) (retO n):=⟨_,λi=>zdq (zaf (hN i) (hv i) hd hcd),λj=>zrd⟩
theorem s_if(hc:T3 K X O c ft)(h:Ss3 K X O sa g1)(h':Ss3 K X O sb g2):S3 K X O (.If c sa sb pos) (ifS ft g1 g2):=let ⟨_,p,d⟩:=hc;let ⟨_,p1,d1⟩:=h;let ⟨_,p2,d2⟩:=h';⟨_,λi=>ztw (p i) (p1 i) (p2 i),λj=>zzq (d j) (d1 j) (d2 j)⟩
theorem zbl(n:Nat)(ha:E3 K X O a fa)(hN:∀i,(X i).N.Nodup:=by intro i;exact GQ (by kernel_rfl))(hi:∀i,(X i).N[n]? = some x:=by intro i;rfl)(hx:∀i,Loc (X i).env.scope x:=by intro i;first|exact Or.inl rfl|exact Or.inr rfl)
 (hs:∀i,UB a (some (.Name x px)) pos.line (X i).env=pure false:=by intro i;rfl) (hf:∀i,(X i).fn x=true\/(X i).env.scope.names.lookup x=some .local:=by intro i;first|exact .inl rfl|exact .inr rfl):S3 K X O (.Assign [.Name x px] a pos) (asgS n fa) :=
 let ⟨_,p,d⟩:=ha;⟨_,λi=>zb9 (hN i) (hi i) (hx i) (p i) (hs i) (hf i),λj=>zp3 (d j)⟩
theorem zyq(n:Nat){iter:Expr}{scope:Uz}(h:Nat)(N':List Str)(C:Ctx3 P w K mg base k X)(S:∀i,ScopeOk h N' (X i).N scope (X i).env.scope)(hs:I3 K X O tg iter fi)
 (hg:G3 K (zcm X scope N') h tg g) (hf:F3 K (zcm X scope N') (zf8 O) ifs ft) (he:E3 K (zcm X scope N') (zf8 O) elt fe) (hN:∀i,(X i).N.Nodup:=by intro i;exact GQ (by kernel_rfl)) (hi:∀i,(X i).N[n]? = some x:=by intro i;rfl) (hx:∀i,(X i).env.scope.names.lookup x=some .local:=by intro i;rfl)
 (hsw:∀i,UB (.ListComp elt [⟨tg,iter,ifs,0⟩] scope p0) (some (.Name x px)) pos.line (X i).env=pure true:=by intro i;rfl) (hset:∀i x,Uw iter (X i).env x=pure x:=by intro _ _;rfl) :
 S3 K X O (.Assign [.Name x px] (.ListComp elt [⟨tg,iter,ifs,0⟩] scope p0) pos) (asgS n (zj9 h fi g ft fe)):=by
 obtain⟨ti,p1,d1⟩:=hs;obtain⟨tg',p2,d2,_,ow⟩:=hg;obtain⟨tf,p3,d3⟩:=hf;obtain⟨te,p4,d4⟩:=he;exact⟨_,λi=>zdl (hN i) (hi i) (hx i) (hsw i) h (S i) (C.calm i) (p1 i) (λc s H ex=>p2 (i,⟨c,s,H,ex⟩)) ow (λc s H ex=>p3 (i,⟨c,s,H,ex⟩)) (λc s H ex=>p4 (i,⟨c,s,H,ex⟩)) (hset i),λj=>zp3 (znh (d1 j) d2 (λD xs nm=>d3 ⟨(j,(D,xs)),nm⟩) λD xs nm=>d4 ⟨(j,(D,xs)),nm⟩)⟩
theorem zoa{X:Cx}:MtR X "list.append" zf3:=λpins s σ H x xs v us Q I rx rv h=>zj0 pins s σ H x xs v us Q I rx rv h
theorem zh1(n:Nat){apos cpos:Pos}(C:Ctx3 P w K mg base k X)(hb:E3 K X O b fb)(hN:∀i,(X i).N[n]? = some x:=by intro i;rfl)(hv:∀i,Vis (X i).env.scope x:=by intro i;first|exact Or.inl rfl|exact Or.inr (Or.inl rfl)|exact Or.inr (Or.inr rfl))(hd:(x == ("__debug__" : Str))=false:=by decide)(hcd:(x == ("__classdict__" : Str))=false:=by decide)
 (hbase:∀i,UM (.Name x px) "append" (X i).env (eval (.Name x px) (X i).env)=eval (.Name x px) (X i).env:=by intro i;rfl)
 (hfew:∀i,((U7 cpos (Ul [b] (X i).env)).all (λx=>!x.1) && (G8 cpos (Gd [] (X i).env)).all (λx=>x.1.isSome) && decide (([b]:List Expr).length+([]:List UY).length+(if([]:List UY).isEmpty then 0 else 1)<30))=true:=by intro i;rfl)
 (hline:(apos.endLine == cpos.line)=true:=by rfl) (hs:∀i,Ul [b] (X i).env = [(false,eval b (X i).env)]:=by intro i;rfl) (hsw:∀i,UB (.Call (.Attribute (.Name x px) "append" apos) [b] [] cpos) none pos.line (X i).env=pure false:=by intro i;rfl) :
 S3 K X O (.Expr (.Call (.Attribute (.Name x px) "append" apos) [b] [] cpos) pos) (appS n fb):=let ⟨_,p2,d2⟩:=hb;
 ⟨ze7 (tBM K "list" zf3 (tVar n) (zat _ tNil)),λi=>by
  have h:=zhs (apos:=apos) (cpos:=cpos) ZK PySem.F.slot_list_append PySem.F.type_list_append (zoa (X:=X i)) (zaf (pos:=px) (hN i) (hv i) hd hcd) (zaq (p2 i) zbg (hs i)) (hbase i) (hfew i) hline (hs i);rw[C.hK] at h
  exact zi6 h (hsw i),λj=>zre (d2 j)⟩
theorem zfq{X:Cx}(h:X.xe=λ_ _=>False):PassesOwn (model X.prog X.w) X.A X.env X.xe:=by rw[h];exact Y5
theorem zbv{iter:Expr}{body:List Stmt}{hh:Nat}(C:Ctx3 P w K mg base k X)(hi:J3 K X O tg iter fj)(hg:G3 K X hh tg g)(hb:Ss3 K X O body g1)(hs:∀i x,Uw iter (X i).env x=pure x:=by intro _ _;rfl):S3 K X O (.For tg iter body [] pos) (forS fj g g1):=by
 obtain⟨ti,p1,d1⟩:=hi;obtain⟨tg',p2,_,d2,_⟩:=hg;obtain⟨tb,p3,d3⟩:=hb;exact⟨_,λi=>zp8 (zfq (C.xe i)) (C.calm i) (p1 i) (p2 i) (p3 i) (hs i),λj=>zxz (d1 j) (d2 (O j)) (d3 j)⟩
theorem znr{body:List Stmt}(C:Ctx3 P w K mg base k X)(hc:T3 K X O c ft)(hb:Ss3 K X O body g1):S3 K X O (.While c body [] pos) (zp6 ft g1):=let ⟨_,p,d⟩:=hc;let ⟨_,p2,d2⟩:=hb;⟨_,λi=>zmh (zfq (C.xe i)) (p i) (p2 i),λj=>zr2 (d j) (d2 j)⟩
end
theorem len1(hl:us.length=1)(h:∀u0,U8 fd ⟨[u0],[]⟩=pure ([p0].zip [u0])):U8 fd ⟨us,[]⟩=pure ([p0].zip us):=by
 match us,hl with
 | [u0],_=>exact h u0
theorem len2(hl:us.length=2)(h:∀u0 u1,U8 fd ⟨[u0,u1],[]⟩=pure ([p0,p1].zip [u0,u1])):U8 fd ⟨us,[]⟩=pure ([p0,p1].zip us):=by
 match us,hl with
 | [u0,u1],_=>exact h u0 u1
theorem len3(hl:us.length=3)(h:∀u0 u1 u2,U8 fd ⟨[u0,u1,u2],[]⟩=pure ([p0,p1,p2].zip [u0,u1,u2])):U8 fd ⟨us,[]⟩=pure ([p0,p1,p2].zip us):=by
 match us,hl with
 | [u0,u1,u2],_=>exact h u0 u1 u2
section
variable {P:Um}{w:Uq}{K:Qa}{mg:Str->Option Uf}{base:Heap}{k n:Nat}{x:Str}{st:Stmt}{N ps:List Str}{φ:Ob->Prop}{F:List Ug->(R->Prop)->Prop}
abbrev zbw(P:Um)(w:Uq)(K:Qa)(mg:Str->Option Uf)(base:Heap)(N:List Str)(x:Str)(sc:Uz)(f:Addr)(cdv:Uf)(A:Us)(outer:List Env)(s:Ui)(H:Hp)(E:XK):Unit->Cx:=λ_=>(cxOf CX0 P w K mg base N x sc f cdv A outer s H E).nox
theorem zcu{outer:List Env}(hr:Room k (A.deeper (Go x sc s.heap.objs.size f cdv))):Ctx3 P w K mg base k (zbw P w K mg base N x sc f cdv A outer s H E) :=
 ⟨λ_=>rfl,λ_=>rfl,λ_=>rfl,λ_=>rfl,λ_=>rfl,λ_=>rfl,λ_=>hr,λ_=>rfl⟩
theorem mk_O(T:Top3 K mg x st)(S:FnScope N ps (zab st))(hb:∀(kV doc pm:Uf) (an:Option Addr) (cdv ct:Uf) (us:List Uf),us.length=ps.length->U8 (Zo x x (zbi st) (zap st) (zab st) .none kV doc pm an cdv ct) ⟨us,[]⟩=pure (ps.zip us))(hn:ps.length=n)
 (body:∀(f:Addr) (cdv:Uf) (A:Us) (outer:List Env) (s:Ui) (H:Hp) (E:XK) (O:Ob),φ O->Ctx3 P w K mg base k (zbw P w K mg base N x (zab st) f cdv A outer s H E) ->
  ∃g,Ss3 K (zbw P w K mg base N x (zab st) f cdv A outer s H E) (λ_:Unit=>O) (zap st) g/\∀ds Qr,ds.length=n->F ds Qr->g { nx:=λ_=>Qr (.o .none),rt:=Qr } (zbo N (ds.map .im))):Def3 P w K mg base (k+1) x ps (spO K φ n F):=by
 obtain⟨f,fd,Fu,m⟩:=T.ex;refine⟨f,fd,Fu.ok S (zns hn) (λcdv A outer s H vs Q E hr h=>?_),m,Fu.kp,Fu.binds hb⟩;obtain⟨O,ds,Qr,ok,hφ,p,hl,is,q,kk⟩:=h;obtain⟨g,⟨t,h1,h2⟩,h3⟩:=body f cdv A outer s H E O hφ (zcu hr);exact⟨t,h1 (),zt6 (h2 ()) ok p is (h3 ds Qr hl q) kk⟩
theorem mk_D(T:Top3 K mg x st)(S:FnScope N ps (zab st))(hb:∀(kV doc pm:Uf) (an:Option Addr) (cdv ct:Uf) (us:List Uf),us.length=ps.length->U8 (Zo x x (zbi st) (zap st) (zab st) .none kV doc pm an cdv ct) ⟨us,[]⟩=pure (ps.zip us))(hn:ps.length=n+1)
 (body:∀(f:Addr) (cdv:Uf) (A:Us) (outer:List Env) (s:Ui) (H:Hp) (E:XK) (O:Ob),φ O->Ctx3 P w K mg base k (zbw P w K mg base N x (zab st) f cdv A outer s H E) ->
  ∃g,Ss3 K (zbw P w K mg base N x (zab st) f cdv A outer s H E) (λ_:Unit=>O) (zap st) g/\∀ds Qr,ds.length=n->F ds Qr->g { nx:=λ_=>Qr (.o .none),rt:=Qr } (zbo N (.ob::ds.map .im))):Def3 P w K mg base (k+1) x ps (spD K φ n F):=by
 obtain⟨f,fd,Fu,m⟩:=T.ex;refine⟨f,fd,Fu.ok S (ziy hn) (λcdv A outer s H vs Q E hr h=>?_),m,Fu.kp,Fu.binds hb⟩;obtain⟨O,ds,ws,Qr,ok,hφ,p,hl,rfl,is,q,kk⟩:=h;obtain⟨g,⟨t,h1,h2⟩,h3⟩:=body f cdv A outer s H E O hφ (zcu hr);exact⟨t,h1 (),zzn (h2 ()) ok p is (h3 ds Qr hl q) kk⟩
end
structure PotStp(a l:Addr)(H H':Hp):Prop where
 oth:∀b,b≠a->b≠l->H' b=H b
theorem PotStp.refl(a l:Addr)(H:Hp):PotStp a l H H:=⟨λ_ _ _=>rfl⟩
theorem PotStp.trans(x:PotStp a l H H1)(y:PotStp a l H1 H2):PotStp a l H H2:=⟨λb h1 h2=>(y.oth b h1 h2).trans (x.oth b h1 h2)⟩
theorem PotStp.upA(o:HO):PotStp a l H (upd H a o):=⟨λb h1 _=>zaa h1⟩
theorem PotStp.upL(o:HO):PotStp a l H (upd H l o):=⟨λb _ h2=>zaa h2⟩
abbrev lenR(K:Qa):List V->Hp->VK->Prop:=λxs H Q=>∃x n,xs = [x]/\LenV K x H n/\Q (.int n) H
def zd7:List Ug->(R->Prop)->Prop:=λds Q=>∃m:Int,ds = [.int m]/\0<m/\m<1073741824/\∀k,0<=k->k<m->Q (.o (.int k))
theorem zo5: MtR X "list.pop" zhx:=λpins s σ H x xs v us Q I rx rv h=>zs2 pins s σ H x xs v us Q I rx rv h
theorem ztf(ns:List Int)(lo hi:Option Int):cutV (ns.map V.int) lo hi=(cutL ns lo hi).map V.int:=by
 unfold cutV cutL;rw[Qe,Yl,Va]
def abc:List Nat:=(Q7 26).map (· + 97)
def zd4(c:Nat):Prop:=97<=c/\c<123
theorem unsg:∀{zs:List Str},(∀z∈zs,∃c,z=sg c/\zd4 c)->∃w:List Nat,zs=w.map sg/\∀c∈w,zd4 c
 | [],_=>⟨[],rfl,by simp⟩
 | z::zs,h=>by
   obtain⟨c,rfl,hc⟩:=h z Ql;obtain⟨w,rfl,hw⟩:=unsg (zs:=zs) λy hy=>h y (Qc _ hy);exact⟨c::w,rfl,λd hd=>by rcases Q0.mp hd with e|e;(rw[e];exact hc);exact hw d e⟩
theorem zjr{α β:Type}(f:α->β):∀(l:List α) (i:Nat),(l.map f).eraseIdx i=(l.eraseIdx i).map f
 | [],_=>rfl
 | _::_,0=>rfl
 | a::l,i+1=>by rw[QL,J7,J7,QL,zjr f l i]
theorem zl7{α:Type}{l:List α}{i:Nat}{x:α}(h:x∈l.eraseIdx i):x∈l:=List.mem_of_mem_eraseIdx h
theorem zjl{α:Type}:∀{l:List α} {i:Nat} (h:i<l.length),([l[i]]++l.eraseIdx i).Perm l
 | a::l,0,_=>.refl _
 | a::l,i+1,h=>by
   have h':i<l.length:=by simpa using h
   have ih:=zjl (l:=l) (i:=i) h';show(l[i]::a::l.eraseIdx i).Perm (a::l);exact(List.Perm.swap a l[i] _).trans (VR a ih)
theorem zxk{a b:Nat}(h:sg a=sg b):a=b:=by
 have:=GV (λx:Str=>x.cps.toList) h;simpa[sg] using this
theorem zgn:∀{w:List Nat} {x:Nat},risingS (sg x) (w.map sg)=true->(∀c∈w,x<=c)/\w.Pairwise (·<=·)
 | [],_,_=>⟨λ_ h=>(nomatch h),.nil⟩
 | y::r,x,h=>by
   have h:(!(decide (y<x) || (y == x && false)) && risingS (sg y) (r.map sg))=true:=h;rw[VO,VW,QR,ZY,decide_eq_false_iff_not] at h;obtain⟨h1,h2⟩:=zgn (w:=r) (x:=y) h.2;refine⟨λc hc=>?_,.cons h1 h2⟩;rcases Q0.mp hc with rfl|hc
   .lia
   .have:=h1 c hc;lia
theorem zny:∀{w:List Nat},sortedS (w.map sg)=true->w.Nodup->w.Pairwise (· < ·)
 | [],_,_=>.nil
 | x::r,h,hn=>by
   obtain⟨h1,h2⟩:=zgn (w:=r) (x:=x) h;obtain⟨n1,n2⟩:=QW.mp hn;refine .cons (λc hc=>Vi (h1 c hc) λe=>n1 (e ▸ hc)) ?_;exact(List.Pairwise.and h2 n2).imp λ⟨a,b⟩=>Vi a b
theorem zup{neg:Bool}(hx:Ji x=true)(hy:Ji y=true):eqF neg (.str x) (.str y)=some (.o (.bool (if neg then !(x == y) else x == y))):=by
 unfold eqF;rw[GO (by simp[okD,YJ,JW,hx,hy])];rfl
theorem zqu(h:tx v=tx w):v=w:=by
 have:=GV (λx:Str=>x.cps.toList) h;simpa[tx] using this
theorem zwt(v w:List Nat):(tx v == tx w)=decide (v=w):=by
 by_cases e:v=w
 .subst e;simp
 .rw[GT e];exact beq_eq_false_iff_ne.mpr λh=>e (zqu h)
theorem znw{neg:Bool}{i j:Int}:eqF neg (.int i) (.int j)=some (.o (.bool (if neg then !decide (i=j) else decide (i=j)))):=by
 unfold eqF;have e:(okD (Yz i) && (Yz j).canLay0)=true:=by simp[okD,YJ,JW]
 rw[GO e];rfl
theorem zij{α:Type}{enc:α->Ug}{i:Nat}{fe:DE}{ρ:DSt}{Q:List Ug->Prop}{as:List α}{e:α->Ug}{h:Nat}(step:∀a∈as,∀P:R->Prop,(∀r,r.d=e a->P r)->fe ((Qp h none++ρ).set i (some (.im (enc a)))) P)(hz:as.length<=sizeLine)(q:Q (as.map e)):
 zbq h (gN i) yesD fe ρ Q (as.map enc) []:=by
 have key:∀(as:List α) (acc:List Ug),(∀a∈as,∀P:R->Prop,(∀r,r.d=e a->P r)->fe ((Qp h none++ρ).set i (some (.im (enc a)))) P)->acc.length+as.length<=sizeLine->Q (acc++as.map e)->zbq h (gN i) yesD fe ρ Q (as.map enc) acc:=by
  intro as
  induction as with
  | nil=>intro acc _ _ q;show Q acc;simpa using q
  | cons a as ih=>
    intro acc st hz q;rw[Qi] at hz;refine st a Ql _ λr hr=>?_;refine⟨by lia,?_⟩;rw[hr];exact ih (acc ++ [e a]) (λa' ha=>st a' (Qc _ ha)) (by rw[Qf];simp;lia) (by simpa using q)
 exact key as [] step (by simpa using hz) (by simpa using q)
theorem zaz(J:Nat->DSt->Prop)(h0:J 0 ρ)(fin:∀ρ,J ds.length ρ->Dd.nx ρ)
 (step:∀(j:Nat) d ρ (N:DSt->Prop),ds[j]? = some d->(∀ρ',J (j+1) ρ'->N ρ')->J j ρ->flat d=true/\g d ρ λρ2=>gb { Dd with nx:=N,ct:=N,bk:=Dd.nx } ρ2):zea g gb Dd ds ρ:=by
 have key:∀(k j:Nat),j+k=ds.length->∀ρ,J j ρ->zea g gb Dd (ds.drop j) ρ:=by
  intro k
  induction k with
  | zero=>
    intro j hj ρ h;rw[Zx (by lia)];have e:j=ds.length:=by lia
    rw[e] at h;exact fin ρ h
  | succ k ih=>
    intro j hj ρ h;have hlt:j<ds.length:=by lia
    rw[QJ hlt];exact step j ds[j] ρ _ (Qb hlt) (λρ' h'=>ih (j+1) (by lia) ρ' h') h
 have:=key ds.length 0 (by lia) ρ h0;simpa using this
theorem zbu(lo:Int)(n:Nat):(zfa lo n).length=n:=by simp[zfa]
theorem zux(w:List Nat):(sgs (tx w)).length=w.length:=by simp[sgs,tx]
theorem zwr{j:Nat}{d:Ug}(h:(sgs (tx w))[j]? = some d):∃c,w[j]? = some c/\d = .str (sg c):=by
 unfold sgs at h;rw[zbs,Qm] at h;obtain⟨c,hc,rfl⟩:=Qt.mp h;exact⟨c,hc,rfl⟩
theorem za1{α:Type}{f:α->Ug}(h:∀a,flat (f a)=true):∀l:List α,flats (l.map f)=true
 | []=>rfl
 | a::l=>by rw[QL,flats,h a,za1 h l];rfl
theorem zdz(w:List Nat):(tx w).length=w.length:=by simp[tx,Vg]
theorem zhy(h:w.length<=16777216):lenF [.str (tx w)]=some (.o (.int w.length)):=by
 unfold lenF;dsimp only;rw[zdz,GO (by rw[Ur];exact h)]
theorem zqp(h:v.length+w.length<=16777216):addF (.str (tx v)) (.str (tx w))=some (.o (.str (tx (v++w)))):=by
 unfold addF;dsimp only;rw[zdz,zdz,GO (by rw[Ur];exact h)]
 have e:tx v++tx w=tx (v++w):=by
  show Str.mk _=Str.mk _;simp[tx]
 rw[e]
theorem zii(n d m:Nat):HT.sIx n d (some (m:Int))=min m n:=by
 have:=zgq n d (m:Int);rw[GP (by lia)] at this;lia
theorem zsv(n d:Nat):HT.sIx n d none=d:=rfl
theorem zxm{α:Type}(xs:List α)(m:Nat):cutL xs none (some (m:Int))=xs.take m:=by
 unfold cutL;rw[zii,zsv,Je,Yy,YA,Nat.min_assoc,Nat.min_self,<- YA]
theorem zzx{v:List Nat}{lo hi:Option Int}(h:v.length<=16777216):slcF lo hi (.str (tx v))=some (.o (.str (tx (cutL v lo hi)))):=by
 unfold slcF;dsimp only;rw[zdz,zbs,GO (by rw[Ur];exact h)]
theorem ztc{α β:Type}{enc:α->Ug}{enc2:β->Ug}{good:β->Prop}{i h:Nat}{fe:DE}{ρ:DSt}{Q:List Ug->Prop}{as:List α}
 (step:∀a∈as,∀(Py:Ug->Prop),(∀b,good b->Py (enc2 b))->fe ((Qp h none++ρ).set i (some (.im (enc a)))) (λr=>Py r.d))
 (hz:as.length<=1000) (q:∀bs:List β,(∀b∈bs,good b)->bs.length=as.length->Q (bs.map enc2)):zbq h (gN i) yesD fe ρ Q (as.map enc) []:=by
 have sz:=Ur
 have key:∀(l:List α) (bs:List β),(∀a∈l,a∈as)->(∀b∈bs,good b)->bs.length+l.length=as.length->zbq h (gN i) yesD fe ρ Q (l.map enc) (bs.map enc2):=by
  intro l
  induction l with
  | nil=>intro bs _ hb hl;exact q bs hb hl
  | cons a l ih=>
    intro bs hs hb hl;rw[Qi] at hl;refine step a (hs a Ql) (λd=>(bs.map enc2).length<sizeLine/\zbq h (gN i) yesD fe ρ Q (l.map enc) (bs.map enc2 ++ [d])) λb gb=>⟨by rw[Qe];lia,?_⟩;have:=ih (bs ++ [b]) (λx hx=>hs x (Qc _ hx)) (λx hx=>by rcases Qu.mp hx with hx|hx;(exact hb x hx);(rw[Qn.mp hx];exact gb)) (by rw[Qf];simp;lia);rwa [QE] at this
 exact key as [] (λ_ h=>h) (by simp) (by simp)
section
variable {ι κ:Type}{P:Um}{w:Uq}{K:Qa}{mg:Str->Option Uf}{base:Heap}{k:Nat}{X:ι->Cx}{O:κ->Ob}{a b:Expr}{fa:DE}{pos p:Pos}{ga:DA}
theorem zvi{X:Cx}:MtR X "list.pop" rPop:=λpins s σ H x xs v us Q I rx rv h=>zwx pins s σ H x xs v us Q I rx rv h
end
section
variable {K:Qa}{O:Ob}
def extS(i:Nat)(f:DE):DS:=λDd ρ=>∃ds,ρ[i]? = some (some (.own ds))/\f ρ λr=>∃es,r.d = .list es/\flats es=true/\ds.length+es.length<=sizeLine/\Dd.nx (ρ.set i (some (.own (ds++es))))
theorem zq1{i:Nat}(h:ED K O t f):SD K O (ze7 (tBM K "list" zdp (tVar i) (zat t tNil))) (extS i f):=λH₀ A σ H ρ D Dd r q P=>by
 obtain⟨ds,e,q⟩:=q;obtain⟨v,hv,a,xs,rfl,ha,hl,hs⟩:=r.at_ i _ e;refine⟨_,hv,?_⟩;refine⟨.inl ⟨rfl,xs,.of hl⟩,?_⟩;refine h σ H ρ _ _ r.seen q λw H1 x s1 o1 zz=>?_;obtain⟨es,ed,fl,hz,q1⟩:=zz;have r1:=r.stp s1;obtain⟨v1,hv1,a1,xs1,e1,ha1,hl1,hs1⟩:=r1.at_ i _ e;rw[hv] at hv1;cases hv1;cases e1;have iw:=o1.is r.ok r.p;rw[ed] at iw
 cases iw with
 | list f1 h1 s2=>
   refine⟨a,_,xs1,_,rfl,rfl,hl1,h1,by rw[hs1.length,s2.length];exact hz,?_⟩;exact P.nx A σ _ _ (r1.change e hv ha (hs1.append (IsAll.flats (TupStay.refl H1) s2 fl))) ((Frm.stp s1).trans (.change ha)) q1
end
section
variable {ι κ:Type}{P:Um}{w:Uq}{K:Qa}{mg:Str->Option Uf}{base:Heap}{k:Nat}{X:ι->Cx}{O:κ->Ob}{a b:Expr}{fa fb:DE}{pos p:Pos}{ga:DA}
theorem zxe:Uu "max" = some (.builtin "max"):=by decide +kernel
theorem zhe{X:Cx}:MtR X "list.extend" zdp:=λpins s σ H x xs v us Q I rx rv h=>zpm pins s σ H x xs v us Q I rx rv h
theorem zt1(n:Nat){apos cpos:Pos}(C:Ctx3 P w K mg base k X)(hb:E3 K X O b fb)(hN:∀i,(X i).N[n]? = some x:=by intro i;rfl)(hv:∀i,Vis (X i).env.scope x:=by intro i;first|exact Or.inl rfl|exact Or.inr (Or.inl rfl)|exact Or.inr (Or.inr rfl))(hd:(x == ("__debug__" : Str))=false:=by decide)(hcd:(x == ("__classdict__" : Str))=false:=by decide)
 (hbase:∀i,UM (.Name x px) "extend" (X i).env (eval (.Name x px) (X i).env)=eval (.Name x px) (X i).env:=by intro i;rfl)
 (hfew:∀i,((U7 cpos (Ul [b] (X i).env)).all (λx=>!x.1) && (G8 cpos (Gd [] (X i).env)).all (λx=>x.1.isSome) && decide (([b]:List Expr).length+([]:List UY).length+(if([]:List UY).isEmpty then 0 else 1)<30))=true:=by intro i;rfl)
 (hline:(apos.endLine == cpos.line)=true:=by rfl) (hs:∀i,Ul [b] (X i).env = [(false,eval b (X i).env)]:=by intro i;rfl) (hsw:∀i,UB (.Call (.Attribute (.Name x px) "extend" apos) [b] [] cpos) none pos.line (X i).env=pure false:=by intro i;rfl) :
 S3 K X O (.Expr (.Call (.Attribute (.Name x px) "extend" apos) [b] [] cpos) pos) (extS n fb):=let ⟨_,p2,d2⟩:=hb;
 ⟨ze7 (tBM K "list" zdp (tVar n) (zat _ tNil)),λi=>by
  have h:=zhs (apos:=apos) (cpos:=cpos) ZK Ym Yn (zhe (X:=X i)) (zaf (pos:=px) (hN i) (hv i) hd hcd) (zaq (p2 i) zbg (hs i)) (hbase i) (hfew i) hline (hs i);rw[C.hK] at h
  exact zi6 h (hsw i),λj=>zq1 (d2 j)⟩
end
namespace RV
theorem zjk:G5 (.type "list_reverseiterator") "__len__" = pure none:=by rw[typeLookup_type,Gs];kernel_rfl
theorem zky:G5 (.type "list_reverseiterator") "__length_hint__" = pure (some (.builtin "list_reverseiterator.__length_hint__")):=by rw[typeLookup_type,Gs];kernel_rfl
theorem zfo:isSubtype (.type "list_reverseiterator") (.type "list_reverseiterator")=pure true:=by rw[isSubtype_type];kernel_rfl
theorem zn3:splitId "list_reverseiterator.__length_hint__" = some ("list_reverseiterator", "__length_hint__"):=by decide +kernel
theorem zwa{prog:Um}(t:s.TypeIs (.ref it) "list_reverseiterator")(q:Q false s):wpAny (model prog w) A (JX (.ref it)) Q E s:=by
 have sp:=zn3;unfold JX;refine Uh (Gr t zjk (Uh (Gr t zky ?_)));revert sp;generalize z:("list_reverseiterator.__length_hint__" : String)=nm;intro sp;dsimp only;rw[sp];subst z;exact Uh (wpAny_isInstance (b:=true) t zfo (Uo q))
theorem list_of_rev{prog:Um}{items:Array Uf}(hh:A.handled=none)(hr:s.heap.IsRevIter it l ((items.size:Int)-1))(hl:s.heap.IsList l items)(hne:l≠it)(hz:items.size<=sizeLine)
 (q:∀h' t' vs c,(∀b o,b≠it->s.heap.get? b=some o->h'.get? b=some o)->h'.get? s.heap.objs.size=some { cls:=.type "list",dict:=none,data:=.seq vs c,slots:=#[] }->ItemsOf (λi v=>items[items.size-1-i]? = some v) vs items.size->Q (.ref s.heap.objs.size) { s with heap:=h',toks:=t' }) :
 wpAny (model prog w) A (call (.type "list") [.ref it]) Q E s:=by
 have W:=(Walks.listRev (prog:=prog) (w:=w) (A:=A.in1.in1) hh it l hne items).toS
 have new:∀b o,s.heap.get? b=some o->b≠s.heap.objs.size:=λb o e z=>by
  subst z;rw[Heap.get?] at e;simp at e
 refine callType_codes (Q₁:=λv s1=>v = .ref s.heap.objs.size/\s1 = { s with heap:=s.heap.push { cls:=.type "list",data:=.seq #[] } }) F.called_list (F.typeCall_list_1 _) F.entry_list_init (code_list_new _ ⟨rfl,rfl⟩) ?_;rintro _ _ ⟨rfl,rfl⟩;refine⟨⟨_,Q1 _ rfl,rfl⟩,F.args_list_init_2 _ _,?_⟩;obtain⟨o,ho,hc,hd⟩:=id hr;have nI:s.heap.objs.size≠it:=λz=>new it _ ho z.symm;have same:Yo (.ref s.heap.objs.size) (.ref it)=false:=by simp[Yo,nI]
 have t1:Yv "list_reverseiterator" ≠ Yv "list" := by decide
 have eS:(s.heap.push { cls:=.type "list",data:=.seq #[] }).get? s.heap.objs.size=some { cls:=.type "list",data:=.seq #[] }:=Q1 _ rfl;have eI:=Qj { cls:=.type "list",data:=.seq (#[]:Array Uf) } ho;have a1:=zjk;have a2:=zky;have a3:=zfo;obtain⟨hp,g,dr,tk,os⟩:=s
 have eI2:(((hp.push { cls:=.type "list",data:=.seq #[] }).update hp.objs.size (QS λ_=>(#[]:Array Uf))).get? it)=some o:=by
  rw[ZP _ _ nI];exact eI
 have eS2:=Y8 (QS (λ_=>(#[]:Array Uf))) eS rfl;have hr2:((hp.push { cls:=.type "list",data:=.seq #[] }).update hp.objs.size (QS λ_=>(#[]:Array Uf))).IsRevIter it l ((items.size:Int)-1):=⟨o,eI2,hc,hd⟩;have hT:Shared.TypeIs ⟨((hp.push { cls:=.type "list",data:=.seq #[] }).update hp.objs.size (QS λ_=>(#[]:Array Uf))),g,dr,tk,os⟩ (.ref it) "list_reverseiterator" := ⟨o,eI2,hc⟩;unfold Builtin.«list.__init__»
 wp_walk using wpAny_pyIter_revIter hr2,Gq hT,zwa hT
 have hl2:((hp.push { cls:=.type "list",data:=.seq #[] }).update hp.objs.size (QS λ_=>(#[]:Array Uf))).IsList l items:=by
  obtain⟨ol,h1,h2⟩:=hl;refine⟨ol,?_,h2⟩;rw[ZP _ _ (λz=>new l _ h1 z.symm)];exact Qj _ h1
 have hS:hp.objs.size ∉ [it,l]:=λz=>by
  obtain⟨ol,h1,_⟩:=hl;rcases Q0.mp z with z|z
  .exact nI z
  .exact new l _ h1 (Qn.mp z).symm
 refine⟨plainId_quiet F.plain_extend_loop _,codeAny_extend_loopS W hz _ hS _ items.size 0 _ _ _ rfl (QK _) ⟨QK _,by simpa using hr2,hl2⟩ eS2 (ItemsOf.nil _) λs' vs c m e is=>⟨rfl,?_⟩⟩;obtain⟨hp',g',dr',tk',os'⟩:=s';obtain⟨m1,m2,m3,m4,m5⟩:=m;have m2:g'=g:=m2;have m3:dr'=dr:=m3;have m4:os'=os:=m4;subst m2 m3 m4;refine q hp' tk' vs c (λb ob hb eb=>m1 b ob (λz=>?_) ?_) e is
 .rcases Q0.mp z with z|z
  .exact new b _ eb z
  .exact hb (Qn.mp z)
 .show((hp.push _).update _ _).get? b=_;rw[ZP _ _ (λz=>new b _ eb z.symm)];exact Qj _ eb
theorem items_rev{its:List Uf}{vs:Array Uf}(h:ItemsOf (λi v=>its.toArray[its.toArray.size-1-i]? = some v) vs its.toArray.size):vs=its.reverse.toArray:=by
 obtain⟨h1,h2⟩:=h;apply Array.ext';apply Zw;intro i
 by_cases hi:i<vs.size
 .have e:vs.toList[i]? = some vs[i]:=by simp[hi]
  have e2:=h2 i vs[i] (by simp[hi]);rw[e,<- e2];simp at h1 e2 ⊢;rw[List.getElem?_reverse (by lia)]
 .rw[Qz (by simpa using hi)];symm;apply Qz;simp at h1 ⊢;lia
end RV
def tLR(K:Qa)(te:TE):TE:=λσ H Q=>te σ H λv H1=>∃a xs,v = .ref a/\SqL K H1 a xs/\∀p,H1 p=none->Q (.ref p) (upd H1 p (.lst xs.reverse))
theorem zos(calm:X.A.handled=none)(gl:Gl X "list")(ml:X.mg "list" = none)(gr:Gl X "reversed")(mr:X.mg "reversed" = none)(he:PE X e te)
 (s1:Ul [.Call (.Name "reversed" p2) [e] [] p3] X.env=(false,eval (.Call (.Name "reversed" p2) [e] [] p3) X.env)::Ul [] X.env:=by rfl) (s2:Ul [e] X.env=(false,eval e X.env)::Ul [] X.env:=by rfl) :
 PE X (.Call (.Name "list" p1) [.Call (.Name "reversed" p2) [e] [] p3] [] p4) (tLR X.K te):=by
 intro pins s σ H Q I h;refine Uy (zcs I gl ml (u:=.type "list") rfl ?_);refine ZO ?_ s1;rw[s1];show wpAny _ _ (GK ((false,eval (.Call (.Name "reversed" p2) [e] [] p3) X.env) :: [])) _ _ s;refine ZE ?_;refine Uy (zcs I gr mr (u:=.type "reversed") rfl ?_);refine ZO ?_ s2;rw[s2];show wpAny _ _ (GK ((false,eval e X.env) :: [])) _ _ s;refine ZE (thn (he pins s σ H _ I h) λu s' zz=>?_);obtain⟨y,H1,I1,r1,a,xs,ey,hq,q⟩:=zz;subst ey;cases r1;refine ZW ?_;obtain⟨its,rv,pl,hz⟩:=I1.list hq;have hlen:=rv.length;have isl:=pl.isList;refine call_reversed_list isl ?_;refine ZW ?_
 have new:a≠s'.heap.objs.size:=λz=>by
  obtain⟨o,ho,_⟩:=isl;exact QY _ (z ▸ Qv ho)
 have isl2:(s'.heap.push (revObj a ((its.toArray.size:Int)-1))).IsList a its.toArray:=isl.push _;refine RV.list_of_rev (s:={ s' with heap:=s'.heap.push (revObj a ((its.toArray.size:Int)-1)) }) calm ⟨_,Q1 _ rfl,rfl,rfl⟩ isl2 new (by simp;lia) λh' t' vs c kp e is=>?_;have ez:(s'.heap.push (revObj a ((its.toArray.size:Int)-1))).objs.size=s'.heap.objs.size+1:=Zm ..;have ev:=RV.items_rev is;subst ev;have kp2:∀b o,s'.heap.get? b=some o->h'.get? b=some o:=λb o eb=>kp b o (λz=>QY _ (z ▸ Qv eb)) (Qj _ eb);have fr:H1 (s'.heap.objs.size+1)=none:=I1.hok.fresh (Yi _);dsimp only at e ⊢;rw[ez] at e ⊢;exact⟨.ref (s'.heap.objs.size+1),_,I1.laid (t':=t') kp2 (Yi _) (show ObjOk X.prog X.w _ h' _ (.lst xs.reverse) from⟨by rw[List.length_reverse];exact hz,its.reverse,c,rv.reverse,e⟩),rfl,q _ fr⟩
end L3
namespace L3
open PySem PySem.Spec
open PyProof.Rows hiding St
open L2
abbrev zcc:Key:=.inr "seed"
abbrev kNum:Key:=.inr "number"
abbrev zdi:Key:=.inr "left"
def za9(seed num:Int)(l:Addr):List (Key×V):=[(zcc,.int seed),(kNum,.int num),(zdi,.ref l)]
def zhm(seed num:Int)(l:Addr):HO:=.dK (za9 seed num l)
theorem zrt(s n:Int)(l:Addr):valV (za9 s n l) zcc=some (.int s):=by simp[valV,za9,ZA]
theorem zwi(s n:Int)(l:Addr):valV (za9 s n l) kNum=some (.int n):=by
 have h1:¬(zcc=kNum):=by decide +kernel
 simp[valV,za9,ZA,h1]
theorem zsu(s n:Int)(l:Addr):valV (za9 s n l) zdi=some (.ref l):=by
 have h1:¬(zcc=zdi):=by decide +kernel
 have h2:¬(kNum=zdi):=by decide +kernel
 simp[valV,za9,ZA,h1,h2]
theorem zr8(s n s':Int)(l:Addr):putK (za9 s n l) zcc (.int s')=za9 s' n l:=by
 have h1:¬(kNum=zcc):=by decide +kernel
 have h2:¬(zdi=zcc):=by decide +kernel
 simp[putK,za9,h1,h2]
theorem zvf(s n n':Int)(l:Addr):putK (za9 s n l) kNum (.int n')=za9 s n' l:=by
 have h1:¬(zcc=kNum):=by decide +kernel
 have h2:¬(zdi=kNum):=by decide +kernel
 simp[putK,za9,h1,h2]
structure DealAt(H:Hp)(a l:Addr)(seed num:Int)(ns:List Int):Prop where
 ne:a≠l
 ha:H a=some (zhm seed num l)
 hl:H l=some (.lst (ns.map V.int))
 s0:0<=seed
 s1:seed<4294967296
 n0:0<=num
 ns0:∀n∈ns,0<=n
structure IsDeal(O:Ob):Prop where
 ex:∃a l,O.v = .ref a/\O.M a/\O.M l/\(∀H,O.P H->∃s n ns,DealAt H a l s n ns)/\∀H H' s n ns,O.P H->DealAt H' a l s n ns->(∀b,O.M b->b≠a->b≠l->H' b=H b)->O.P H'
theorem IsDeal.plus(h:IsDeal O)(D:Addr)(u:HO)(nm:¬O.M D):IsDeal (O.plus D u):=by
 obtain⟨a,l,hv,ma,ml,h1,h2⟩:=h.ex;have da:D≠a:=λe=>nm (e ▸ ma);have dl:D≠l:=λe=>nm (e ▸ ml);refine⟨a,l,hv,.inl ma,.inl ml,λH p=>h1 H p.1,λH H' s n ns p q k=>⟨h2 H H' s n ns p.1 q λb mb=>k b (.inl mb),?_⟩⟩;rw[k D (.inr rfl) da dl];exact p.2
theorem upD{κ:Type}{O:κ->Ob}(h:∀j,IsDeal (O j)):∀j,IsDeal (zf8 O j):=λj=>(h j.1.1).plus _ _ j.2
def zg4(a l:Addr):Ob:=⟨λb=>b=a\/b=l,λH=>∃s n ns,DealAt H a l s n ns,.ref a⟩
theorem zjo(a l:Addr):(zg4 a l).Ok:=by
 refine⟨λH H' e ⟨s,n,ns,p⟩=>⟨s,n,ns,p.ne,(e a (.inl rfl)).trans p.ha,(e l (.inr rfl)).trans p.hl,p.s0,p.s1,p.n0,p.ns0⟩,λH b o ⟨s,n,ns,p⟩ eb m=>?_,λH b ⟨s,n,ns,p⟩ m=>?_⟩
 .rcases m with rfl|rfl
  .rw[p.ha] at eb;cases eb;exact⟨λ_ z=>(by cases z),λ_ _ z=>(by cases z)⟩
  .rw[p.hl] at eb;cases eb;exact⟨λ_ z=>(by cases z),λ_ _ z=>(by cases z)⟩
 .rcases m with rfl|rfl
  .exact⟨_,p.ha⟩
  .exact⟨_,p.hl⟩
theorem zra(a l:Addr):IsDeal (zg4 a l):=⟨a,l,rfl,.inl rfl,.inr rfl,λ_ p=>p,λ_ _ s n ns _ q _=>⟨s,n,ns,q⟩⟩
abbrev dAt(k:Str):TE:=ztl (tVar 0) (tC (.str k))
def zxp(K:Qa):TS :=
 zlg (tAnd (zew (tOp rEq (dAt "number") (tC (.int 0)))) (zew (tOp (rI0 λi j=>.bl (decide (j<i))) (tCB (lenR K) (zat (dAt "left") tNil)) (tC (.int 0)))))
  (zkj (tVar 0) (tC (.str "number")) (tBM0 K "list" rPop (dAt "left")))
theorem zqq{s n:Int}(p:DealAt H a l s n ns)(hσ:σ[0]? = some (some (.ref a)))(q:Q (.int n) H):dAt "number" σ H Q :=
 ⟨_,hσ,a,_,rfl,.inl ⟨_,kNum,.inl p.ha,rfl,(zwi s n l).symm⟩,q⟩
theorem zi0{s n:Int}(p:DealAt H a l s n ns)(hσ:σ[0]? = some (some (.ref a)))(q:Q (.int s) H):dAt "seed" σ H Q :=
 ⟨_,hσ,a,_,rfl,.inl ⟨_,zcc,.inl p.ha,rfl,(zrt s n l).symm⟩,q⟩
theorem zne{s n:Int}(p:DealAt H a l s n ns)(hσ:σ[0]? = some (some (.ref a)))(q:Q (.ref l) H):dAt "left" σ H Q :=
 ⟨_,hσ,a,_,rfl,.inl ⟨_,zdi,.inl p.ha,rfl,(zsu s n l).symm⟩,q⟩
theorem zql(s n:Int)(l:Addr):(za9 s n l).length<sizeLine:=by rw[Ur];show 3<16777216;decide
theorem DealAt.setN{s n:Int}(p:DealAt H a l s n ns){n':Int}(h:0<=n'):DealAt (upd H a (zhm s n' l)) a l s n' ns :=
 ⟨p.ne,zac,by rw[zaa (Zr p.ne)];exact p.hl,p.s0,p.s1,h,p.ns0⟩
theorem DealAt.setS{s n:Int}(p:DealAt H a l s n ns){s':Int}(h:0<=s')(h2:s'<4294967296):DealAt (upd H a (zhm s' n l)) a l s' n ns :=
 ⟨p.ne,zac,by rw[zaa (Zr p.ne)];exact p.hl,h,h2,p.n0,p.ns0⟩
theorem ztx{s n:Int}(p:DealAt H a l s n ns)(n':Int):DPut H a (.str "number") (.int n') (upd H a (zhm s n' l)) :=
 .inl ⟨_,kNum,p.ha,rfl,zql s n l,by rw[zvf];rfl⟩
theorem z0r{s n:Int}(p:DealAt H a l s n ns)(s':Int):DPut H a (.str "seed") (.int s') (upd H a (zhm s' n l)) :=
 .inl ⟨_,zcc,p.ha,rfl,zql s n l,by rw[zr8];rfl⟩
theorem zr6{s n s' n':Int}(ma:O.M a)(ml:O.M l)(h2:∀H H' s n ns,O.P H->DealAt H' a l s n ns->(∀b,O.M b->b≠a->b≠l->H' b=H b)->O.P H')(p:DealAt H a l s n ns)(p':DealAt H' a l s' n' ns')(st:PotStp a l H H'):Stp O H H':=by
 refine⟨λb o e nm=>?_,λpp=>h2 H H' _ _ _ pp p' λb _ h3 h4=>st.oth b h3 h4,λb u hu e=>?_⟩
 .rw[st.oth b (λz=>nm (z ▸ ma)) λz=>nm (z ▸ ml)];exact e
 .rw[st.oth b (λz=>?_) λz=>?_]
  .exact e
  .rw[z,p.ha] at e;cases e;obtain⟨xs,e1|⟨o,e1⟩⟩:=hu <;> cases e1
  .rw[z,p.hl] at e;cases e;obtain⟨xs,e1|⟨o,e1⟩⟩:=hu <;> cases e1
theorem upd2(H:Hp)(a:Addr)(x y:HO):upd (upd H a x) a y=upd H a y:=by
 funext b
 by_cases e:b=a
 .subst e;rw[zac,zac]
 .rw[zaa e,zaa e,zaa e]
theorem zhr{K:Qa}{c:Addr}{ns:List Int}{σ:St}{H:Hp}{tf:TT}{te:TE}{G:Addr->Hp->Prop}(p:Int->Bool)(f:Int->Int)(hS:SqL K H c (ns.map V.int))(hz:ns.length<=63)
 (ht:∀n H' R,R (p n) H'->tf (some (.int n)::σ) H' R) (he:∀n H' R,R (V.int (f n)) H'->te (some (.int n)::σ) H' R)
 (q:∀D,H D=none->G D (upd H D (.lst (((ns.filter p).map f).map V.int)))) :
 ∀D,H D=none->∃W:Nat->Nat->List V->Hp->Prop,(∃m,W 0 m [] (upd H D (.lst [])))/\∀i m ys H',W i m ys H'->H' D=some (.lst ys)/\(((Itl K c).stop i H'/\G D H')\/((Itl K c).go i H'/\∀x H'',(Itl K c).yld i H' x H''->za0 0 x (Qp 1 none++σ) H'' λσ2 H2=>tf σ2 H2 λb H3=>
   if b=true then te σ2 H3 λy H4=>H4 D=some (.lst ys)/\ys.length<sizeLine/\∃m',m'<m/\W (i+1) m' (ys ++ [y]) (upd H4 D (.lst (ys ++ [y]))) else ∃m',m'<m/\W (i+1) m' ys H3)):=by
 intro D hD;have sz:=Ur;refine⟨λi m ys H'=>m=ns.length-i/\i<=ns.length/\ys=(((ns.take i).filter p).map f).map V.int/\H'=upd H D (.lst ys),⟨_,rfl,QK _,rfl,rfl⟩,?_⟩;rintro i m ys H' ⟨rfl,hi,rfl,rfl⟩;refine⟨zac,?_⟩;have hS':=(L3.same_new hD (.lst ((((ns.take i).filter p).map f).map V.int))).seq hS
 by_cases lt:i<ns.length
 .right;refine⟨⟨_,.int ns[i],hS',by rw[Qm,Qb lt];rfl⟩,λx H'' ⟨e,y⟩=>?_⟩;subst e;have ex:=y _ hS';rw[Qm,Qb lt] at ex;cases ex;show tf (some (.int ns[i])::σ) _ _
  have et:(ns.take (i+1)).filter p=(ns.take i).filter p++(if p ns[i]=true then[ns[i]] else[]):=by
   rw[Zh lt,ZS,Zs];rfl
  refine ht _ _ _ ?_
  by_cases cc:p ns[i]=true
  .rw[GO cc] at et ⊢;have hlen:((ns.take i).filter p).length<=ns.length:=Qy (Jm _ _) (by rw[Q8];lia);refine he _ _ _ ⟨zac,by rw[Qe,Qe];lia,ns.length-(i+1),by lia,rfl,lt,?_,upd2 _ _ _ _⟩;rw[et,QE,QE];rfl
  .rw[GP cc] at et ⊢;rw[Qx] at et;exact⟨ns.length-(i+1),by lia,rfl,lt,by rw[et],rfl⟩
 .left;have e:i=ns.length:=by lia
  subst e;refine⟨⟨_,hS',by rw[Qe];exact Qg _⟩,?_⟩;rw[QT];exact q D hD
abbrev ztp:List V->Hp->VK->Prop:=λxs H Q=>∃i j,xs = [.int i,.int j]/\Q (.int (if j > i then j else i)) H
def zhp(K:Qa):Sp:=λvs H Q _=>∃(a:Addr) (ns:List Int),vs = [.ref a,.int 0]/\SqL K H a (ns.map V.int)/\ns.length<=63/\∀p l s left H',H p=none->H l=none->Same H H'->DealAt H' p l s 0 left->Q (.ref p) H'
structure DC where
 (cb cc ce m2 m3 m4:Int)
structure DC.Ok(c:DC):Prop where
 (cc:-(2 ^ 64)<c.cc/\c.cc<2 ^ 64) 
 (m2:0<c.m2/\c.m2<4294967296)
 (m3:0<c.m3/\c.m3<4294967296)
 (m4:0<c.m4/\c.m4<4294967296)
def zir(K:Qa)(c:DC):TS :=
 tSeq (tAsg (dAt "number") (za0 2))
 (tSeq (tIfS (zew (tOp (rI0 λi j=>.bl (decide (j<i))) (tVar 2) (tC (.int 0))))
  (tSeq (zkj (tVar 0) (tC (.str "number")) (tOp (rI CDiv λi j=>.int (i / j)) (tVar 2) (tVar 1))) (tRet (tOp (rI (λ_ j=>0<j) λi j=>.int (i % j)) (tVar 2) (tVar 1)))) zog)
 (tSeq (tAsg (tOp (rI (λ_ j=>0<j) λi j=>.int (i % j)) (tOp (rI0 λi j=>.int (i+j)) (tOp (rI CMul λi j=>.int (i * j)) (dAt "seed") (tC (.int 48271))) (tC (.int c.cb))) (tC (.int 2147483647))) (za0 3))
 (tSeq (zkj (tVar 0) (tC (.str "seed")) (tOp (rI (λ_ j=>0<j) λi j=>.int (i % j)) (tOp (rI0 λi j=>.int (i+j)) (tOp (rI CMul λi j=>.int (i * j)) (tVar 3) (tC (.int c.cc))) (tC (.int c.ce))) (tC (.int c.m2))))
 (tSeq (tAsg (tOp (rI (λ_ j=>0<j) λi j=>.int (i % j)) (tOp (rI CMul λi j=>.int (i * j)) (dAt "seed") (dAt "seed")) (tC (.int c.m3))) (za0 4))
 (tRet (tOp (rI (λ_ j=>0<j) λi j=>.int (i % j)) (tOp (rI0 λi j=>.int (i+j)) (tOp (rI CMul λi j=>.int (i * j)) (tOp (rI (λ_ j=>0<j) λi j=>.int (i % j)) (tOp (rI CMul λi j=>.int (i * j)) (tVar 3) (tVar 3)) (tC (.int c.m4))) (tC (.int c.m3))) (tVar 4)) (tVar 1)))))))
def zil(K:Qa)(c:DC):TS:=tSeq (zxp K) (zir K c)
theorem zqw{K:Qa}{c:DC}(hc:c.Ok){H:Hp}{a l:Addr}{s n:Int}{ns:List Int}{m:Int}{D:Ends}(p:DealAt H a l s n ns)(m0:0<m)(m1:m<1073741824)
 (q:∀k H' s' n' ns',0<=k->k<m->DealAt H' a l s' n' ns'->PotStp a l H H'->D.rt (.int k) H'):zir K c D [some (.ref a),some (.int m),none,none,none] H:=by
 refine zqq p rfl ?_;refine⟨_,rfl,n,0,rfl,rfl,_,rfl,?_⟩;refine ite2 (λ_=>?_) (λ_=>?_)
 .refine⟨_,rfl,_,rfl,n,m,rfl,rfl,⟨m0,m1⟩,?_⟩;refine⟨_,rfl,a,_,rfl,ztx p _,?_⟩;exact⟨_,rfl,_,rfl,n,m,rfl,rfl,m0,q _ _ s _ ns (Jk _ (by lia)) (ZT _ m0) (p.setN (Int.ediv_nonneg p.n0 (by lia))) (.upA _)⟩
 .have s0:=p.s0;have s1:=p.s1;refine zi0 p rfl ?_;refine⟨s,48271,rfl,rfl,.inl ⟨by lia,by lia⟩,?_⟩;refine⟨_,_,rfl,rfl,_,_,rfl,rfl,(show(0:Int)<2147483647 by decide),?_⟩;dsimp only;have e0:0<=(s * 48271+c.cb) % 2147483647:=Jk _ (by decide);have e1:(s * 48271+c.cb) % 2147483647<2147483647:=ZT _ (by decide);generalize (s * 48271+c.cb) % 2147483647=one at e0 e1;have hm2:=hc.m2;have hm3:=hc.m3;have hm4:=hc.m4;refine⟨_,rfl,one,c.cc,rfl,rfl,.inl ⟨by lia,by lia⟩,?_⟩;refine⟨_,_,rfl,rfl,_,_,rfl,rfl,hm2.1,?_⟩;dsimp only;have f0:0<=(one * c.cc+c.ce) % c.m2:=Jk _ (by lia);have f1:(one * c.cc+c.ce) % c.m2<c.m2:=ZT _ hm2.1;generalize (one * c.cc+c.ce) % c.m2=sd at f0 f1;refine⟨_,rfl,a,_,rfl,z0r p _,?_⟩;have p2:=p.setS (s':=sd) (by lia) (by lia);refine zi0 p2 rfl (zi0 p2 rfl ?_);refine⟨sd,sd,rfl,rfl,.inl ⟨by lia,by lia⟩,_,_,rfl,rfl,hm3.1,?_⟩;have g0:0<=one * one % c.m4:=Jk _ (by lia);have g1:one * one % c.m4<c.m4:=ZT _ hm4.1;refine⟨_,rfl,_,rfl,one,one,rfl,rfl,.inl ⟨by lia,by lia⟩,?_⟩;refine⟨_,_,rfl,rfl,hm4.1,_,_,rfl,rfl,.inl ⟨by lia,by lia⟩,?_⟩;refine⟨_,rfl,_,_,rfl,rfl,_,rfl,_,_,rfl,rfl,m0,?_⟩;exact q _ _ _ _ _ (Jk _ (by lia)) (ZT _ m0) p2 (.upA _)
theorem zsi{K:Qa}{dc:DC}(hc:dc.Ok){H:Hp}{a l:Addr}{s n:Int}{ns:List Int}{m:Int}{D:Ends}(p:DealAt H a l s n ns)(m0:0<m)(m1:m<1073741824)
 (q:∀k H' s' n' ns',0<=k->k<m->DealAt H' a l s' n' ns'->PotStp a l H H'->D.rt (.int k) H'):zil K dc D [some (.ref a),some (.int m),none,none,none] H:=by
 refine⟨λc σ H'=>σ = [some (.ref a),some (.int m),none,none,none]/\∃s n ns,c=ns.length/\DealAt H' a l s n ns/\PotStp a l H H',⟨_,rfl,s,n,ns,rfl,p,.refl _ _ _⟩,?_⟩;rintro c σ H1 ⟨rfl,s,n,ns,rfl,p,st⟩;have out:zir K dc D [some (.ref a),some (.int m),none,none,none] H1:=zqw hc p m0 m1 λk H' s' n' ns' h1 h2 h3 h4=>q k H' s' n' ns' h1 h2 h3 (st.trans h4);refine zqq p rfl ?_;refine⟨rfl,_,rfl,?_⟩;refine ite2 (λc=>?_) (λc=>iteF out);refine zne p rfl ?_;refine⟨_,_,rfl,.inl ⟨_,.of p.hl,rfl⟩,_,_,rfl,rfl,_,rfl,?_⟩;refine ite2 (λc2=>?_) (λc2=>out);have c3:=GQ c2;have hne:ns≠[]:=λe=>by rw[e] at c3;simp at c3
 obtain⟨r,x,rfl⟩:∃r x,ns=r ++ [x]:=⟨ns.dropLast,ns.getLast hne,(Ze hne).symm⟩;refine⟨λσ' H'=>σ' = [some (.ref a),some (.int m),none,none,none]/\∃s n ns,ns.length<(r ++ [x]).length/\DealAt H' a l s n ns/\PotStp a l H H',λσ' H' ⟨e,s,n,ns,hl,h1,h2⟩=>⟨_,hl,e,s,n,ns,rfl,h1,h2⟩,?_⟩;refine zne p rfl ?_;have p1:DealAt (upd H1 l (.lst ((r ++ [x]).map V.int).dropLast)) a l s n r:=⟨p.ne,by rw[zaa p.ne];exact p.ha,by rw[zac,QE];show some (HO.lst (List.dropLast (_ ++ [V.int x])))=_;rw[List.dropLast_concat],p.s0,p.s1,p.n0,λz hz=>p.ns0 z (Q9 _ hz)⟩;refine⟨.inl ⟨rfl,_,.of p.hl⟩,l,_,.int x,rfl,rfl,p.hl,by simp,?_⟩;refine⟨_,rfl,a,_,rfl,ztx p1 x,rfl,s,x,r,by simp,p1.setN (p.ns0 x (by simp)),st.trans (PotStp.trans (.upL _) (.upA _))⟩
theorem zm1{K:Qa}{c:DC}(hc:c.Ok){O:Ob}{H:Hp}{ds:List Ug}{ws:List V}{Qr:R->Prop}{Q:VK}{x1 x2 x3 x4 x5:Str}(hφ:IsDeal O)(p:O.P H)(is:IsAll K (unM O) H ws ds)(q:zd7 ds Qr)(kk:∀r,Qr r->∀v H',Stp O H H'->Out K O H H' v r->Q v H'):
 zil K c { nx:=λ_ H'=>Q .non H',rt:=Q } (L2.start [x1,x2,x3,x4,x5] (O.v::ws)) H:=by
 obtain⟨m,rfl,m0,m1,q⟩:=q;obtain⟨a,l,hv,ma,ml,h1,h2⟩:=hφ.ex;obtain⟨s,n,ns,pa⟩:=h1 H p;obtain⟨v,rfl,iv⟩:=za7 is;cases iv;rw[hv];exact zsi hc pa m0 m1 λk H' s' n' ns' k0 k1 p' st=>kk _ (q k k0 k1) _ H' (zr6 ma ml h2 pa p' st) (Is.int k)
def zqf(K:Qa)(ti ts:TE):TS :=
 tSeq (tAsg (zdh 1 (zb2 K (tSl (rSlL K) (tVar 0) (zkk (tVar 1)) (zkk (tC (.int 63))))) (za0 0) tYes (tCB ztp (zat (tVar 0) (zat (tOp (rI0 λi j=>.int (i-j)) (tC (.int 0)) (tVar 0)) tNil)))) (za0 2))
 (tSeq (tAsg ti (za0 3))
 (tSeq (tFor (zb2 K (tVar 2)) (za0 4)
  (tAsg ts (za0 3)))
 (tRet (zt5 [(tC (.str "seed"),tVar 3),(tC (.str "number"),tC (.int 0)),(tC (.str "left"),tLR K (zdh 1 (zb2 K (tVar 2)) (za0 0) (zew (tOp (rI0 λi j=>.bl (decide (j<=i))) (tVar 0) (tOp (rI CPow λi j=>.int (i ^ j.toNat)) (tC (.int 10)) (tC (.int 18))))) (tVar 0)))]))))
theorem zn8{K:Qa}{ti ts:TE}{s0:Int}(hs0:0<=s0)(hs1:s0<4294967296)(hi:∀(v v1:V) H Q,Q (.int s0) H->ti [some v,some (.int 0),some v1,none,none] H Q)(hst:∀(v v1:V) (s n:Int) H Q,0<=s->s<4294967296->(∀s',0<=s'->s'<4294967296->Q (.int s') H)->ts [some v,some (.int 0),some v1,some (.int s),some (.int n)] H Q){H:Hp}{Q:VK}{a:Addr}{ns:List Int}(hS:SqL K H a (ns.map V.int))(hl:ns.length<=63)
 (q:∀p l s left H',H p=none->H l=none->Same H H'->DealAt H' p l s 0 left->Q (.ref p) H'):zqf K ti ts { nx:=λ_ H'=>Q .non H',rt:=Q } [some (.ref a),some (.int 0),none,none,none] H:=by
 have sL:=Ur;refine⟨_,rfl,_,rfl,_,rfl,63,rfl,a,_,rfl,hS,λc hc=>?_⟩;rw[ztf]
 have hcl:(cutL ns (some 0) (some 63)).length<=63:=by
  unfold cutL;rw[Q8,Zd];lia
 generalize cutL ns (some 0) (some 63)=cs at hcl;refine⟨c,rfl,⟨_,.of zac⟩,?_⟩;have g1:Same H (upd H c (.lst (cs.map V.int))):=L3.same_new hc _;refine zhr (K:=K) (c:=c) (H:=upd H c (.lst (cs.map V.int))) (σ:=[some (.ref a),some (.int 0),none,none,none]) (tf:=tYes) (te:=tCB ztp (zat (tVar 0) (zat (tOp (rI0 λi j=>.int (i-j)) (tC (.int 0)) (tVar 0)) tNil))) (λ_=>true) (λn=>if 0-n > n then 0-n else n) (.of zac) hcl (λn H' R r=>r) (λn H' R r=>⟨_,rfl,_,rfl,0,n,rfl,rfl,n,0-n,rfl,r⟩) λd hd=>?_;have hcs:cs.filter (λ_=>true)=cs:=List.filter_eq_self.mpr λ_ _=>rfl;rw[hcs]
 have habs:∀n∈cs.map (λn=>if 0-n > n then 0-n else n),0<=n:=λn hn=>by
  obtain⟨m,_,rfl⟩:=QD.mp hn
  split <;> lia
 have hal:(cs.map (λn=>if 0-n > n then 0-n else n)).length<=63:=by rw[Qe];exact hcl
 generalize cs.map (λn=>if 0-n > n then 0-n else n)=es at habs hal;have g2:Same H (upd (upd H c (.lst (cs.map V.int))) d (.lst (es.map V.int))):=g1.trans (L3.same_new hd _);generalize eH:upd (upd H c (.lst (cs.map V.int))) d (.lst (es.map V.int))=H1 at g2;have hd1:H1 d=some (.lst (es.map V.int)):=by rw[<- eH];exact zac
 refine hi _ _ _ _ ?_;refine⟨_,rfl,d,rfl,⟨_,.of hd1⟩,?_⟩;refine zr7 (xs:=es.map V.int) (λi σ H'=>∃(s:Int) (o:Option V),σ = [some (.ref a),some (.int 0),some (.ref d),some (.int s),o]/\0<=s/\s<4294967296/\H'=H1) ?_ ?_ ?_ ?_
 .exact⟨_,none,rfl,hs0,hs1,rfl⟩
 .rintro i σ H' hi ⟨s,o,rfl,h1,h2,rfl⟩;exact .of hd1
 .rintro i x σ H' hx ⟨s,o,rfl,h1,h2,rfl⟩;rw[Qm] at hx;obtain⟨n,hn,rfl⟩:=Qt.mp hx;exact hst _ _ s n _ _ h1 h2 λs' f0 f1=>⟨_,_,rfl,f0,f1,rfl⟩
 .rintro σ H' ⟨s,o,rfl,h1,h2,rfl⟩;intro p hp;have npd:p≠d:=λz=>by rw[z,hd1] at hp;cases hp
  refine⟨_,rfl,?_⟩;have hd2:upd H' p (.dK []) d=some (.lst (es.map V.int)):=by rw[zaa (Zr npd)];exact hd1
  refine⟨_,rfl,d,rfl,⟨_,.of hd2⟩,?_⟩;refine zhr (tf:=zew (tOp (rI0 λi j=>.bl (decide (j<=i))) (tVar 0) (tOp (rI CPow λi j=>.int (i ^ j.toNat)) (tC (.int 10)) (tC (.int 18))))) (te:=tVar 0) (λn=>decide ((10:Int) ^ (18:Int).toNat<=n)) (λn=>n) (.of hd2) hal (λn H' R r=>⟨_,rfl,10,18,rfl,rfl,⟨by decide,by decide,by decide⟩,_,_,rfl,rfl,_,rfl,r⟩) (λn H' R r=>⟨_,rfl,r⟩) λe he=>?_;rw[List.map_id'];have hfl:∀n∈es.filter (λn=>decide ((10:Int) ^ (18:Int).toNat<=n)),0<=n:=λn hn=>habs n (Z6.mp hn).1;generalize es.filter (λn=>decide ((10:Int) ^ (18:Int).toNat<=n))=left at hfl;have npe:p≠e:=λz=>by rw[<- z,zac] at he;cases he
  refine⟨e,_,rfl,.of zac,λl hln=>?_⟩
  have npl:p≠l:=λz=>by
   rw[<- z,zaa npe,zac] at hln;cases hln
  have nel:e≠l:=λz=>by rw[<- z,zac] at hln;cases hln
  have hlp:upd H' p (.dK []) l=none:=by rw[zaa (Zr nel)] at hln;exact hln
  have hlH:H' l=none:=by rw[zaa (Zr npl)] at hlp;exact hlp
  refine⟨by rw[zaa npl,zaa npe];exact zac,za9 s 0 l,rfl,by show 3<=15;decide,?_⟩
  have em:zdu [] (za9 s 0 l)=za9 s 0 l:=by
   have a1:¬(zcc=kNum):=by decide +kernel
   have a2:¬(zcc=zdi):=by decide +kernel
   have a3:¬(kNum=zdi):=by decide +kernel
   simp[zdu,za9,putK,a1,a2,a3]
  rw[em];have heH:H' e=none:=by rw[zaa (Zr npe)] at he;exact he
  have hm:(left.map V.int).reverse=left.reverse.map V.int:=V6.symm;rw[hm];refine q p l s left.reverse _ (g2.free hp) (g2.free hlH) (λb o eb=>?_) ⟨npl,zac,?_,h1,h2,Int.le_refl 0,λn hn=>hfl n (V7.mp hn)⟩
  .have e1:=g2 b o eb;have n1:b≠p:=λz=>by rw[z,hp] at e1;cases e1
   have n2:b≠l:=λz=>by rw[z,hlH] at e1;cases e1
   have n3:b≠e:=λz=>by rw[z,heH] at e1;cases e1
   rw[zaa n1,zaa n2,zaa n3,zaa n1];exact e1
  .rw[zaa (Zr npl)];exact zac
def zd5:List Ug->(R->Prop)->Prop:=λds Q=>ds = []/\∀w:List Nat,1<=w.length->w.length<=3->(∀c∈w,zd4 c)->w.Pairwise (· < ·)->Q (.n (w.map λc=>.str (sg c)))
def zfk(K:Qa)(drawSp:Sp):TS :=
 tSeq (tAsg (tCB zk0 (zat (tC (.str "abcdefghijklmnopqrstuvwxyz")) tNil)) (za0 1))
 (tRet (tCB zpe (zat (zdh 1 (zn1 (zat (tOp (rI0 λi j=>.int (i+j)) (tC (.int 1)) (zb4 drawSp [] E0 (zat (tVar 0) (zat (tC (.int 3)) tNil)))) tNil)) (za0 0) tYes (tBM K "list" zhx (tVar 2) (zat (zb4 drawSp [] E0 (zat (tVar 1) (zat (tCB (lenR K) (zat (tVar 2) tNil)) tNil))) tNil))) tNil)))
theorem zj2{K:Qa}{φ:Ob->Prop}(hp:∀(O:Ob) (D:Addr) (u:HO),φ O->¬O.M D->φ (O.plus D u)){O:Ob}{H:Hp}{ds:List Ug}{ws:List V}{Qr:R->Prop}{Q:VK}{x1 x2:Str}(ok:O.Ok)(hφ:φ O)(p:O.P H)(is:IsAll K (unM O) H ws ds)(q:zd5 ds Qr)(kk:∀r,Qr r->∀v H',Stp O H H'->Out K O H H' v r->Q v H'):
 zfk K (spD K φ 1 zd7) { nx:=λ_ H'=>Q .non H',rt:=Q } (L2.start [x1,x2] (O.v::ws)) H:=by
 obtain⟨rfl,q⟩:=q;cases is;have hsz:sizeLine=16777216:=Ur;refine⟨_,rfl,by decide,λl hl=>?_⟩;have eabc:(JU "abcdefghijklmnopqrstuvwxyz").cps.toList=abc:=by decide +kernel
 rw[eabc];have sl:Stp O H (upd H l (.lst (abc.map λc=>V.str (sg c)))):=.new ok hl _;have nMl:¬O.M l:=λmm=>by obtain⟨o,z⟩:=ok.here H l p mm;rw[hl] at z;cases z
 have al:∀b o,H b=some o->b≠l:=λb o e z=>by rw[z,hl] at e;cases e
 have okl:=ok.plus l (abc.map λc=>V.str (sg c));have hpl:φ (O.plus l (.lst (abc.map λc=>V.str (sg c)))):=hp _ l _ hφ nMl;have pl0:(O.plus l (.lst (abc.map λc=>V.str (sg c)))).P (upd H l (.lst (abc.map λc=>V.str (sg c)))):=⟨sl.p p,zac⟩;refine⟨_,rfl,?_⟩;show spD K φ 1 zd7 ([O.v,V.int 3] ++ []) _ _ E0;refine⟨_,[.int 3],[.int 3],λx=>∃k:Int,x = .o (.int k)/\0<=k/\k<3,okl,hpl,pl0,rfl,rfl,.cons (.int _) .nil,⟨_,rfl,by lia,by lia,λk k0 k1=>⟨k,rfl,k0,k1⟩⟩,?_⟩;rintro _ ⟨k,rfl,k0,k1⟩ v H0 st0 o0;cases o0;obtain⟨p0,hl0⟩:=st0.p pl0;refine⟨_,_,rfl,rfl,?_⟩;obtain⟨m,em⟩:∃m:Int,m=1+k:=⟨_,rfl⟩;refine⟨m,by rw[em],by lia,by lia,λD hD=>?_⟩
 have kp0:∀b o,H b=some o->¬O.M b->H0 b=some o:=λb o e n=>st0.s b o (by rw[zaa (al b o e)];exact e) λmm=>by
  rcases mm with mm|mm
  .exact n mm
  .exact al b o e mm
 have ts0:TupStay H H0:=λb u hu e=>st0.t b u hu (by rw[zaa (al b u e)];exact e);have nlD:l≠D:=λz=>by rw[<- z,hl0] at hD;cases hD
 have nMD:¬O.M D:=λmm=>by obtain⟨o,z⟩:=ok.here H0 D p0 mm;rw[hD] at z;cases z
 have hDH:H D=none:=by
  cases e:H D with
  | none=>rfl
  | some o=>have:=kp0 D o e nMD;rw[hD] at this;cases this
 have aD:∀b o,H b=some o->b≠D:=λb o e z=>by rw[z,hDH] at e;cases e
 have pl:∀{H':Hp} {b:Addr} {o:HO},¬O.M b->O.P H'->O.P (upd H' b o):=λ{H' b o} nb pp=>ok.loc H' _ (λc mc=>zaa λz=>nb (z ▸ mc)) pp
 refine⟨λi c ys H'=>c=m.toNat-i/\i<=m.toNat/\H' D=some (.lst ys)/\(∃w r:List Nat,ys=w.map (λc=>V.str (sg c))/\w.length=i/\(∀c∈w,zd4 c)/\H' l=some (.lst (r.map λc=>V.str (sg c)))/\r.length+i=26/\(∀c∈r,zd4 c)/\(w++r).Nodup) /\
  O.P H'/\(∀b o,H b=some o->¬O.M b->H' b=some o)/\TupStay H H',⟨_,rfl,QK _,zac,⟨[],abc,rfl,rfl,by simp,by rw[zaa nlD];exact hl0,rfl,by unfold zd4;decide,by decide⟩,pl nMD p0,λb o e n=>?_,λb u _ e=>?_⟩,?_⟩
 .rw[zaa (aD b o e)];exact kp0 b o e n
 .rw[zaa (aD b u e)];exact ts0 b u ‹_› e
 rintro i c ys H' ⟨rfl,hi,hDy,⟨w,r,rfl,hw,hwl,hr,hrl,hrc,hnd⟩,pp,kp,ts⟩;refine⟨hDy,?_⟩
 by_cases hlt:i<m.toNat
 .right;refine⟨hlt,λx H2 zz=>?_⟩;obtain⟨e2,_⟩:=zz;subst e2;have hr0:0<r.length:=by lia
  show tBM K "list" zhx (tVar 2) _ _ H2 _;refine⟨_,rfl,.inl ⟨rfl,_,.of hr⟩,_,rfl,?_⟩;refine⟨_,rfl,_,r.length,rfl,.inl ⟨_,.of hr,by rw[Qe]⟩,?_⟩;have okp:=(ok.plus D (w.map λc=>V.str (sg c))).plus l (r.map λc=>V.str (sg c))
  have nl2:¬(O.plus D (.lst (w.map λc=>V.str (sg c)))).M l:=λmm=>by
   rcases mm with mm|mm
   .exact nMl mm
   .exact nlD mm
  show spD K φ 1 zd7 ([O.v,V.int r.length] ++ []) H2 _ E0;refine⟨_,[.int r.length],[.int r.length],λx=>∃k:Int,x = .o (.int k)/\0<=k/\k<r.length,okp,hp _ l _ (hp _ D _ hφ nMD) nl2,⟨⟨pp,hDy⟩,hr⟩,rfl,rfl,.cons (.int _) .nil,⟨_,rfl,by lia,by lia,λk k0 k1=>⟨k,rfl,k0,k1⟩⟩,?_⟩;rintro _ ⟨k,rfl,k0,k1⟩ v H3 st o3;cases o3;obtain⟨⟨p3,hD3⟩,hl3⟩:=st.p ⟨⟨pp,hDy⟩,hr⟩;have hk:k.toNat<r.length:=by lia
  have ek:k=((k.toNat:Nat):Int):=by lia
  refine⟨l,_,k,k.toNat,V.str (sg r[k.toNat]),rfl,rfl,hl3,by lia,by lia,?_,by rw[Qm,Qb hk];rfl,?_⟩
  .rw[Qe];unfold GD;simp only[show ¬k<0 by lia,GX]
   first|(rw[GO (by lia)])|(simp;lia)|lia
  .have ne1:D≠l:=Zr nlD;refine⟨by rw[zaa ne1];exact hD3,by rw[Qe];lia,m.toNat-(i+1),by lia,rfl,hlt,zac,⟨w ++ [r[k.toNat]],r.eraseIdx k.toNat,by rw[QE];rfl,by rw[Qf,hw];rfl,λc hc=>?_,?_,?_,λc hc=>hrc c (zl7 hc),?_⟩,pl nMD (pl nMl p3),λb o e n=>?_,λb u hu e=>?_⟩
   .rcases Qu.mp hc with hc|hc
    .exact hwl c hc
    .rw[Qn.mp hc];exact hrc _ (JK hk)
   .rw[zaa nlD,zac,zjr]
   .rw[List.length_eraseIdx];rw[GO hk];lia
   .rw[Qo];refine(List.Perm.nodup_iff (List.Perm.append_left w ?_)).mp hnd;exact(zjl hk).symm
   .rw[zaa (aD b o e),zaa (al b o e)]
    exact st.s b o (kp b o e n) λmm=>by
     rcases mm with (mm|mm)|mm
     .exact n mm
     .exact aD b o e mm
     .exact al b o e mm
   .rw[zaa (aD b u e),zaa (al b u e)];exact st.t b u hu (ts b u hu e)
 .left;have e:i=m.toNat:=by lia
  refine⟨by show m.toNat<=i;lia,?_⟩;refine⟨D,w.map sg,rfl,by rw[hDy,ZG];rfl,by rw[Qe];lia,λzs z hpm hs hz=>?_⟩
  obtain⟨w2,rfl,hw2⟩:=unsg (zs:=zs) λy hy=>by
   obtain⟨c,hc,rfl⟩:=QD.mp (hpm.mem_iff.mp hy);exact⟨c,rfl,hwl c hc⟩
  have hlen:w2.length=w.length:=by have:=hpm.length_eq;simpa using this
  have hinc:w2.Pairwise (· < ·):=by
   refine zny hs ?_;have hw1:(w.map sg).Nodup:=JD.mpr ((Z9.mp hnd).1.imp λne e=>ne (zxk e));have hw3:(w2.map sg).Nodup:=hpm.symm.nodup_iff.mp hw1;exact(JD.mp hw3).imp λne e=>ne (GV sg e)
  have az:∀b o,H b=some o->¬O.M b->b≠z:=λb o eb n e2=>by rw[e2] at eb;have:=kp z o eb (e2 ▸ n);rw[hz] at this;cases this
  have nMz:¬O.M z:=λmm=>by obtain⟨o,y⟩:=ok.here H' z pp mm;rw[hz] at y;cases y
  have hzH:H z=none:=by
   cases e:H z with
   | none=>rfl
   | some o=>have:=kp z o e nMz;rw[hz] at this;cases this
  refine kk _ (q w2 (by lia) (by lia) hw2 hinc) _ _ ⟨λb o eb n=>by rw[zaa (az b o eb n)];exact kp b o eb n,λ_=>pl nMz pp,λb u hu eb=>?_⟩ ⟨z,_,rfl,hzH,zac,?_⟩
  .have h1:=ts b u hu eb;rw[zaa λe2=>by rw[e2,hz] at h1;cases h1];exact h1
  .have:=zey (K:=K) (F:=unM O) (H:=upd H' z (.lst ((w2.map sg).map V.str))) (w2.map sg);rw[ZG (g:=VS)] at this;exact this
theorem zj6{K:Qa}{O:Ob}{H:Hp}{ds:List Ug}{ws:List V}{Qr:R->Prop}{Q:VK}{x1 x2:Str}(ok:O.Ok)(hφ:IsDeal O)(p:O.P H)(is:IsAll K (unM O) H ws ds)(q:zd5 ds Qr)(kk:∀r,Qr r->∀v H',Stp O H H'->Out K O H H' v r->Q v H'):
 zfk K (spD K IsDeal 1 zd7) { nx:=λ_ H'=>Q .non H',rt:=Q } (L2.start [x1,x2] (O.v::ws)) H:=zj2 (λO D u h n=>h.plus D u n) ok hφ p is q kk
section
open PySem PySem.Builtin PySem.Builtin.Str
def sOk(x:PySem.Str):Prop:=∀c∈x.cps.toList,c<0x110000
theorem strOk_iff: Ji x=true↔sOk x:=by
 unfold Ji sOk;rw[Array.all_eq_true'];simp
end
open PySem PySem.Spec
open PyProof.Rows hiding St
open L2
theorem zde{α:Type}{f:α->Ug}:∀{l:List α},(∀a∈l,(f a).canLay0=true)->JC (l.map f)=true
 | [],_=>rfl
 | a::l,h=>by rw[QL,JC,h a Ql,zde λx hx=>h x (Qc _ hx)];rfl
theorem zgk{α:Type}{f:α->Ug}:∀{l:List α},(∀a∈l,(f a).showable=true)->Yb (l.map f)=true
 | [],_=>by simp[Yb]
 | a::l,h=>by rw[QL,Yb,h a Ql,zgk λx hx=>h x (Qc _ hx)];rfl
theorem zdv{α:Type}{f:α->Ug}{n:Nat}:∀{l:List α},(∀a∈l,(f a).depth<=n)->Y6 (l.map f)<=n
 | [],_=>by simp[Y6]
 | a::l,h=>by
   rw[QL,Y6];exact Nat.max_le.mpr ⟨h a Ql,zdv λx hx=>h x (Qc _ hx)⟩
theorem zfz{α:Type}{f:α->Ug}{B:Nat}:∀{l:List α},(∀a∈l,(f a).leavesShort B=true)->JH B (l.map f)=true
 | [],_=>by simp[JH]
 | a::l,h=>by rw[QL,JH,h a Ql,zfz λx hx=>h x (Qc _ hx)];rfl
theorem zgo{α:Type}{f:α->Ug}{n:Nat}:∀{l:List α},(∀a∈l,(f a).bulk<=n)->YK (l.map f)<=l.length * (n+1)
 | [],_=>by simp[YK]
 | a::l,h=>by
   rw[QL,YK,Qi,Nat.succ_mul];have:=h a Ql;have:=zgo (f:=f) (n:=n) λx hx=>h x (Qc a hx);lia
theorem zpp(h:Ji x=true){B:Nat}:(VS x).leavesShort B=true:=by
 have h:=strOk_iff.mp h;rw[Vj,Jr];intro c hc;have:=h c hc;exact GU (by lia)
section
variable {K:Qa}{O:Ob}
def disS(m:Nat)(g:DS):DS:=λDd ρ=>g Dd ρ\/∃ds,ρ[m]? = some (some (.own ds))/\g Dd (ρ.set m (some (.im (.list ds))))
theorem zyc{m:Nat}(h:SD K O t g):SD K O t (disS m g):=λH₀ A σ H ρ D Dd r q P=>by
 rcases q with q|⟨ds,e,q⟩
 .exact h H₀ A σ H ρ D Dd r q P
 .exact h H₀ _ σ H _ D Dd (r.disown e) q (P.frm (.setIm (.refl _ _)))
end
section
variable {ι κ:Type}{P:Um}{w:Uq}{K:Qa}{mg:Str->Option Uf}{base:Heap}{k:Nat}{X:ι->Cx}{O:κ->Ob}{st:Stmt}{g:DS}{pos:Pos}
theorem zz2(m:Nat)(h:S3 K X O st g):S3 K X O st (disS m g):=let ⟨t,p,d⟩:=h;⟨t,p,λj=>zyc (d j)⟩
end
end L3
namespace L53
open PySem PySem.Spec
open PyProof.Rows hiding St
open L2 L3
def top(i:Nat):Stmt:=PySem.Challenge.pw_lostpost_k53_least_words_of_grammars.main.body.getD i (.Pass ⟨0,0,0,0⟩)
section
variable {P:Um}{w:Uq}{K:Qa}{mg:Str->Option Uf}{base:Heap}{k:Nat}
abbrev zty(P:Um)(w:Uq)(K:Qa)(mg:Str->Option Uf)(base:Heap):Prop:=Def3 P w K mg base 1 "_law_draw" ["_law_deal_here", "_law_many"] (spD K IsDeal 1 zd7)
abbrev zn2:Stmt:=top 12
theorem zw4:FnScope ["_law_script", "_law_base", "_law_cells", "_law_number", "_law_cell"] ["_law_script", "_law_base"] (zab zn2):=⟨rfl,rfl,rfl,by decide +kernel,rfl,by decide +kernel,by decide +kernel⟩
theorem d_law_deal(B:Blt mg)(T:Top3 K mg "_law_deal" zn2):Def3 P w K mg base 1 "_law_deal" ["_law_script", "_law_base"] (zhp K):=by
 obtain⟨f,fd,Fu,m⟩:=T.ex;refine⟨f,fd,Fu.ok zw4 (λvs H Q E h=>by obtain⟨a,ns,rfl,_⟩:=h;rfl) (λcdv A outer s H vs Q E hr h=>?_),m,Fu.kp,Fu.binds (λ_ _ _ _ _ _ us hl=>len2 hl λ_ _=>rfl)⟩;obtain⟨a,ns,rfl,hS,hl,q⟩:=h;refine⟨zqf K (tOp (rI0 λi j=>.int (i+j)) (tC (.int 7919)) (tVar 1)) (tOp (rI (λ_ j=>0<j) λi j=>.int (i % j)) (tOp (rI0 λi j=>.int (i+j)) (tOp (rI CMul λi j=>.int (i * j)) (tVar 3) (tC (.int 48271))) (tOp (rI (λ_ j=>0<j) λi j=>.int (i % j)) (tVar 4) (tC (.int 2147483629)))) (tC (.int 2147483647))),?_,zn8 (s0:=7919+0) (by decide) (by decide) (λv v1 H Q q=>⟨_,rfl,7919,0,rfl,rfl,q⟩) (λv v1 s n H Q h1 h2 q=>⟨_,rfl,s,48271,rfl,rfl,.inl ⟨by lia,by lia⟩,_,rfl,n,2147483629,rfl,rfl,(show(0:Int)<2147483629 by decide),_,_,rfl,rfl,_,_,rfl,rfl,(show(0:Int)<2147483647 by decide),q _ (Jk _ (by decide)) (Int.lt_of_lt_of_le (ZT _ (by decide)) (by decide))⟩) hS hl q⟩;have nd:(["_law_script", "_law_base", "_law_cells", "_law_number", "_law_cell"]:List Str).Nodup:=by decide +kernel
 exact(za5 (zdl (n0:=2) nd rfl rfl rfl 1 (N':=["_law_cell", "_law_script", "_law_base", "_law_cells", "_law_number", "._law_cell"]) (.of rfl (by kernel_rfl)) rfl (zdn (zlr sl_list (zaf (i:=0) rfl (by first|exact Or.inl rfl|exact Or.inr (Or.inl rfl)|exact Or.inr (Or.inr rfl))) (zid (zaf (i:=1) rfl (by first|exact Or.inl rfl|exact Or.inr (Or.inl rfl)|exact Or.inr (Or.inr rfl)))) (zid zau))) (λC s H ex=>zdm (GQ (by kernel_rfl)) rfl (by first|exact Or.inl rfl|exact Or.inr rfl) (by first|exact .inl rfl|exact .inr rfl)) (zd1 (by decide)) (λC s H ex=>zeg) (λC s H ex=>zdt (zrh rfl) rfl B.max zxe (zaq (zaf (i:=0) rfl (by first|exact Or.inl rfl|exact Or.inr (Or.inl rfl)|exact Or.inr (Or.inr rfl))) (zaq (za4 zy0 zau (zaf (i:=0) rfl (by first|exact Or.inl rfl|exact Or.inr (Or.inl rfl)|exact Or.inr (Or.inr rfl)))) zbg))))
  (za5 (zb9 (i:=3) nd rfl (by first|exact Or.inl rfl|exact Or.inr rfl) (za4 op_add zau (zaf (i:=1) rfl (by first|exact Or.inl rfl|exact Or.inr (Or.inl rfl)|exact Or.inr (Or.inr rfl)))))
  (za5 (zp8 Y5 rfl (zdn (zaf (i:=2) rfl (by first|exact Or.inl rfl|exact Or.inr (Or.inl rfl)|exact Or.inr (Or.inr rfl)))) (zdm (i:=4) nd rfl (by first|exact Or.inl rfl|exact Or.inr rfl)) (zcj (zb9 (i:=3) nd rfl (by first|exact Or.inl rfl|exact Or.inr rfl) (za4 zc7 (za4 op_add (za4 zer (zaf (i:=3) rfl (by first|exact Or.inl rfl|exact Or.inr (Or.inl rfl)|exact Or.inr (Or.inr rfl))) zau) (za4 zc7 (zaf (i:=4) rfl (by first|exact Or.inl rfl|exact Or.inr (Or.inl rfl)|exact Or.inr (Or.inr rfl))) zau)) zau))))
  (zcj (zdq (zv6 (zg3 zbn (zaf (i:=3) rfl (by first|exact Or.inl rfl|exact Or.inr (Or.inl rfl)|exact Or.inr (Or.inr rfl))) (zg3 zbn zau (zg3 zbn (zos (hr.hd) rfl B.list rfl B.reversed (zf0 1 (N':=["_law_cell", "_law_script", "_law_base", "_law_cells", "_law_number", "._law_cell"]) (.of rfl (by kernel_rfl)) rfl (zdn (zaf (i:=2) rfl (by first|exact Or.inl rfl|exact Or.inr (Or.inl rfl)|exact Or.inr (Or.inr rfl)))) (λC s H ex=>zdm (GQ (by kernel_rfl)) rfl (by first|exact Or.inl rfl|exact Or.inr rfl) (by first|exact .inl rfl|exact .inr rfl)) (zd1 (by decide)) (λC s H ex=>zp5 (zel z0b (zaf (i:=0) rfl (by first|exact Or.inl rfl|exact Or.inr (Or.inl rfl)|exact Or.inr (Or.inr rfl))) (za4 zw5 zau zau) (zcl _))) (λC s H ex=>(zaf (i:=0) rfl (by first|exact Or.inl rfl|exact Or.inr (Or.inl rfl)|exact Or.inr (Or.inr rfl)))))) zvw))) rfl rfl (by simp) (by decide)))))))
def dc:DC:=⟨7919,40692,104729,2147483399,2147483563,2147483629⟩
theorem zzi:dc.Ok:=⟨by decide,by decide,by decide,by decide⟩
abbrev zn5:Stmt:=top 13
theorem zxq:FnScope ["_law_deal_here", "_law_many", "_law_number", "_law_one", "_law_other"] ["_law_deal_here", "_law_many"] (zab zn5):=⟨rfl,rfl,rfl,by decide +kernel,rfl,by decide +kernel,by decide +kernel⟩
theorem d_law_draw(B:Blt mg)(T:Top3 K mg "_law_draw" zn5):Def3 P w K mg base 1 "_law_draw" ["_law_deal_here", "_law_many"] (spD K IsDeal 1 zd7):=by
 obtain⟨f,fd,Fu,m⟩:=T.ex;refine⟨f,fd,Fu.ok zxq (ziy rfl) (λcdv A outer s H vs Q E hr h=>?_),m,Fu.kp,Fu.binds (λ_ _ _ _ _ _ us hl=>len2 hl λ_ _=>rfl)⟩;obtain⟨O,ds,ws,Qr,ok,hφ,p,hl,rfl,is,q,kk⟩:=h;refine⟨zil K dc,?_,zm1 zzi hφ p is q kk⟩;have nd:(["_law_deal_here", "_law_many", "_law_number", "_law_one", "_law_other"]:List Str).Nodup:=by decide +kernel
 exact(za5 (zmh Y5 (PW.pt (zpb (zel zzh (zcw (zc1 hr) (zaf (i:=0) rfl (by first|exact Or.inl rfl|exact Or.inr (Or.inl rfl)|exact Or.inr (Or.inr rfl))) zbn (λ_ _=>rfl)) zau (zcl _)) (znd (zel zub (zdt zgz rfl B.len zk2 (zaq (zcw (zc1 hr) (zaf (i:=0) rfl (by first|exact Or.inl rfl|exact Or.inr (Or.inl rfl)|exact Or.inr (Or.inr rfl))) zbn (λ_ _=>rfl)) zbg)) zau (zcl _))))) (zcj (zi2 (zc1 hr) (zaf (i:=0) rfl (by first|exact Or.inl rfl|exact Or.inr (Or.inl rfl)|exact Or.inr (Or.inr rfl))) zbn (zw2 ZK YB YC zvi (zcw (zc1 hr) (zaf (i:=0) rfl (by first|exact Or.inl rfl|exact Or.inr (Or.inl rfl)|exact Or.inr (Or.inr rfl))) zbn (λ_ _=>rfl))) rfl)))
  (za5 (zb9 (i:=2) nd rfl (by first|exact Or.inl rfl|exact Or.inr rfl) (zcw (zc1 hr) (zaf (i:=0) rfl (by first|exact Or.inl rfl|exact Or.inr (Or.inl rfl)|exact Or.inr (Or.inr rfl))) zbn (λ_ _=>rfl)))
  (za5 (ztw (zel zub (zaf (i:=2) rfl (by first|exact Or.inl rfl|exact Or.inr (Or.inl rfl)|exact Or.inr (Or.inr rfl))) zau (zcl _)) (za5 (zi2 (zc1 hr) (zaf (i:=0) rfl (by first|exact Or.inl rfl|exact Or.inr (Or.inl rfl)|exact Or.inr (Or.inr rfl))) zbn (za4 zuj (zaf (i:=2) rfl (by first|exact Or.inl rfl|exact Or.inr (Or.inl rfl)|exact Or.inr (Or.inr rfl))) (zaf (i:=1) rfl (by first|exact Or.inl rfl|exact Or.inr (Or.inl rfl)|exact Or.inr (Or.inr rfl)))) rfl) (zcj (zdq (za4 zc7 (zaf (i:=2) rfl (by first|exact Or.inl rfl|exact Or.inr (Or.inl rfl)|exact Or.inr (Or.inr rfl))) (zaf (i:=1) rfl (by first|exact Or.inl rfl|exact Or.inr (Or.inl rfl)|exact Or.inr (Or.inr rfl))))))) znx)
  (za5 (zb9 (i:=3) nd rfl (by first|exact Or.inl rfl|exact Or.inr rfl) (za4 zc7 (za4 op_add (za4 zer (zcw (zc1 hr) (zaf (i:=0) rfl (by first|exact Or.inl rfl|exact Or.inr (Or.inl rfl)|exact Or.inr (Or.inr rfl))) zbn (λ_ _=>rfl)) zau) zau) zau))
  (za5 (zi2 (zc1 hr) (zaf (i:=0) rfl (by first|exact Or.inl rfl|exact Or.inr (Or.inl rfl)|exact Or.inr (Or.inr rfl))) zbn (za4 zc7 (za4 op_add (za4 zer (zaf (i:=3) rfl (by first|exact Or.inl rfl|exact Or.inr (Or.inl rfl)|exact Or.inr (Or.inr rfl))) zau) zau) zau) rfl)
  (za5 (zb9 (i:=4) nd rfl (by first|exact Or.inl rfl|exact Or.inr rfl) (za4 zc7 (za4 zer (zcw (zc1 hr) (zaf (i:=0) rfl (by first|exact Or.inl rfl|exact Or.inr (Or.inl rfl)|exact Or.inr (Or.inr rfl))) zbn (λ_ _=>rfl)) (zcw (zc1 hr) (zaf (i:=0) rfl (by first|exact Or.inl rfl|exact Or.inr (Or.inl rfl)|exact Or.inr (Or.inr rfl))) zbn (λ_ _=>rfl))) zau))
  (zcj (zdq (za4 zc7 (za4 op_add (za4 zer (za4 zc7 (za4 zer (zaf (i:=3) rfl (by first|exact Or.inl rfl|exact Or.inr (Or.inl rfl)|exact Or.inr (Or.inr rfl))) (zaf (i:=3) rfl (by first|exact Or.inl rfl|exact Or.inr (Or.inl rfl)|exact Or.inr (Or.inr rfl)))) zau) zau) (zaf (i:=4) rfl (by first|exact Or.inl rfl|exact Or.inr (Or.inl rfl)|exact Or.inr (Or.inr rfl)))) (zaf (i:=1) rfl (by first|exact Or.inl rfl|exact Or.inr (Or.inl rfl)|exact Or.inr (Or.inr rfl))))))))))))
abbrev zgt:Stmt:=top 14
theorem zqv:FnScope ["_law_deal_here", "_law_left"] ["_law_deal_here"] (zab zgt):=⟨rfl,rfl,rfl,by decide +kernel,rfl,by decide +kernel,by decide +kernel⟩
theorem zdd(B:Blt mg)(d_law_draw:zty P w K mg base)(T:Top3 K mg "_law_letters" zgt):Def3 P w K mg base 2 "_law_letters" ["_law_deal_here"] (spD K IsDeal 0 zd5):=by
 obtain⟨f,fd,Fu,m⟩:=T.ex;refine⟨f,fd,Fu.ok zqv (ziy rfl) (λcdv A outer s H vs Q E hr h=>?_),m,Fu.kp,Fu.binds (λ_ _ _ _ _ _ us hl=>len1 hl λ_=>rfl)⟩;obtain⟨O,ds,ws,Qr,ok,hφ,p,hl,rfl,is,q,kk⟩:=h;refine⟨zfk K (spD K IsDeal 1 zd7),?_,zj6 ok hφ p is q kk⟩;have nd:(["_law_deal_here", "_law_left"]:List Str).Nodup:=by decide +kernel
 obtain⟨fD,fdD,G,mD,kpD,bnD⟩:=d_law_draw.ex
 exact za5 (zb9 (i:=1) nd rfl (by first|exact Or.inl rfl|exact Or.inr rfl) (zjc (zg6 rfl) rfl B.list zm6 (zaq zbn zbg)))
  (zcj (zdq (zdt zou rfl B.sorted zfw (zaq
   (zf0 1 (N':=["_law_k", "_law_deal_here", "_law_left"]) (.of rfl (by kernel_rfl)) rfl (zjn rfl B.range (zaq (za4 op_add zau (zc0 (k:=1) (by exact G) (by exact hr) rfl mD kpD bnD .nil ze1 (zaq (zaf (i:=0) rfl (by first|exact Or.inl rfl|exact Or.inr (Or.inl rfl)|exact Or.inr (Or.inr rfl))) (zaq zau zbg)))) zbg))
    (λC s H ex=>zdm (GQ (by kernel_rfl)) rfl (by first|exact Or.inl rfl|exact Or.inr rfl) (by first|exact .inl rfl|exact .inr rfl)) (zd1 (by decide)) (λC s H ex=>zeg)
    (λC s H ex=>zhs ZK YB YC zo5 (zaf (i:=2) rfl (by first|exact Or.inl rfl|exact Or.inr (Or.inl rfl)|exact Or.inr (Or.inr rfl)))
     (zaq (zc0 (k:=1) (by exact G) (by exact hr) rfl mD kpD bnD .nil ze1 (zaq (zaf (i:=1) rfl (by first|exact Or.inl rfl|exact Or.inr (Or.inl rfl)|exact Or.inr (Or.inr rfl))) (zaq (zdt zgz rfl B.len zk2 (zaq (zaf (i:=2) rfl (by first|exact Or.inl rfl|exact Or.inr (Or.inl rfl)|exact Or.inr (Or.inr rfl))) zbg)) zbg))) zbg))) zbg))))
end
end L53
namespace L3
open PySem PySem.Spec
open PyProof.Rows hiding St
open L2
open PySem.W (CodeHd tabObj fnMade fnX)
theorem zmq(a b:Int)(c:Uf)(l:List Uf):Gh l->Gh (l ++ [U1 a,U1 b,c]):=by
 fun_induction Gh l with
 | case1=>intro _;exact ZQ
 | case2 i t j u c r ih=>intro h;exact ih h
 | case3=>intro h;exact h.elim
theorem zol(p:Pos)(a b:Int)(c:Uf)(l:List Uf):Gh l->∀v,UI p (l ++ [U1 a,U1 b,c])=some v->UI p l=some v\/(a=p.line/\b=p.col/\v=c):=by
 fun_induction UI p l with
 | case1 i t j u c' r e=>
   intro _ v h;have h':UI p (.int i t :: .int j u::c'::(r ++ [U1 a,U1 b,c]))=some v:=h;unfold UI at h';rw[GO e] at h';exact .inl h'
 | case2 i t j u c' r e ih=>
   intro tr v h;have h':UI p (.int i t :: .int j u::c'::(r ++ [U1 a,U1 b,c]))=some v:=h;unfold UI at h';rw[GP e] at h';exact ih tr v h'
 | case3 l hl=>
   intro tr v h
   cases l with
   | nil=>
     have h':UI p (.int a 0 :: .int b 0::c :: [])=some v:=h;unfold UI at h'
     by_cases e:((a == p.line) && (b == p.col))=true
     .rw[GO e] at h';cases h';simp only[QR,beq_iff_eq] at e;exact .inr ⟨e.1,e.2,rfl⟩
     .rw[GP e] at h';cases h'
   | cons x l=>
     exfalso;unfold Gh at tr
     split at tr
     .rename_i z;cases z
     .rename_i z;injection z with z1 z2;subst z1;subst z2;exact hl _ _ _ _ _ _ rfl
     .exact tr
structure Nst(mg:Str->Option Uf)(base:Heap)(c P:Addr):Prop where
 bm:∃bm ob,mg "__builtins__" = some (.ref bm)/\bm≠UP/\base.get? bm=some ob/\ob.cls = .type "module" /\ ob.dict=some UP/\ob.data = .plain
 hd:CodeHd base c P
section
variable {X:Cx}{pins:List (Addr×Obj)}{σ:St}{H:Hp}{s:Ui}
theorem zqn(N:Nst X.mg X.base c P)(I:Inv X pins σ H s)(hP:H P=some o):s.heap.BuiltinsAt X.mg P:=by
 obtain⟨bm,ob,e1,e2,e3,e4,e5,e6⟩:=N.bm;refine⟨bm,ob,e1,e2,λz=>?_,λz=>?_,I.bk _ _ e3,e4,e5,e6⟩
 .obtain⟨o',es,ep,g1,g2,_⟩:=I.mod.glob;rw[z,g1] at e3;cases e3;rw[g2] at e6;cases e6
 .have:=(I.bs _ _ e3).2;rw[z,hP] at this;cases this
theorem zxu(I:Inv X pins σ H s)(hP:H P=some o):mainGlobals≠P:=λz=>by
 obtain⟨o',es,ep,g1,g2,_⟩:=I.mod.glob;have:=(I.bs _ _ g1).2;rw[z,hP] at this;cases this
theorem zrs{c' P:Addr}{ps:Array Uf}{qs:List (Pos×Str)}{pos:Pos}{qual:Str}{h':Heap}{fo:Obj}{tk:Nat}(hfo:fo.isFreed=false)(I:Inv X pins σ H s)(hP:H P=some (.cod ps qs))(hu:∀p∈qs,(pos.line:Int)=p.1.line->(pos.col:Int)=p.1.col->p.2=qual)
 (hx:Heap.ExtBut P s.heap h') (hge:s.heap.objs.size<=c') (hlt:c'<h'.objs.size) (hrec:h'.CodeRec (.ref c') qual) (htb:h'.get? P=some (tabObj (ps ++ #[U1 pos.line,U1 pos.col,.ref c']))) :
 ∃oc vs t,oc.data = .fields vs/\vs[1]? = some (.str qual t)/\Inv X pins σ (upd (upd (upd H P (.cod (ps ++ #[U1 pos.line,U1 pos.col,.ref c']) qs)) c' (.frz oc (.own 0))) h'.objs.size (.frz fo (.own 0))) { s with heap:=h'.push fo,toks:=tk }:=by
 obtain⟨c2,oc,vs,t,e2,hoc,hd,hv⟩:=hrec;cases e2;refine⟨oc,vs,t,hd,hv,?_⟩;have okP:=I.hok P _ hP;obtain⟨eP,tr,cs⟩:=okP;have ltP:P<s.heap.objs.size:=Qv eP;have nc:c'≠P:=λz=>QY _ (Q2 (z ▸ ltP) hge);have hsz:s.heap.objs.size<=h'.objs.size:=Qy hge (J9 hlt);have nf:h'.objs.size≠P:=λz=>QY _ (Q2 ltP (z ▸ hsz));have nfc:h'.objs.size≠c':=λz=>QY _ (z ▸ hlt);have hc0:H c'=none:=I.hok.fresh hge;have hf0:H h'.objs.size=none:=I.hok.fresh hsz
 have old:∀b u,H b=some u->b≠P->upd (upd (upd H P (.cod (ps ++ #[U1 pos.line,U1 pos.col,.ref c']) qs)) c' (.frz oc (.own 0))) h'.objs.size (.frz fo (.own 0)) b=some u:=λb u e n=>by
  rw[zaa (zar e hf0),zaa (zar e hc0),zaa n];exact e
 have eC:upd (upd (upd H P (.cod (ps ++ #[U1 pos.line,U1 pos.col,.ref c']) qs)) c' (.frz oc (.own 0))) h'.objs.size (.frz fo (.own 0)) c'=some (.frz oc (.own 0)):=by rw[zaa (Zr nfc),zac]
 have eP':upd (upd (upd H P (.cod (ps ++ #[U1 pos.line,U1 pos.col,.ref c']) qs)) c' (.frz oc (.own 0))) h'.objs.size (.frz fo (.own 0)) P=some (.cod (ps ++ #[U1 pos.line,U1 pos.col,.ref c']) qs):=by rw[zaa (Zr nf),zaa (Zr nc),zac]
 have eF:upd (upd (upd H P (.cod (ps ++ #[U1 pos.line,U1 pos.col,.ref c']) qs)) c' (.frz oc (.own 0))) h'.objs.size (.frz fo (.own 0)) h'.objs.size=some (.frz fo (.own 0)):=zac
 have fre:∀b (o:Obj),s.heap.get? b=some o->H b=none->upd (upd (upd H P (.cod (ps ++ #[U1 pos.line,U1 pos.col,.ref c']) qs)) c' (.frz oc (.own 0))) h'.objs.size (.frz fo (.own 0)) b=none:=λb o e n=>by
  have lb:=Qv e;rw[zaa (QN (Q2 lb hsz)),zaa (QN (Q2 lb hge)),zaa (λz=>by rw[z,hP] at n;cases n)];exact n
 have smn:∀b,b≠P->b≠c'->b≠h'.objs.size->upd (upd (upd H P (.cod (ps ++ #[U1 pos.line,U1 pos.col,.ref c']) qs)) c' (.frz oc (.own 0))) h'.objs.size (.frz fo (.own 0)) b=H b:=λb n1 n2 n3=>by rw[zaa n3,zaa n2,zaa n1]
 generalize upd (upd (upd H P (.cod (ps ++ #[U1 pos.line,U1 pos.col,.ref c']) qs)) c' (.frz oc (.own 0))) h'.objs.size (.frz fo (.own 0))=H1 at old eC eP' eF fre smn;have kp:∀b o,b≠P->s.heap.get? b=some o->(h'.push fo).get? b=some o:=λb o n e=>Qj _ (hx b o n e);have nP:∀b,H b=none->b≠P:=λb n z=>by rw[z,hP] at n;cases n
 have nown:∀b y,H b=some (.own y)->b≠P:=λb y e z=>by rw[z,hP] at e;cases e
 refine I.step (g':=s.gens) (d':=s.drawn) (t':=tk) (ch:=[]) (λ_ z=>nomatch z) (λb o _ _ _ e n=>kp b o (nP b n) e) (λb o _ _ _ e n=>⟨o.slots,kp b o (nP b n) e⟩) (λb o _ e n=>fre b o e n) (λb o _ e=>?_)
  (λb xs e=>old b _ e λz=>by rw[z,hP] at e;cases e) (λb o u e=>old b _ e λz=>by rw[z,hP] at e;cases e) (λb qs e=>⟨#[],by rw[Array.append_empty];exact old b _ e λz=>by rw[z,hP] at e;cases e⟩) (λm hn=>?_) (λb u e=>?_) I.bare
 .by_cases z:b=P
  .exact⟨_,z ▸ Qj _ htb⟩
  .exact⟨o,kp b o z e⟩
 .exact(hn.extBut hx λz=>by have:=I.free;rw[z,hP] at this;cases this).push _
 .by_cases zf:b=h'.objs.size
  .subst zf;rw[eF] at e;cases e;exact⟨Q1 _ hfo,_,Q1 _ hfo⟩
  by_cases zc:b=c'
  .subst zc;rw[eC] at e;cases e;exact⟨Qj _ hoc,_,Qj _ hoc⟩
  by_cases zP:b=P
  .subst zP;rw[eP'] at e;cases e;refine⟨Qj _ htb,by rw[JR];exact zmq _ _ _ _ tr,λp hp cv hcv=>?_⟩;rw[JR] at hcv;rcases zol _ _ _ _ _ tr _ hcv with z|⟨z1,z2,rfl⟩
   .obtain⟨c1,o1,v1,t1,a1,a2,a3⟩:=cs p hp cv z;exact⟨c1,o1,v1,t1,a1,old _ _ a2 (λz=>by rw[z,hP] at a2;cases a2),a3⟩
   .exact⟨c',oc,vs,t,rfl,eC,hd,by rw[hu p hp z1 z2];exact hv⟩
  .have eb:H b=some u:=by rw[<- smn b zP zc zf];exact e
   exact(I.hok b u eb).stay (λc v hc q=>kp c v (by rcases hc with z|z;exact z ▸ zP;exact nown _ _ z) q) (λc q=>old c _ q (nown _ _ q)) (λc xs q=>old c _ q λz=>by rw[z,hP] at q;cases q) λc o q=>old c _ q λz=>by rw[z,hP] at q;cases q
end
def cutC(as:List Addr)(H:Hp):Hp:=λb=>if b∈as then none else H b
theorem zcv{as:List Addr}(n:b ∉ as):cutC as H b=H b:=GP n
theorem zic{as:List Addr}(n:b∈as):cutC as H b=none:=GO n
theorem zzj(z:HO.frz o (.own 0) = .frz o' (.own 1)):False:=by
 injection z with _ z2;injection z2 with z3;exact absurd z3 (show ¬(0:Nat)=1 by decide)
theorem zvx{as:List Addr}(x:HOk P w H h)(ha:∀b∈as,H b=none\/∃o,H b=some (.frz o (.own 1))):HOk P w (cutC as H) h:=λb u e=>by
 have nb:b ∉ as:=λz=>by rw[zic z] at e;cases e
 rw[zcv nb] at e
 have no:∀c v,H c=some v->(∀o,v≠.frz o (.own 1))->c ∉ as:=λc v q n z=>by
  rcases ha c z with y|⟨o,y⟩ <;> rw[q] at y <;> cases y;exact n o rfl
 exact(x b u e).stay (λc v _ q=>q) (λc q=>by rw[zcv (no c _ q λo' z=>by injection z)];exact q) (λc xs q=>by rw[zcv (no c _ q λo' z=>by injection z)];exact q) λc o q=>by rw[zcv (no c _ q λo' z=>zzj z)];exact q
def zkr(qual:Str)(scope:Uz)(L f:Addr)(cd:Uf)(clos:List (Str×Addr)):Env :=
 { scope:=scope,locals:=L,globals:=mainGlobals,cells:=Ux (L+1) scope.names clos,qual:=qual ++ ".<locals>.",func:=some f,code:=cd,frame:=some L,builtins:=UP }
def cxCl(P:Um)(w:Uq)(K:Qa)(mg:Str->Option Uf)(base:Heap)(N:List Str)(qual:Str)(scope:Uz)(f:Addr)(cd:Uf)(clos:List (Str×Addr))(A:Us)(outer:List Env)(s:Ui)(H:Hp):Cx where
 prog:=P
 w:=w
 K:=K
 mg:=mg
 base:=base
 A:=A.deeper (zkr qual scope s.heap.objs.size f cd clos)
 N:=N
 s₀:=s
 H₀:=H
 env:=zkr qual scope s.heap.objs.size f cd clos
 outer:=outer
 stack:=zkr qual scope s.heap.objs.size f cd clos::outer
 ex:=[]
 calm:=true
 fn:=λx=>scope.names.lookup x != some .free
 pn:=[]
 xe:=λ_ _=>False
structure FnScopeC(N ps fs:List Str)(sc:Uz):Prop where
 kind:sc.kind = .function
 co:sc.isCoroutine=false
 gen:sc.isGenerator=false
 nd:N.Nodup
 pre:N.take (ps.length+fs.length)=ps++fs
 par:∀x∈ps,sc.names.lookup x=some .local\/sc.names.lookup x=some .cell
 fr:∀x∈fs,sc.names.lookup x=some .free
 free:∀y∈sc.names,y.2 = .free->sc.names.lookup y.1=some .free/\y.1∈fs
 cell:∀y∈sc.names,y.2 = .cell->sc.names.lookup y.1=some .cell
theorem zor{scope:Uz}{globals:Addr}{binds:List (Str×Uf)}{qual:Str}{func:Option Addr}{code:Uf}{builtins:Addr} 
 (h:∀h',h'.Ns s.heap.objs.size (λ_=>none)->(∀b o,s.heap.get? b=some o->h'.get? b=some o)->(∀x c,(Ux (s.heap.objs.size+1) scope.names cl).lookup x=some c->cl.lookup x=some c\/((x,QU)∈scope.names/\s.heap.objs.size+1<=c/\h'.IsCell c none)) ->
  ∀f:Str×Uf->PUnit->Sem (ForInStep PUnit),(∀n v u,f (n,v) u=(do Gx (newEnv scope s.heap.objs.size globals (Ux (s.heap.objs.size+1) scope.names cl) qual func code none builtins) n v;pure (.yield ⟨⟩))) ->
  wpAny M A (forIn binds ⟨⟩ f) (λ_ s'=>Q (newEnv scope s.heap.objs.size globals (Ux (s.heap.objs.size+1) scope.names cl) qual func code none builtins) s') E { s with heap:=h' }) :
 wpAny M A (UZ scope globals cl binds qual func code none builtins) Q E s:=by
 simp only[UZ,Option.isSome_none,Zi,GX];refine Uh (wpAny_alloc ?_);refine Uh (wpAny_layCells _ (λname kind cells=>by cases hkc:kind == QU <;> simp[hkc]) _ _ _ _ ?_);rw[show({ s with heap:=s.heap.push { cls:=.type "frame",data:=.dict #[] } }:Ui).heap.objs.size=s.heap.objs.size+1 from Zm ..];refine Uh (Uv (h _ ((Ue s.heap (.type "frame")).keeps (UO _ _)) (λb o e=>UO _ _ b o (Qj _ e)) (λx c e=>?_) _ λn v u=>rfl) (λ_ s' q=>Uo q) λ_ _ q=>q);have:=zgg scope.names (s.heap.push { cls:=.type "frame",data:=.dict #[] }) cl (x:=x) (c:=c) (by rw[Zm];exact e);rwa [Zm] at this
theorem znc(hN:X.N.Nodup)(f:Str×Uf->PUnit->Sem (ForInStep PUnit))(hf:∀n v u,f (n,v) u=(do Gx X.env n v;pure (.yield ⟨⟩)))(tail:St):
 ∀(todo:List Str) (us:List Uf) (vs:List V) (dn:List V) (s:Ui),todo.length=vs.length->Vals vs us->Inv X [] (dn.map some++(Qp vs.length none++tail)) H s ->
   (∀k x,todo[k]? = some x->X.N[dn.length+k]? = some x/\Loc X.env.scope x/\X.fn x=true)->(∀s',Inv X [] ((dn++vs).map some++tail) H s'->Q ⟨⟩ s')->wpAny M A (forIn (todo.zip us) PUnit.unit f) Q E s
 | [],us,vs,dn,s,hl,r,I,hx,k=>by
   have:vs = []:=QV.mp hl.symm;subst this;rw[List.zip_nil_left,VQ];exact Uo (k s (by simpa using I))
 | x::todo,us,vs,dn,s,hl,r,I,hx,k=>by
   cases r with
   | nil=>cases hl
   | cons r1 rs=>
     rename_i v u vs us
     rw[List.zip_cons_cons,VC,hf];obtain⟨h1,h2,h3⟩:=hx 0 x rfl;rw[JE] at h1;refine Uh (Uh (zex (v:=v) I hN h1 h2 r1 (λs' I'=>Uo (znc (H:=H) hN f hf tail todo us vs (dn ++ [v]) s' (by simpa using hl) rs ?_ (λj y e=>?_) λs'' I''=>k s'' ?_)) (.inl h3)))
     .have e:(dn.map some++(Qp (v::vs).length none++tail)).set dn.length (some v)=(dn ++ [v]).map some++(Qp vs.length none++tail):=by
       rw[Qi,List.replicate_succ,Zn];rw[YD _ _ (by simp)];simp
      rw[<- e];exact I'
     .have:=hx (j+1) y (by simpa using e);rw[Qf,ZC];refine⟨?_,this.2⟩;have t:=this.1;rw[show dn.length+1+j=dn.length+(j+1) by lia];exact t
     .rw[Qo] at I'';exact I''
section
variable {P:Um}{w:Uq}{K:Qa}{mg:Str->Option Uf}{base:Heap}{k:Nat}{N ps fs:List Str}{name qual:Str}{params:UR}{body:List Stmt}{scope:Uz}{clos:List (Str×Addr)}{doc pm ctv:Uf}{f c':Addr}{oc:Obj}{vv:Array Uf}{t:Tok}
 {A:Us} {outer:List Env} {s:Ui} {H:Hp} {us:List Uf} {vs ws:List V} {Q:VK} {E:XK} {as:List Addr}
theorem zvu(S:FnScopeC N ps fs scope)(hr:A.handled=none)(e0:Env0 P w K mg base A outer s H)(h0:∀b∈as,∃o,H b=some (.frz o (.own 1))/\∃x,clos.lookup x=some b)(hcl:∀x c,clos.lookup x=some c->(x,QM)∈scope.names/\c∈as)(hfree:∀x,(x,QM)∈scope.names->∃c,clos.lookup x=some c)
 (hinj:∀x y c,clos.lookup x=some c->clos.lookup y=some c->x=y) (hwl:ws.length=fs.length)
 (hws:∀(i:Nat) x c,fs[i]? = some x->clos.lookup x=some c->∃o u v,H c=some (.frz o (.own 1))/\o.data = .cell (some u)/\ws[i]? = some v/\RelV v u)
  {tk:Nat} (hn:h'.Ns s.heap.objs.size λ_=>none) (kp:∀b o,s.heap.get? b=some o->h'.get? b=some o) (hcs:∀x c,(Ux (s.heap.objs.size+1) scope.names clos).lookup x=some c->clos.lookup x=some c\/((x,QU)∈scope.names/\s.heap.objs.size+1<=c/\h'.IsCell c none)) :
 Inv (cxCl P w K mg base N qual scope f (.ref c') clos A outer s (cutC as H)) [] (Qp ps.length none++(ws.map some++Qp (N.length-(ps.length+fs.length)) none)) (cutC as H) { s with heap:=h',toks:=tk }:=by
 have hpl:ps.length+fs.length<=N.length:=by have:=GV J4 S.pre;rw[Q8,Qf] at this;lia
 have nf:∀x,(x,QM)∈scope.names->(x,QU) ∉ scope.names:=λx a b=>by
  have:=(S.free _ a rfl).1;rw[show scope.names.lookup x=some .cell from S.cell _ b rfl] at this;cases this
 have isc:∀x c,clos.lookup x=some c->∃v,s.heap.IsCell c v:=λx c e=>by
  obtain⟨hm,_⟩:=hcl x c e;obtain⟨i,hi,hix⟩:=ZM (S.free _ hm rfl).2;obtain⟨o,u,v,a1,a2,_⟩:=hws i x c (by rw[Qb hi,hix]) e;exact⟨some u,o,(e0.hok c _ a1).1,a2⟩
 have below:∀x c,clos.lookup x=some c->c<s.heap.objs.size+1:=λx c e=>by
  obtain⟨v,o,ho,_⟩:=isc x c e;exact JB (Qv ho)
 have cutn:∀b,H b=none->cutC as H b=none:=λb n=>by
  by_cases z:b∈as
  .exact zic z
  .rw[zcv z];exact n
 have noA:∀b:Addr,b ∉ (cxCl P w K mg base N qual scope f (.ref c') clos A outer s (cutC as H)).ex:=λb z=>absurd (show b∈([]:List Addr) from z) (by simp)
 refine⟨⟨e0.mod,S.kind,rfl,rfl,Qg _,zhc _ _ _ below hinj,λy hy=>?_,λy c z e=>?_,λ_=>hr,YH e0.frames,.inr ⟨rfl,rfl⟩,λb z=>absurd z (noA b),λb o e=>⟨(e0.bs b o e).1,cutn b (e0.bs b o e).2⟩,e0.bsz,λb _ _=>noA b,λb z=>absurd z (noA b),e0.funs,λb z=>cutn b (e0.frf b z)⟩,
  rfl,e0.bare,Un.kept kp,⟨_,hn,λi y v h1 h2 h3=>?_⟩,λy c e=>?_,cutn _ (e0.hok.fresh (Qg _)),λy c e=>?_,λp hp=>absurd (show p∈([]:List (Addr×Obj)) from hp) (by simp),(zvx e0.hok λb hb=>.inr (let ⟨o,q,_⟩:=h0 b hb;⟨o,q⟩)).kept kp,?_⟩
 .have hy:scope.names.lookup y=some .cell\/scope.names.lookup y=some .free:=hy;rcases hy with hy|hy
  .exact Z5.mp (Jh _ _ _ (.inl hy))
  .have hm:=Zc hy;obtain⟨c,hc⟩:=hfree y hm;exact⟨c,(zet _ _ _ (nf y hm)).trans hc⟩
 .have z:(scope.names.lookup y != some QM)=true:=z;rcases hcs y c e with q|⟨_,q,_⟩
  .have:=(S.free _ (hcl y c q).1 rfl).1;rw[this] at z;exact absurd z (by decide)
  .exact ZX q
 .have hi1:ps.length<=i:=by
   rcases Zp i ps.length with z|z
   .rw[Q6 (by simpa using z),QP,GO z] at h2;cases h2
   .exact z
  rw[QB (by simpa using hi1),QG] at h2
  have hi2:i-ps.length<ws.length:=by
   rcases Zp (i-ps.length) ws.length with z|z
   .exact z
   .rw[QB (by simpa using z),QP] at h2
    split at h2 <;> cases h2
  rw[Q6 (by simpa using hi2),Qm] at h2
  have hy:fs[i-ps.length]? = some y:=by
   have h1':N[i]? = some y:=h1;have e1:(N.take (ps.length+fs.length))[i]? = some y:=by rw[Jv (by lia)];exact h1'
   rw[S.pre,QB hi1] at e1;exact e1
  have hl:=S.fr y (Q5 hy);obtain⟨c,hc⟩:=hfree y (Zc hl);obtain⟨o,u,v',a1,a2,a3,a4⟩:=hws _ y c hy hc;rw[a3] at h2;cases h2;exact⟨u,a4,.inr ⟨.inr hl,c,(zet _ _ _ (nf y (Zc hl))).trans hc,o,kp c o (e0.hok c _ a1).1,a2⟩⟩
 .rcases hcs y c e with q|q
  .obtain⟨v,o,ho,hd⟩:=isc y c q;exact⟨v,o,kp c o ho,hd⟩
  .exact⟨_,q.2.2⟩
 .rcases hcs y c e with q|q
  .exact zic (hcl y c q).2
  .exact cutn _ (e0.hok.fresh (ZX q.2.1))
 .show _=N.length;rw[Qf,Qf,QG,QG,Qe];lia
end
def tyD:Ug->String
 | .none=> "NoneType"
 | .bool _=> "bool"
 | .int _=> "int"
 | .str _=> "str"
 | .list _=> "list"
 | .tuple _=> "tuple"
 | .dict _=> "dict"
def zfn(d:Ug)(T:String):Option Bool:=match T with
 | "int" =>some (match d with | .int _=>true | .bool _=>true|_=>false)
 | "bool" =>some (match d with | .bool _=>true|_=>false)
 | "str" =>some (match d with | .str _=>true|_=>false)
 | "tuple" =>some (match d with | .tuple _=>true|_=>false)
 | "list" =>some (match d with | .list _=>true|_=>false)
 | _=>none
theorem zcz(K:Qa){d:Ug}{b:Bool}(h:zfn d T=some b)(hd:∀kvs,d≠.dict kvs):VM K (.type (tyD d)) (.type T)=some b:=by
 unfold zfn at h
 split at h
 all_goals first
  | (cases h;cases d <;> first|rfl|exact absurd rfl (hd _))
  | cases h
def tIsI(K:Qa)(T:String)(te:TE):TE:=λσ H Q=>te σ H λv H1=>∃F d b,Is K F H1 v d/\zfn d T=some b/\Q (.bl b) H1
theorem zmz{pins:List (Addr×Obj)}{d:Ug}{b:Bool}(I:Inv X pins σ H s)(rx:RelV x u)(is:Is X.K F H x d)(e:zfn d T=some b)(h:∀tk,Q (.bool b) { s with toks:=tk }):
 wpAny (model X.prog X.w) A (call (.builtin "isinstance") [u,.type T]) Q E s:=by
 cases is with
 | none=>exact zc9 I rx .non (zcz _ e λ_ z=>nomatch z) h
 | bool y=>exact zc9 I rx (.bl y) (zcz _ e λ_ z=>nomatch z) h
 | int i=>exact zc9 I rx (.int i) (zcz _ e λ_ z=>nomatch z) h
 | str y=>exact zc9 I rx (.str y) (zcz _ e λ_ z=>nomatch z) h
 | list f q r=>exact zc9 I rx (.lst q) (zcz _ e λ_ z=>nomatch z) h
 | @tuple a xs ds q r=>
   cases (show u=ZD a from rx);obtain⟨its,_,⟨o,h1,h2,_⟩,_⟩:=I.tuple q;exact Zq Vf I.kIn ⟨o,h1,h2⟩ (zcz X.K (d:=.tuple ds) e λ_ z=>nomatch z) (λz=>nomatch z) h
theorem zx4(gi:Gl X "isinstance")(mi:X.mg "isinstance" = none)(gT:Gl X x)(mT:X.mg x=none)(hT:Uu x=some (.type T))(he:PE X e te)(hn:x ≠ "__name__" := by decide)(hdb:(x == ("__debug__" : Str))=false:=by decide)
 (s1:Ul [e,.Name x p2] X.env=(false,eval e X.env)::(false,eval (.Name x p2) X.env)::Ul [] X.env:=by rfl) (s2:Ul [e,.Name x p2] X.env=(false,eval e X.env)::Ul [.Name x p2] X.env:=by rfl) (s3:(U7 p3 (Ul [.Name x p2] X.env)).any (·.1)=false:=by rfl) :
 PE X (.Call (.Name "isinstance" p1) [e,.Name x p2] [] p3) (tIsI X.K T te):=by
 intro pins s σ H Q I h;refine Uy (zcs I gi mi (u:=.builtin "isinstance") (by decide +kernel) ?_);refine JJ ?_ s2 s3;rw[s1];show wpAny _ _ (GK ((false,eval e X.env)::(false,eval (.Name x p2) X.env) :: [])) _ _ s;refine ZE (thn (he pins s σ H _ I h) λu s' zz=>?_);obtain⟨y,H1,I1,r1,F,d,b,is,ek,q⟩:=zz;refine ZE (zcs I1 gT mT hT (ZW ?_) hn hdb);exact zmz I1 r1 is ek λtk=>⟨.bl b,H1,I1.tok _,rfl,q⟩
def isID(T:String)(f:DE):DE:=λρ Q=>f ρ λr=>∃b,zfn r.d T=some b/\Q (.o (.bool b))
theorem zy8{K:Qa}{O:Ob}{T:String}{t:TE}{f:DE}(h:ED K O t f):ED K O (tIsI K T t) (isID T f):=λσ H ρ Q Qd S hf k=>by
 refine h σ H ρ _ _ S hf λv H1 r s1 o1 zz=>?_;obtain⟨b,e,q⟩:=zz;exact⟨_,r.d,b,o1.is S.ok S.p,e,k _ H1 (.o (.bool b)) s1 (Is.bool b) q⟩
section
variable {ι κ:Type}{P:Um}{w:Uq}{K:Qa}{mg:Str->Option Uf}{base:Heap}{k:Nat}{X:ι->Cx}{O:κ->Ob}{a:Expr}{fa:DE}{pos p p2:Pos}
theorem zkh(C:Ctx3 P w K mg base k X)(B:Blt mg)(ha:E3 K X O a fa)(hm:mg x=none)(hT:Uu x=some (.type T):=by decide +kernel)(hg:∀i,Gl (X i) "isinstance" := by intro i;rfl)(hg2:∀i,Gl (X i) x:=by intro i;rfl)(hn:x ≠ "__name__" := by decide)(hdb:(x == ("__debug__" : Str))=false:=by decide)
 (s1:∀i,Ul [a,.Name x p2] (X i).env=(false,eval a (X i).env)::(false,eval (.Name x p2) (X i).env)::Ul [] (X i).env:=by intro i;rfl) (s2:∀i,Ul [a,.Name x p2] (X i).env=(false,eval a (X i).env)::Ul [.Name x p2] (X i).env:=by intro i;rfl) (s3:∀i,(U7 pos (Ul [.Name x p2] (X i).env)).any (·.1)=false:=by intro i;rfl) :
 E3 K X O (.Call (.Name "isinstance" p) [a,.Name x p2] [] pos) (isID T fa) :=
 let ⟨_,q,d⟩:=ha;⟨_,λi=>by
  have h:=zx4 (p1:=p) (p3:=pos) (hg i) (by rw[C.hmg];exact B.isinstance) (hg2 i) (by rw[C.hmg];exact hm) hT (q i) hn hdb (s1 i) (s2 i) (s3 i);rw[C.hK] at h
  exact h,λj=>zy8 (d j)⟩
end
abbrev tS(w:List Nat):Ug:=.str (tx w)
def Sml(w:List Nat):Prop:=w.length<=100/\∀c∈w,c<128
theorem zpq(h:Sml w):Ji (tx w)=true:=by
 rw[strOk_iff];intro c hc;rw[zbs] at hc;have:=h.2 c hc;lia
mutual
def zbp:Ug->Bool
 | .none=>true
 | .int _=>true
 | .str _=>true
 | .tuple ds=>zdx ds
 | _=>false
def zdx:List Ug->Bool
 | []=>true
 | d::ds=>zbp d && zdx ds
end
mutual
theorem zjv:∀d e:Ug,zbp d=true->zbp e=true->(QH d e=true↔d=e)
 | .none,e,_,h=>by cases e <;> simp[QH,zbp] at *
 | .int i,e,_,h=>by cases e <;> simp[QH,zbp] at *
 | .str x,e,_,h=>by cases e <;> simp[QH,zbp] at *
 | .tuple ds,e,h0,h=>by
   cases e with
   | tuple es=>
     have:=zhg ds es (by simpa[zbp] using h0) (by simpa[zbp] using h);simp only[QH];rw[this];exact⟨λz=>by rw[z],λz=>by cases z;rfl⟩
   | none=>simp[QH]
   | int _=>simp[QH]
   | str _=>simp[QH]
   | bool _=>simp[zbp] at h
   | list _=>simp[zbp] at h
   | dict _=>simp[zbp] at h
 | .bool _,_,h,_=>by simp[zbp] at h
 | .list _,_,h,_=>by simp[zbp] at h
 | .dict _,_,h,_=>by simp[zbp] at h
theorem zhg:∀ds es:List Ug,zdx ds=true->zdx es=true->(ZH ds es=true↔ds=es)
 | [],[],_,_=>by simp[ZH]
 | [],_::_,_,_=>by simp[ZH]
 | _::_,[],_,_=>by simp[ZH]
 | d::ds,e::es,h,h'=>by
   simp only[zdx,QR] at h h';simp only[ZH,QR];rw[zjv d e h.1 h'.1,zhg ds es h.2 h'.2];simp
end
structure Nice(n b:Nat)(d:Ug):Prop where
 lay:d.canLay0=true
 sh:d.showable=true
 sho:d.leavesShort 13=true
 dep:d.depth<=n
 bul:d.bulk<=b
 sol:zbp d=true
theorem zr9{b:Nat}(h:Ji x=true)(hb:x.length<=b):Nice 0 b (.str x):=⟨h,by simp[VD],zpp h,Qg _,hb,rfl⟩
theorem zrz{b:Nat}(h:∀c∈v,c<1000)(hb:v.length<=b):Nice 0 b (tS v):=zr9 (by
 rw[strOk_iff];intro c hc;rw[zbs] at hc;have:=h c hc
 lia) (by rw[zdz];exact hb)
theorem zhl{α:Type}{f:α->Ug}:∀{l:List α},(∀a∈l,zbp (f a)=true)->zdx (l.map f)=true
 | [],_=>rfl
 | a::l,h=>by rw[QL,zdx,h a Ql,zhl λx hx=>h x (Qc _ hx)];rfl
theorem zsw{α:Type}{f:α->Ug}{l:List α}{n b m:Nat}(h:∀a∈l,Nice n b (f a))(hl:l.length<=m):Nice (n+1) (m * (b+1)) (.tuple (l.map f)):=by
 refine⟨zde λa ha=>(h a ha).lay,?_,?_,?_,?_,?_⟩
 .rw[VD];exact zgk λa ha=>(h a ha).sh
 .rw[Vj];exact zfz λa ha=>(h a ha).sho
 .rw[JW];have:=zdv (f:=f) (n:=n) (l:=l) λa ha=>(h a ha).dep;lia
 .rw[PyData.bulk];have:=zgo (f:=f) (n:=b) (l:=l) λa ha=>(h a ha).bul;exact Qy this (ZJ _ hl)
 .rw[zbp];exact zhl λa ha=>(h a ha).sol
theorem Nice.okD{n b:Nat}{d:Ug}(h:Nice n b d)(hn:n<=60:=by decide):L3.okD d=true:=by
 unfold L3.okD;rw[h.lay];have:=h.dep;simp;lia
theorem zva{n b n' b':Nat}{neg:Bool}{d:Ug}(h:Nice n b d)(h':Nice n' b' e)(hn:n<=60:=by decide){q:Bool}(hq:q=true↔d=e):eqF neg d e=some (.o (.bool (if neg then !q else q))):=by
 unfold eqF;rw[GO (by rw[h.okD hn,h'.lay];rfl)]
 have e1:QH d e=q:=by
  have:=(zjv d e h.sol h'.sol).trans hq.symm;cases h1:QH d e <;> cases q <;> simp_all
 rw[e1]
theorem zxc(h:tS v=tS w):v=w:=by
 injection h with h;exact zqu h
theorem znl{i:Nat}{d:Ug}(h:ds[i]? = some d):idxF (.list ds) (.int (i:Nat))=some (.o d):=by
 show(atI ds _).map R.o=_;rw[zu3 (v:=d) h];rfl
theorem zm3(h:a.length+b.length<=16777216):addF (.list a) (.list b)=some (.n (a++b)):=by
 show(if a.length+b.length<=sizeLine then some (R.n (a++b)) else none)=_;rw[GO (by rw[Ur];exact h)]
end L3
namespace L6
structure WO{α:Type}(blt:α->α->Bool):Prop where
 irr:∀a,blt a a=false
 tr:∀a b c,blt a b=true->blt b c=true->blt a c=true
 neg:∀a b c,blt a c=true->blt a b=true\/blt b c=true
section
variable {α:Type}{blt:α->α->Bool}{k:Nat->α}
def Rk(blt:α->α->Bool)(k:Nat->α)(a b:Nat):Prop:=blt (k a) (k b)=true\/(blt (k b) (k a)=false/\a<b)
theorem Rk.trans(W:WO blt){a b c:Nat}(h:Rk blt k a b)(h':Rk blt k b c):Rk blt k a c:=by
 rcases h with h|⟨h,l⟩ <;> rcases h' with h'|⟨h',l'⟩
 .exact .inl (W.tr _ _ _ h h')
 .rcases W.neg _ (k c) _ h with z|z
  .exact .inl z
  .rw[h'] at z;cases z
 .rcases W.neg _ (k a) _ h' with z|z
  .rw[h] at z;cases z
  .exact .inl z
 .refine .inr ⟨?_,by lia⟩
  cases e:blt (k c) (k a) with
  | false=>rfl
  | true=>
    rcases W.neg _ (k b) _ e with z|z
    .rw[h'] at z;cases z
    .rw[h] at z;cases z
theorem Rk.le(W:WO blt){a b:Nat}(h:Rk blt k a b):blt (k b) (k a)=false:=by
 rcases h with h|⟨h,_⟩
 .cases e:blt (k b) (k a) with
  | false=>rfl
  | true=>have:=W.tr _ _ _ h e;rw[W.irr] at this;cases this
 .exact h
theorem ze6(W:WO blt)(h:blt x y=true)(h':blt z y=false):blt x z=true:=by
 rcases W.neg _ z _ h with e|e
 .exact e
 .rw[h'] at e;cases e
theorem zf1(W:WO blt){x y z:α}(h:blt y x=false)(h':blt y z=true):blt x z=true:=by
 rcases W.neg _ x _ h' with e|e
 .rw[h] at e;cases e
 .exact e
theorem zco(W:WO blt)(h:blt y x=false)(h':blt z y=false):blt z x=false:=by
 cases e:blt z x with
 | false=>rfl
 | true=>
   rcases W.neg _ y _ e with q|q
   .rw[h'] at q;cases q
   .rw[h] at q;cases q
def Up(blt:α->α->Bool)(k:Nat->α)(ix:Nat->Nat)(m:Nat):Prop:=∀i j,i<j->j<m->Rk blt k (ix i) (ix j)
def Dn(blt:α->α->Bool)(k:Nat->α)(ix:Nat->Nat)(m:Nat):Prop:=∀i j,i<j->j<m->Rk blt k (ix j) (ix i)
structure Pre(ix:Nat->Nat)(m:Nat):Prop where
 lt:∀i,i<m->ix i<m
 id:∀i,m<=i->ix i=i
theorem Pre.more{m n:Nat}(h:Pre ix m)(hm:m<=n):Pre ix n :=
 ⟨λi hi=>by
  by_cases z:i<m
  .have:=h.lt i z;lia
  .rw[h.id i (by lia)];exact hi,λi hi=>h.id i (by lia)⟩
theorem Pre.idf:Pre (λi=>i) m:=⟨λ_ h=>h,λ_ _=>rfl⟩
def mixF(ix:Nat->Nat)(i j:Nat):Nat->Nat:=λp=>if i<=p/\p<j then ix (i+j-1-p) else ix p
def bubF(ix:Nat->Nat)(s l:Nat):Nat->Nat:=λp=>if p=l then ix s else if l<p/\p<=s then ix (p-1) else ix p
theorem Pre.mix{m i j:Nat}(h:Pre ix m)(hj:j<=m):Pre (mixF ix i j) m:=by
 refine⟨λp hp=>?_,λp hp=>?_⟩
 .unfold mixF
  split
  .exact h.lt _ (by lia)
  .exact h.lt _ hp
 .unfold mixF;rw[GP (by lia)];exact h.id p hp
theorem Pre.bub{s l:Nat}(h:Pre ix s)(hl:l<=s):Pre (bubF ix s l) (s+1):=by
 refine⟨λp hp=>?_,λp hp=>?_⟩
 .unfold bubF
  split
  .rw[h.id s (Qg _)];lia
  .split
   .have:=h.lt (p-1) (by lia);lia
   .have:=h.lt p (by lia);lia
 .unfold bubF;rw[GP (by lia),GP (by lia)];exact h.id p (by lia)
theorem zqj(W:WO blt){m:Nat}(h:Up blt k ix m)(hm:0<m)(n:Rk blt k (ix (m-1)) (ix m)):Up blt k ix (m+1):=λi j hij hj=>by
 by_cases e:j<m
 .exact h i j hij e
 .have:j=m:=by lia
  subst this
  by_cases e2:i=j-1
  .subst e2;exact n
  .exact(h i (j-1) (by lia) (by lia)).trans W n
theorem zza{m:Nat}(h:Dn blt k ix m):Up blt k (mixF ix 0 m) m:=λi j hij hj=>by
 unfold mixF;rw[GO (by lia),GO (by lia)];exact h _ _ (by lia) (by lia)
theorem zx8{s l:Nat}(h:Up blt k ix s)(p:Pre ix s)(hl:l<=s)(lo:∀i,i<l->blt (k s) (k (ix i))=false)(hi:∀i,l<=i->i<s->blt (k s) (k (ix i))=true):Up blt k (bubF ix s l) (s+1):=by
 have es:=p.id s (Qg _);intro i j hij hj;unfold bubF
 by_cases a:i=l
 .rw[GO a,GP (by lia),GO (by lia),es];exact .inl (hi _ (by lia) (by lia))
 .rw[GP a]
  by_cases b:l<i/\i<=s
  .rw[GO b,GP (by lia),GO (by lia)];exact h _ _ (by lia) (by lia)
  .rw[GP b]
   by_cases c:j=l
   .rw[GO c,es];exact .inr ⟨lo i (by lia),p.lt i (by lia)⟩
   .rw[GP c]
    by_cases d:l<j/\j<=s
    .rw[GO d];exact h _ _ (by lia) (by lia)
    .rw[GP d];exact h _ _ (by lia) (by lia)
structure Des(blt:α->α->Bool)(k:Nat->α)(ix:Nat->Nat)(m q:Nat):Prop where
 le:q+1<=m
 up:∀i j,i<j->j<m->i+(q+1)<m->Rk blt k (ix j) (ix i)
 far:∀i j,i+(q+1)<m->m<=j+(q+1)->j<m->blt (k (ix j)) (k (ix i))=true
 al:∀i j,m<=i+(q+1)->i<j->j<m->blt (k (ix i)) (k (ix j))=false/\blt (k (ix j)) (k (ix i))=false/\ix i<ix j
theorem Des.turn{m q:Nat}(h:Des blt k ix m q):Dn blt k (mixF ix (m-(q+1)) m) m:=by
 intro i j hij hj;have:=h.le;unfold mixF
 by_cases a:m-(q+1)<=i/\i<m
 .rw[GO a,GO (by lia)];obtain⟨h1,h2,h3⟩:=h.al (m-(q+1)+m-1-j) (m-(q+1)+m-1-i) (by lia) (by lia) (by lia);exact .inr ⟨h2,h3⟩
 .rw[GP a]
  by_cases b:m-(q+1)<=j/\j<m
  .rw[GO b];exact h.up _ _ (by lia) (by lia) (by lia)
  .rw[GP b];exact h.up _ _ hij hj (by lia)
theorem Des.dn{m:Nat}(h:Des blt k ix m 0):Dn blt k ix m:=λi j hij hj=>h.up i j hij hj (by lia)
theorem zf4(W:WO blt){m:Nat}(h:Dn blt k ix m)(hm:0<m)(n:blt (k (ix m)) (k (ix (m-1)))=true):Des blt k ix (m+1) 0:=by
 have hb:∀i,i<m->blt (k (ix m)) (k (ix i))=true:=λi hi=>by
  by_cases e:i=m-1
  .subst e;exact n
  .exact ze6 W n ((h i (m-1) (by lia) (by lia)).le W)
 refine⟨by lia,λi j hij hj _=>?_,λi j h1 h2 h3=>?_,λi j h1 h2 h3=>by lia⟩
 .by_cases e:j<m
  .exact h i j hij e
  .have:j=m:=by lia
   subst this;exact .inl (hb i hij)
 .have:j=m:=by lia
  subst this;exact hb i (by lia)
theorem zws(W:WO blt){m q:Nat}(h:Des blt k ix m q)(p:Pre ix m)(n1:blt (k (ix m)) (k (ix (m-1)))=false)(n2:blt (k (ix (m-1))) (k (ix m))=false):Des blt k ix (m+1) (q+1):=by
 have hl:=h.le;have em:=p.id m (Qg _)
 have key:∀i,m<=i+(q+1)->i<m->blt (k (ix i)) (k (ix m))=false/\blt (k (ix m)) (k (ix i))=false:=λi h1 h2=>by
  by_cases e:i=m-1
  .subst e;exact⟨n2,n1⟩
  .obtain⟨a,b,_⟩:=h.al i (m-1) h1 (by lia) (by lia);exact⟨zco W n2 a,zco W b n1⟩
 refine⟨by lia,λi j hij hj hi=>?_,λi j h1 h2 h3=>?_,λi j h1 h2 h3=>?_⟩
 .by_cases e:j<m
  .exact h.up i j hij e (by lia)
  .have:j=m:=by lia
   subst this;exact .inl (zf1 W n2 (h.far i (j-1) (by lia) (by lia) (by lia)))
 .by_cases e:j<m
  .exact h.far i j (by lia) (by lia) e
  .have:j=m:=by lia
   subst this;exact zf1 W n2 (h.far i (j-1) (by lia) (by lia) (by lia))
 .by_cases e:j<m
  .exact h.al i j (by lia) h2 e
  .have:j=m:=by lia
   subst this;obtain⟨a,b⟩:=key i (by lia) h2;refine⟨a,b,?_⟩;rw[em];exact p.lt i h2
structure Bij(ix:Nat->Nat)(n:Nat):Prop where
 lt:∀i,i<n->ix i<n
 inj:∀i j,i<n->j<n->ix i=ix j->i=j
 sur:∀p,p<n->∃i,i<n/\ix i=p
theorem Bij.idf{n:Nat}:Bij (λi=>i) n:=⟨λ_ h=>h,λ_ _ _ _ e=>e,λp h=>⟨p,h,rfl⟩⟩
theorem Bij.comp{n:Nat}(h:Bij ix n)(g:Bij f n):Bij (λp=>ix (f p)) n :=
 ⟨λi hi=>h.lt _ (g.lt i hi),λi j hi hj e=>g.inj i j hi hj (h.inj _ _ (g.lt i hi) (g.lt j hj) e),λp hp=>by
  obtain⟨i,hi,e⟩:=h.sur p hp;obtain⟨j,hj,e'⟩:=g.sur i hi
  exact⟨j,hj,by rw[e',e]⟩⟩
theorem Bij.of{f g:Nat->Nat}{n:Nat}(a:∀i,i<n->f i<n)(b:∀i,i<n->g i<n)(c:∀i,i<n->g (f i)=i)(d:∀i,i<n->f (g i)=i):Bij f n :=
 ⟨a,λi j hi hj e=>by rw[<- c i hi,e,c j hj],λp hp=>⟨g p,b p hp,d p hp⟩⟩
def swF(i j p:Nat):Nat:=if i<=p/\p<j then i+j-1-p else p
def bbF(s l p:Nat):Nat:=if p=l then s else if l<p/\p<=s then p-1 else p
def bbG(s l p:Nat):Nat:=if p=s then l else if l<=p/\p<s then p+1 else p
theorem zrg{i j n p:Nat}(hj:j<=n)(hp:p<n):swF i j p<n:=by unfold swF;split <;> lia
theorem zqi(i j p:Nat):swF i j (swF i j p)=p:=by
 unfold swF
 by_cases a:i<=p/\p<j
 .rw[GO a,GO (by lia)];lia
 .rw[GP a,GP a]
theorem Bij.mix{n i j:Nat}(h:Bij ix n)(hj:j<=n):Bij (mixF ix i j) n:=by
 have e:mixF ix i j=λp=>ix (swF i j p):=by
  funext p;unfold mixF swF
  split <;> rfl
 rw[e];exact h.comp (.of (g:=swF i j) (λp hp=>zrg hj hp) (λp hp=>zrg hj hp) (λp _=>zqi i j p) λp _=>zqi i j p)
theorem Bij.bub{n s l:Nat}(h:Bij ix n)(hs:s<n)(hl:l<=s):Bij (bubF ix s l) n:=by
 have e:bubF ix s l=λp=>ix (bbF s l p):=by
  funext p;unfold bubF bbF
  split
  .rfl
  .split <;> rfl
 rw[e];refine h.comp (.of (g:=bbG s l) (λp hp=>?_) (λp hp=>?_) (λp hp=>?_) λp hp=>?_)
 .unfold bbF;repeat' split
  all_goals lia
 .unfold bbG;repeat' split
  all_goals lia
 .unfold bbF bbG;repeat' split
  all_goals lia
 .unfold bbF bbG;repeat' split
  all_goals lia
theorem Bij.perm{n:Nat}(h:Bij ix n):((Q7 n).map ix).Perm (Q7 n):=by
 rw[YS];intro a
 have nd:((Q7 n).map ix).Nodup:=by
  unfold List.Nodup;rw[JD,ZB];intro i j hi hj hij e;rw[Z1] at hi hj;rw[J2,J2] at e;have:=h.inj i j hi hj e;lia
 rw[nd.count,List.nodup_range.count]
 have:(a∈(Q7 n).map ix)↔a∈Q7 n:=by
  rw[QD,Z4];constructor
  .rintro⟨i,hi,rfl⟩;exact h.lt i (Z4.mp hi)
  .intro ha;obtain⟨i,hi,e⟩:=h.sur a ha;exact⟨i,Z4.mpr hi,e⟩
 by_cases z:a∈Q7 n
 .rw[GO z,GO (this.mpr z)]
 .rw[GP z,GP λq=>z (this.mp q)]
theorem zwg{γ:Type}(g:Nat->γ)(n:Nat):((Q7 n).map g).zipIdx=(Q7 n).map λi=>(g i,i):=by
 refine Js (by simp) λi h1 h2=>?_;simp
theorem zg7{γ:Type}{key:γ->α}{g:Nat->γ}{n:Nat}{ix:Nat->Nat}(W:WO blt)(up:Up blt (λi=>key (g i)) ix n)(b:Bij ix n):
 (Q7 n).map (λi=>g (ix i))=((Q7 n).map g).mergeSort (λp q=>!blt (key q) (key p)):=by
 rw[<- List.mergeSort_zipIdx,zwg];have e:(Q7 n).map (λi=>g (ix i))=((Q7 n).map λi=>(g (ix i),ix i)).map (·.1):=by rw[ZG];rfl
 rw[e];refine GV (List.map (λx:γ×Nat=>x.1)) ?_
 have tr:∀a b c:γ,(!blt (key b) (key a))=true->(!blt (key c) (key b))=true->(!blt (key c) (key a))=true:=λa b c h1 h2=>by
  rw[ZY] at h1 h2 ⊢;exact zco W h1 h2
 have tt:∀a b:γ,((!blt (key b) (key a)) || (!blt (key a) (key b)))=true:=λa b=>by
  cases h1:blt (key b) (key a) with
  | false=>rfl
  | true=>
    cases h2:blt (key a) (key b) with
    | false=>rfl
    | true=>have:=W.tr _ _ _ h1 h2;rw[W.irr] at this;cases this
 have m1:∀x,x∈((Q7 n).map λi=>(g (ix i),ix i))->x.1=g x.2:=λx hx=>by
  obtain⟨i,_,rfl⟩:=QD.mp hx;rfl
 have m2:∀x,x∈(((Q7 n).map λi=>(g i,i)).mergeSort (Yp λp q=>!blt (key q) (key p)))->x.1=g x.2:=λx hx=>by
  rw[(YT _ _).mem_iff] at hx;obtain⟨i,_,rfl⟩:=QD.mp hx;rfl
 refine Yq (le:=λa b=>Yp (λp q=>!blt (key q) (key p)) a b=true) (λx y hx hy h1 h2=>?_) ?_ (Ys (List.zipIdxLE_trans tr) (List.zipIdxLE_total tt) _) ?_
 .have e1:=m1 x hx;have e2:=m2 y hy
  have e3:x.2=y.2:=by
   unfold Yp at h1 h2;dsimp only at h1 h2;cases a:blt (key y.1) (key x.1) <;> cases c:blt (key x.1) (key y.1) <;> simp[a,c] at h1 h2;lia
  exact VN (by rw[e1,e2,e3]) e3
 .rw[JD,ZB];intro i j hi hj hij;rw[Z1] at hi hj;rw[J2,J2];have r:=up i j hij hj;have rl:=r.le W;unfold Yp
  have key2:∀(x y:Bool) (d:Bool),x=false->(y=true\/d=true)->(if(!x)=true then(if(!y)=true then d else true) else false)=true:=by
   intro x y d hx hy;subst hx;cases y
   .rcases hy with hy|hy
    .cases hy
    .simpa using hy
   .rfl
  refine key2 _ _ _ rl ?_;rcases r with r|⟨r,l⟩
  .exact .inl r
  .exact .inr (GU (J9 l))
 .refine List.Perm.trans ?_ (YT _ _).symm;have:=b.perm.map λi=>(g i,i);rw[ZG] at this;exact this
end
end L6
namespace L6
open PySem PyProof.Rows
section
variable {prog:Um}{w:Uq}{A:Us}{E:Uf->Ui->Prop}{s:Ui}{α:Type}{blt:α->α->Bool}{k:Nat->α}{a₀:Array U2}{kd:U6}{ix:Nat->Nat}{st:U0}
def zbx(prog:Um)(w:Uq)(A:Us)(s:Ui)(kd:U6)(a₀:Array U2)(blt:α->α->Bool)(k:Nat->α):Prop :=
 ∀(i j:Nat) (x p y q:Uf) (E:Uf->Ui->Prop) (Q:Bool->Ui->Prop),a₀[i]? = some (x,p)->a₀[j]? = some (y,q)->Q (blt (k i) (k j)) s->wpAny (model prog w) A (keyLt' kd x y) Q E s
structure Sb(a₀:Array U2)(kd:U6)(ix:Nat->Nat)(st:U0):Prop where
 sz:(arrOf st).size=a₀.size
 at_:∀i,i<a₀.size->(arrOf st)[i]? = a₀[ix i]?
 bj:Bij ix a₀.size
 fa:UD st=none
 pe:pendingOf st = #[]
 ki:kindOf st=kd
end
section
variable {prog:Um}{w:Uq}{A:Us}{E:Uf->Ui->Prop}{s:Ui}
structure Ord{α:Type}(blt:α->α->Bool)(k:Nat->α)(n:Nat)(ix:Nat->Nat):Prop where
 bj:Bij ix n
 up:Up blt k ix n
def zcb(vs:List Uf)(ix:Nat->Nat):List Uf:=(Q7 vs.length).map λi=>vs.getD (ix i) .none
structure KeysOk{α:Type}(prog:Um)(w:Uq)(A:Us)(s:Ui)(ks vs:List Uf)(blt:α->α->Bool)(k:Nat->α):Prop where
 wo:WO blt
 kd:2<=vs.length->∃kd:U6,(∀(E:Uf->Ui->Prop) (Q:U6->Ui->Prop),Q kd s->wpAny (model prog w) A (keyKind' ks.toArray) Q E s)/\zbx prog w A s kd (ks.toArray.zip vs.toArray) blt k
theorem zdw{ks vs:List Uf}(hl:ks.length=vs.length){i:Nat}{p:U2}(h:(ks.toArray.zip vs.toArray)[i]? = some p):ks[i]? = some p.1/\vs[i]? = some p.2:=by
 have:(ks.zip vs)[i]? = some p:=by
  have e:ks.toArray.zip vs.toArray=(ks.zip vs).toArray:=by simp
  rw[e] at h;simpa using h
 rw[Yg] at this;exact this
theorem zu2{vs:List Uf}{ks:List Uf}(hl:ks.length=vs.length){ix:Nat->Nat}(bj:Bij ix vs.length){arr:Array U2}(hz:arr.size=vs.length)(h:∀i,i<vs.length->arr[i]? = (ks.toArray.zip vs.toArray)[ix i]?):arr.map (·.2)=(zcb vs ix).toArray:=by
 refine Array.ext (by simp[zcb,hz]) λi h1 h2=>?_;have hi:i<vs.length:=by simpa[zcb] using h2
 have hx:=bj.lt i hi;have h3:=h i hi;obtain⟨p,hp⟩:∃p,arr[i]? = some p:=⟨_,Zz (by lia)⟩;have h4:=(zdw hl (h3.symm.trans hp)).2;have e1:(arr.map (·.2))[i]? = some p.2:=by simp[hp]
 have e2:(zcb vs ix).toArray[i]? = some p.2:=by
  simp only[zcb,Y9,Qm,Zk hi,ZV];rw[Qs,h4];rfl
 rw[Zz h1] at e1;rw[Zz h2] at e2;exact QZ (e1.trans e2.symm)
end
def eat(c:Nat):List Nat->List Nat
 | []=>[]
 | x::r=>if x=c then r else x::r
def eats(l:List Nat):List Nat->List Nat:=λless=>l.foldl (λr c=>eat c r) less
def under(less more:List Nat):Bool:=(eats more less).isEmpty
theorem zrp(l:List Nat):eats l [] = []:=by
 induction l with
 | nil=>rfl
 | cons c l ih=>exact ih
theorem under_iff:∀{more less:List Nat},under less more=true↔less.Sublist more
 | [],[]=>by simp[under,eats]
 | [],x::less=>by simp[under,eats]
 | c::more,[]=>by simp[under,zrp]
 | c::more,x::less=>by
   show under (eat c (x::less)) more=true↔_
   by_cases h:x=c
   .subst h;rw[show eat x (x::less)=less from GO rfl,under_iff (more:=more) (less:=less)];exact⟨λz=>z.cons_cons x,λz=>by cases z with|cons _ z=>exact List.Sublist.trans (Y0 _ _) z|cons_cons _ z=>exact z⟩
   .rw[show eat c (x::less)=x::less from GP h,under_iff (more:=more) (less:=x::less)];exact⟨λz=>z.cons c,λz=>by cases z with|cons _ z=>exact z|cons_cons _ z=>exact absurd rfl h⟩
theorem zaw(w:List Nat):under w w=true:=under_iff.mpr (Vt w)
theorem zao(h:under a b=true)(h':under b c=true):under a c=true:=under_iff.mpr ((under_iff.mp h).trans (under_iff.mp h'))
theorem zft(h:under a b=true):a.length<=b.length:=(under_iff.mp h).length_le
theorem zmj(h:under a b=true)(hl:b.length<=a.length):a=b:=(under_iff.mp h).eq_of_length_le hl
def zbm(c:Nat)(more:List Nat)(start:Nat):Option Nat:=((Q7 more.length).filter λi=>decide (start<=i) && decide (more[i]? = some c)).head?
def plc:List Nat->List Nat->Nat->List Nat->Option (List Nat)
 | [],_,_,acc=>some acc
 | c::r,more,start,acc=>match zbm c more start with
   | none=>none
   | some p=>plc r more (p+1) (acc ++ [p])
theorem zd3{c:Nat}{more:List Nat}{start p:Nat}(h:zbm c more start=some p):start<=p/\more[p]? = some c/\∀i,start<=i->i<p->more[i]?≠some c:=by
 unfold zbm at h;rw[Vu] at h;have h1:=VE h;rw[QR] at h1;refine⟨GQ h1.1,GQ h1.2,λi hi hp e=>?_⟩;obtain⟨_,as,bs,e1,e2⟩:=List.find?_eq_some_iff_append.mp h
 have hl:p=as.length:=by
  have:=GV (λl=>l[as.length]?) e1;simp at this
  have hlt:as.length<more.length:=by
   have:=GV J4 e1;simp at this;lia
  rw[Zk hlt] at this;simpa using this.symm
 have hlt:p<more.length:=by
  have:=(Qk.mp (GQ h1.2)).1;exact this
 have hm:i∈as:=by
  have e3:=GV (λl=>l[i]?) e1;rw[Zk (by lia),Q6 (by lia)] at e3;exact Q5 e3.symm
 have:=e2 i hm;rw[GU hi,GU e] at this;simp at this
theorem zi9{c:Nat}{more:List Nat}{start:Nat}(h:zbm c more start=none):∀i,start<=i->more[i]?≠some c:=λi hi e=>by
 unfold zbm at h;rw[Vu,Vk] at h;have hlt:=(Qk.mp e).1;have:=h i (Z4.mpr hlt);rw[GU hi,GU e] at this;simp at this
theorem zl9{c:Nat}: ∀{k:Nat} {l:List Nat},(∀i,i<k->l[i]?≠some c)->((c::r).Sublist l↔(c::r).Sublist (l.drop k))
 | 0,l,_=>by simp
 | k+1,[],_=>by simp
 | k+1,y::l,h=>by
   have hy:y≠c:=λe=>h 0 (by lia) (by simp[e]);have ih:=zl9 (r:=r) (k:=k) (l:=l) λi hi=>by have:=h (i+1) (by lia);simpa using this
   rw[List.drop_succ_cons,<- ih];exact⟨λz=>by cases z with|cons _ z=>exact z|cons_cons _ z=>exact absurd rfl hy,λz=>z.cons y⟩
theorem zhn:∀(less more:List Nat) (start:Nat) (acc:List Nat),(plc less more start acc).isSome=true↔less.Sublist (more.drop start)
 | [],more,start,acc=>by simp[plc]
 | c::r,more,start,acc=>by
   unfold plc
   cases h:zbm c more start with
   | none=>
     have hn:=zi9 h;refine⟨λz=>(by cases z),λz=>?_⟩;have hm:c∈more.drop start:=z.subset Ql;obtain⟨i,hi⟩:=Jn.mp hm;rw[Z7] at hi;exact absurd hi (hn _ (by lia))
   | some p=>
     obtain⟨h1,h2,h3⟩:=zd3 h;have ih:=zhn r more (p+1) (acc ++ [p]);show(plc r more (p+1) (acc ++ [p])).isSome=true↔_;rw[ih]
     have e1:=zl9 (c:=c) (r:=r) (k:=p-start) (l:=more.drop start) λi hi=>by
      rw[Z7];exact h3 _ (by lia) (by lia)
     rw[e1,Jf,show start+(p-start)=p by lia];obtain⟨hp,hv⟩:=Qk.mp h2;rw[QJ hp,hv];exact⟨λz=>z.cons_cons c,λz=>by cases z with|cons _ z=>exact(Y0 _ _).trans z|cons_cons _ z=>exact z⟩
theorem zqr(less more:List Nat):(plc less more 0 []).isSome=under less more:=by
 have:=zhn less more 0 [];rw[Je,<- under_iff] at this;cases h:(plc less more 0 []).isSome <;> cases h':under less more <;> simp_all
def wlt(a b:List Nat):Bool:=decide (a.length<b.length) || (decide (a.length=b.length) && decide (a<b))
theorem zgc(a:List Nat):wlt a a=false:=by simp[wlt,Yc]
theorem zio: wlt a b=true↔a.length<b.length\/(a.length=b.length/\a<b):=by simp[wlt]
theorem zle(a b c:List Nat)(h:wlt a b=true)(h':wlt b c=true):wlt a c=true:=by
 rw[zio] at *;rcases h with h|⟨h1,h2⟩ <;> rcases h' with h'|⟨h3,h4⟩
 .left;lia
 .left;lia
 .left;lia
 .right;exact⟨by lia,Vb h2 h4⟩
theorem znf(a b:List Nat)(h:wlt a b=false)(h':wlt b a=false):a=b:=by
 have n1:¬(wlt a b=true):=by rw[h];simp
 have n2:¬(wlt b a=true):=by rw[h'];simp
 rw[zio] at n1 n2;have hl:a.length=b.length:=by lia
 have l1:¬a<b:=λz=>n1 (.inr ⟨hl,z⟩);have l2:¬b<a:=λz=>n2 (.inr ⟨hl.symm,z⟩);exact List.le_antisymm (YL.mp l2) (YL.mp l1)
theorem zwp(a b c:List Nat)(h:wlt a c=true):wlt a b=true\/wlt b c=true:=by
 cases h1:wlt a b with
 | true=>exact .inl rfl
 | false=>
   right
   cases h2:wlt b a with
   | true=>exact zle _ _ _ h2 h
   | false=>rw[<- znf a b h1 h2];exact h
theorem zmv{α:Type}[BEq α][LawfulBEq α]{l m:List α}(h:l.Nodup)(h':m.Nodup)(e:∀x,x∈l↔x∈m):l.Perm m:=by
 rw[YS];intro a;rw[h.count,h'.count]
 by_cases z:a∈l
 .rw[GO z,GO ((e a).mp z)]
 .rw[GP z,GP λq=>z ((e a).mpr q)]
theorem zjy{l m:List (List Nat)}(h:l.Pairwise λa b=>wlt a b=true)(h':m.Pairwise λa b=>wlt a b=true)(e:∀x,x∈l↔x∈m):l=m:=by
 have nd:∀{l:List (List Nat)},l.Pairwise (λa b=>wlt a b=true)->l.Nodup:=λh=>h.imp λ{a b} z e=>by subst e;rw[zgc] at z;cases z
 refine Yq (le:=λa b=>wlt a b=true) (λa b _ _ z1 z2=>?_) h h' (zmv (nd h) (nd h') e);have:=zle _ _ _ z1 z2;rw[zgc] at this;cases this
def zan(kept:List (List Nat))(w:List Nat):List (List Nat):=if kept.any (λv=>under v w) then kept else kept ++ [w]
def zeo(ws:List (List Nat)):List (List Nat):=ws.foldl zan []
structure Kept(ws kept:List (List Nat)):Prop where
 asc:kept.Pairwise λa b=>wlt a b=true
 of:∀w∈kept,w∈ws
 bel:∀w∈ws,∃v∈kept,under v w=true
 min:∀v∈kept,∀w∈ws,under w v=true->w=v
theorem zlz(h:under a b=true)(hn:a≠b):wlt a b=true:=by
 rw[zio];left;have:=zft h;rcases Zp a.length b.length with z|z
 .exact z
 .exact absurd (zmj h z) hn
theorem zrw{kept:List (List Nat)}(h:Kept ws kept)(hw:∀v∈ws,wlt w v=false):Kept (ws ++ [w]) (zan kept w):=by
 unfold zan
 by_cases c:kept.any (λv=>under v w)=true
 .rw[GO c];obtain⟨u,hu,hu2⟩:=Jd.mp c;refine⟨h.asc,λv hv=>Q9 _ (h.of v hv),λv hv=>?_,λv hv x hx hxv=>?_⟩
  .rcases Qu.mp hv with hv|hv
   .exact h.bel v hv
   .rw[Qn.mp hv];exact⟨u,hu,hu2⟩
  .rcases Qu.mp hx with hx|hx
   .exact h.min v hv x hx hxv
   .have ex:=Qn.mp hx;subst ex;have e1:=h.min v hv u (h.of u hu) (zao hu2 hxv);subst e1;exact zmj hxv (zft hu2)
 .rw[GP c]
  have nc:∀v∈kept,under v w=false:=λv hv=>by
   cases e:under v w with
   | false=>rfl
   | true=>exact absurd (Jd.mpr ⟨v,hv,e⟩) c
  refine⟨?_,λv hv=>?_,λv hv=>?_,λv hv x hx hxv=>?_⟩
  .refine List.pairwise_append.mpr ⟨h.asc,List.pairwise_singleton _ _,λa ha b hb=>?_⟩;rw[Qn.mp hb]
   cases e:wlt a w with
   | true=>rfl
   | false=>
     have:=znf a w e (hw a (h.of a ha));have n:=nc a ha;rw[this,zaw] at n;cases n
  .rcases Qu.mp hv with hv|hv
   .exact Q9 _ (h.of v hv)
   .exact Qw _ hv
  .rcases Qu.mp hv with hv|hv
   .obtain⟨u,hu,hu2⟩:=h.bel v hv;exact⟨u,Q9 _ hu,hu2⟩
   .rw[Qn.mp hv];exact⟨w,Qw _ Ql,zaw w⟩
  .rcases Qu.mp hv with hv|hv
   .rcases Qu.mp hx with hx|hx
    .exact h.min v hv x hx hxv
    .have ex:=Qn.mp hx;subst ex
     cases e:decide (x=v) with
     | true=>exact GQ e
     | false=>
       have:=zlz hxv (of_decide_eq_false e);rw[hw v (h.of v (by assumption))] at this;cases this
   .have ev:=Qn.mp hv;subst ev;rcases Qu.mp hx with hx|hx
    .obtain⟨u,hu,hu2⟩:=h.bel x hx;have:=nc u hu;rw[zao hu2 hxv] at this;cases this
    .exact Qn.mp hx
theorem zk8:∀(ws done kept:List (List Nat)),Kept done kept->(∀v∈done,∀w∈ws,wlt w v=false)->ws.Pairwise (λa b=>wlt b a=false)->Kept (done++ws) (ws.foldl zan kept)
 | [],done,kept,h,_,_=>by simpa using h
 | w::ws,done,kept,h,hd,hp=>by
   rw[Jj] at hp
   have:=zk8 ws (done ++ [w]) (zan kept w) (zrw h λv hv=>hd v hv w Ql) (λv hv x hx=>by
    rcases Qu.mp hv with hv|hv
    .exact hd v hv x (Qc _ hx)
    .rw[Qn.mp hv];exact hp.1 x hx) hp.2
   simpa using this
theorem zn0(hp:ws.Pairwise λa b=>wlt b a=false):Kept ws (zeo ws):=by
 have:=zk8 ws [] [] ⟨.nil,λ_ h=>(by cases h),λ_ h=>(by cases h),λ_ h=>(by cases h)⟩ (λ_ h=>by cases h) hp;simpa[zeo] using this
end L6
namespace L6
open PySem PyProof.Rows PySem.W
theorem zzb:WO (λa b:Int=>decide (a<b)):=⟨λa=>by simp,λa b c h h'=>by simp at *;lia,λa b c h=>by simp at *;lia⟩
theorem zwv:WO (λa b:List Nat=>decide (a<b)):=by
 refine⟨λa=>by simp[Yc],λa b c h h'=>?_,λa b c h=>?_⟩
 .simp only[GW] at *;exact Vb h h'
 .simp only[GW] at *
  by_cases z:a<b
  .exact .inl z
  .exact .inr (YU (YL.mp z) h)
def plt(a b:Int×List Nat):Bool:=decide (a.1<b.1) || (decide (a.1=b.1) && decide (a.2<b.2))
theorem zgf: plt a b=true↔a.1<b.1\/(a.1=b.1/\a.2<b.2):=by simp[plt]
theorem zmc:WO plt:=by
 refine⟨λa=>by simp[plt,Yc],λa b c h h'=>?_,λa b c h=>?_⟩
 .rw[zgf] at *;rcases h with h|⟨h1,h2⟩ <;> rcases h' with h'|⟨h3,h4⟩
  .left;lia
  .left;lia
  .left;lia
  .right;exact⟨by lia,Vb h2 h4⟩
 .rw[zgf,zgf];rw[zgf] at h
  by_cases z1:a.1<b.1
  .exact .inl (.inl z1)
  .by_cases z2:b.1<c.1
   .exact .inr (.inl z2)
   .rcases h with h|⟨h1,h2⟩
    .lia
    .have e1:a.1=b.1:=by lia
     have e2:b.1=c.1:=by lia
     by_cases z:a.2<b.2
     .exact .inl (.inr ⟨e1,z⟩)
     .exact .inr (.inr ⟨e2,YU (YL.mp z) h2⟩)
theorem zv0(a b:List Nat):plt ((a.length:Nat),a) ((b.length:Nat),b)=wlt a b:=by
 unfold plt wlt
 congr 1
 .exact decide_eq_decide.mpr (by show((a.length:Nat):Int)<((b.length:Nat):Int)↔_;lia)
 .congr 1
  exact decide_eq_decide.mpr (by show((a.length:Nat):Int)=((b.length:Nat):Int)↔_;lia)
section
variable {prog:Um}{w:Uq}{A:Us}{s:Ui}{ks vs:List Uf}
theorem ztd{ns:List Int}(hl:ks.length=vs.length)(hk:∀(i:Nat) v,ks[i]? = some v->∃t,v = .int (ns.getD i 0) t):KeysOk prog w A s ks vs (λa b:Int=>decide (a<b)) (λi=>ns.getD i 0):=by
 refine⟨zzb,λh2=>⟨oneType',λE Q q=>?_,λi j x p y q E Q hi hj h=>?_⟩⟩
 .refine kas_kind (T:=.type "int") (by lia) (λv hv=>?_) (by rfl) (by rfl) q;obtain⟨i,hi⟩:=Jn.mp hv;obtain⟨t,rfl⟩:=hk i v hi;exact .now
 .obtain⟨t,rfl⟩:=hk i x (zdw hl hi).1;obtain⟨u,rfl⟩:=hk j y (zdw hl hj).1;exact kat_lt_int h
theorem zse{xs:List Str}(hl:ks.length=vs.length)(hk:∀(i:Nat) v,ks[i]? = some v->∃t,v = .str (xs.getD i Z2) t):KeysOk prog w A s ks vs (λa b:List Nat=>decide (a<b)) (λi=>(xs.getD i Z2).cps.toList):=by
 refine⟨zwv,λh2=>⟨oneType',λE Q q=>?_,λi j x p y q E Q hi hj h=>?_⟩⟩
 .refine kas_kind (T:=.type "str") (by lia) (λv hv=>?_) (by rfl) (by rfl) q;obtain⟨i,hi⟩:=Jn.mp hv;obtain⟨t,rfl⟩:=hk i v hi;exact .now
 .obtain⟨t,rfl⟩:=hk i x (zdw hl hi).1;obtain⟨u,rfl⟩:=hk j y (zdw hl hj).1;exact kas_lt_str h
def zlb(h:Heap)(v:Uf)(n:Int)(x:Str):Prop:=∃(a:Addr) (o:Obj) (t u:Tok) (e:Nat),v = .ref a/\h.get? a=some o/\o.cls = .type "tuple" /\ o.data = .seq #[.int n t,.str x u] e
theorem zpv{ps:List (Int×Str)}(hl:ks.length=vs.length)(hp:ps.length=ks.length)(hk:∀(i:Nat) v p,ks[i]? = some v->ps[i]? = some p->zlb s.heap v p.1 p.2):
 KeysOk prog w A s ks vs plt (λi=>((ps.getD i (0,Z2)).1,(ps.getD i (0,Z2)).2.cps.toList)):=by
 have hk':∀(i:Nat) v,ks[i]? = some v->zlb s.heap v (ps.getD i (0,Z2)).1 (ps.getD i (0,Z2)).2:=λi v e=>by
  have hi:i<ps.length:=by rw[hp];exact(Qk.mp e).1
  have:=hk i v ps[i] e (Qb hi);rw[Qs,Qb hi];exact this
 refine⟨zmc,λh2=>⟨tuples' true,λE Q q=>?_,λi j x p y q E Q hi hj h=>?_⟩⟩
 .have go:∀l:List Uf,(∀v∈l,∃n x,zlb s.heap v n x)->∃fs:List Uf,KatTups s.heap l fs/\fs.length=l.length/\∀f∈fs,∃n t,f = .int n t:=by
   intro l
   induction l with
   | nil=>exact λ_=>⟨[],.nil,rfl,λ_ h=>by cases h⟩
   | cons v l ih=>
     intro h;obtain⟨fs,z1,z2,z3⟩:=ih λv' hv=>h v' (Qc _ hv);obtain⟨n,x,a,o,t,u,e,rfl,ho,hc,hd⟩:=h v Ql;refine⟨.int n t::fs,.cons ho hc hd rfl z1,by simp[z2],λf hf=>?_⟩;rcases Q0.mp hf with rfl|hf
     .exact⟨n,t,rfl⟩
     .exact z3 f hf
  obtain⟨fs,z1,z2,z3⟩:=go ks λv hv=>by
   obtain⟨i,hi⟩:=Jn.mp hv;exact⟨_,_,hk' i v hi⟩
  refine kat_kind (T:=.type "int") z1 (by lia) (λf hf=>?_) (by rfl) q;obtain⟨n,t,rfl⟩:=z3 f hf;exact .now
 .obtain⟨a,o,t,u,e,rfl,ho,hc,hd⟩:=hk' i x (zdw hl hi).1;obtain⟨a',o',t',u',e',rfl,ho',hc',hd'⟩:=hk' j y (zdw hl hj).1;dsimp only at h;generalize (ps.getD i (0,Z2)).1=n at *;generalize (ps.getD i (0,Z2)).2=x at *;generalize (ps.getD j (0,Z2)).1=m at *;generalize (ps.getD j (0,Z2)).2=y at *;refine kat_lt ho hd ho' hd' (kat_cons (wpAny_eqBool_int ?_))
  by_cases en:n=m
  .subst en;rw[show(n == n)=true by simp];refine kat_yes (kat_cons (wpAny_eqBool_str ?_))
   by_cases ex:x=y
   .subst ex;rw[show decide (x=x)=true by simp];refine kat_yes (kat_nil ?_);simpa[plt,Yc] using h
   .rw[GT ex];refine kat_no (kat_one _ _ ?_);have e1:plt (n,x.cps.toList) (n,y.cps.toList)=decide (x.cps.toList<y.cps.toList):=by simp[plt]
    rw[e1] at h;exact lt_str h
  .rw[show(n == m)=false by simpa using en];refine kat_no ?_;have e1:plt (n,x.cps.toList) (m,y.cps.toList)=decide (n<m):=by simp[plt,en]
   rw[e1] at h;exact oneLt_int h
end
end L6
namespace L2
open PySem PySem.Spec
open PyProof.Rows hiding St
section
variable {X:Cx}{pins:List (Addr×Obj)}{σ:St}{H:Hp}{s:Ui}{h':Heap}
theorem Inv.adopt{t':Nat}(I:Inv X pins σ H s)(fp:FpOk X pins H q)(k:∀b u,b≠q->s.heap.get? b=some u->h'.get? b=some u)(new:ObjOk X.prog X.w (upd H q o) h' q o):Inv X pins σ (upd H q o) { s with heap:=h',toks:=t' }:=by
 obtain⟨f0,f1,f2,f3,f4,f5⟩:=fp;have nq:∀c u,H c=some u->c≠q:=λc u e=>zar e f0
 refine I.step (g':=s.gens) (d':=s.drawn) (ch:=[q]) (λb hb=>?_) (λb o _ _ hc e _=>k b o (λz=>hc (by simp[z])) e) (λb o _ _ hc e _=>⟨o.slots,k b o (λz=>hc (by simp[z])) e⟩)
  (λb o hc _ n=>by rw[zaa (λz=>hc (by simp[z]))];exact n) (λb o hc e=>⟨o,k b o (λz=>hc (by simp[z])) e⟩) (λb xs e=>by rw[zaa (nq _ _ e)];exact e) (λb o u e=>by rw[zaa (nq _ _ e)];exact e)
  (λb ps e=>⟨#[],by rw[zaa (nq _ _ e),e];simp⟩) (λm hm=>?_) (λb u e=>?_) I.bare
 .have e:b=q:=by simpa using hb
  subst e;exact⟨f3,f1,f4,f5⟩
 .obtain⟨o,es,ep,ho,r⟩:=hm;exact⟨o,es,ep,k _ o (Zr f1) ho,r⟩
 .by_cases hb:b=q
  .subst hb;rw[zac] at e;cases e;exact new
  .rw[zaa hb] at e;refine(I.hok b u e).stay (λc v hc r=>k c v ?_ r) (λc r=>by rw[zaa (nq _ _ r)];exact r) (λc xs r=>by rw[zaa (nq _ _ r)];exact r) λc oc r=>by rw[zaa (nq _ _ r)];exact r
   rcases hc with z|z
   .rw[z];exact hb
   .exact nq _ _ z
theorem Room.in2{k:Nat}(r:Room (k+1) A):Room k A.in1.in1 :=
 ⟨r.hd,by have:=r.dp;show A.depth+3 * k+5<_;lia,by have:=r.un;show A.units+1+1+16 * k+200<_;lia,r.gd⟩
theorem zu4{k:Nat}(F:FnOk X.prog X.w X.K X.mg X.base CX0 k f fd ps sp)(hr:Room (k+1) X.A)(hb:Binds X.K fd ps [])
 (I:Inv X pins σ H s) (r:Vals vs us) (h:sp vs H Q E0):wpAny (model X.prog X.w) X.A.in1.in1 (call (.ref f) us) (EP X pins σ Q) (λ_ _=>False) s:=by
 have hl:us.length=ps.length:=by rw[<- r.length];exact F.len _ _ _ _ h
 have bd:=hb s us I.kIn (by rw[Qx];exact hl);rw[Qx] at bd;refine G6 (UT (F.run X.A.in1.in1 X.stack s H ⟨us,[]⟩ us vs Q E0 hr.in2 I.env0.in1.in1 bd r h) λr s' hq=>?_)
 cases r with
 | error e=>exact Zl hq
 | ok fl=>
   cases fl with
   | ret u=>exact I.after hq
   | next=>exact Zl hq
   | brk=>exact Zl hq
   | cont=>exact Zl hq
end
end L2
namespace L6
open PySem PySem.Spec
open PyProof.Rows hiding St
open L2 L3
def zfb(sp:Sp)(R:List V->Hp->Prop):List V->List V->Hp->Prop
 | [],ks,H=>R ks H
 | x::xs,ks,H=>sp [x] H (λk H'=>zfb sp R xs (ks ++ [k]) H') E0
inductive KeysV(K:Qa)(H:Hp):List V->(α:Type)->(α->α->Bool)->(Nat->α)->Prop
 | int (ns:List Int):KeysV K H (ns.map V.int) Int (λa b=>decide (a<b)) (λi=>ns.getD i 0)
 | txt (xs:List Str):KeysV K H (xs.map V.str) (List Nat) (λa b=>decide (a<b)) (λi=>(xs.getD i Z2).cps.toList)
 | pair (ps:List (Int×Str)) (ks:List V) (hl:ps.length=ks.length) (h:∀(i:Nat) v p,ks[i]? = some v->ps[i]? = some p->∃a,v = .ref a/\SqT K H a [.int p.1,.str p.2]) :
  KeysV K H ks (Int×List Nat) plt (λi=>((ps.getD i (0,Z2)).1,(ps.getD i (0,Z2)).2.cps.toList))
def zcq{α:Type}(d:α)(xs:List α)(ix:Nat->Nat):List α:=(Q7 xs.length).map λi=>xs.getD (ix i) d
section
variable {X:Cx}{pins:List (Addr×Obj)}{σ:St}{H:Hp}{s:Ui}
theorem Vals.pick(r:Vals xs vs)(bj:Bij ix vs.length):Vals (zcq .non xs ix) (zcb vs ix):=by
 have hl:=r.length
 have go:∀l:List Nat,(∀i∈l,i<vs.length)->Vals (l.map λi=>xs.getD (ix i) .non) (l.map λi=>vs.getD (ix i) .none):=by
  intro l
  induction l with
  | nil=>exact λ_=>.nil
  | cons i l ih=>
    intro h;have hi:=bj.lt i (h i Ql);have e1:xs[ix i]? = some (xs.getD (ix i) .non):=by rw[Qs,Qb (by lia)];rfl
    obtain⟨u,hu,ru⟩:=Vals.get r e1;have e2:vs.getD (ix i) .none=u:=by rw[Qs,hu];rfl
    refine .cons ?_ (ih λj hj=>h j (Qc _ hj));show L2.RelV (xs.getD (ix i) .non) (vs.getD (ix i) .none);rw[e2];exact ru
 unfold zcq zcb;rw[hl];exact go _ λi hi=>Z4.mp hi
theorem zls{α:Type}{blt:α->α->Bool}{k:Nat->α}{kvs:List V}{ks vs:List Uf}{A:Us}(I:Inv X pins σ H s)(h:KeysV X.K H kvs α blt k)(r:Vals kvs ks)(hl:ks.length=vs.length):KeysOk X.prog X.w A s ks vs blt k:=by
 cases h with
 | int ns=>
   refine ztd hl λi v e=>?_;have hi:=(Qk.mp e).1;have hi':i<ns.length:=by have:=r.length;rw[Qe] at this;lia
   obtain⟨u,hu,ru⟩:=Vals.get r (i:=i) (x:=V.int ns[i]) (by rw[Qm,Qb hi'];rfl);rw[e] at hu;cases hu;obtain⟨t,rfl⟩:=ru;exact⟨t,by rw[Qs,Qb hi'];rfl⟩
 | txt xs=>
   refine zse hl λi v e=>?_;have hi:=(Qk.mp e).1;have hi':i<xs.length:=by have:=r.length;rw[Qe] at this;lia
   obtain⟨u,hu,ru⟩:=Vals.get r (i:=i) (x:=V.str xs[i]) (by rw[Qm,Qb hi'];rfl);rw[e] at hu;cases hu;obtain⟨t,rfl⟩:=ru;exact⟨t,by rw[Qs,Qb hi'];rfl⟩
 | pair ps _ hp hk=>
   refine zpv hl (by rw[hp];exact r.length) λi v p e ep=>?_;have hi:=(Qk.mp e).1;have hi':i<kvs.length:=by rw[r.length];exact hi
   obtain⟨u,hu,ru⟩:=Vals.get r (Qb hi');rw[e] at hu;cases hu;obtain⟨a,ea,hs⟩:=hk i _ p (Qb hi') ep;rw[ea] at ru;cases ru;obtain⟨its,rv,⟨o,e1,c,n,d⟩,_⟩:=I.tuple hs
   cases rv with
   | cons r1 rv=>
     cases rv with
     | cons r2 rv=>
       cases rv;obtain⟨t,rfl⟩:=r1;obtain⟨u,rfl⟩:=r2;exact⟨a,o,t,u,n,rfl,e1,c,d⟩
end
end L6
namespace L3
open PySem PySem.Spec
open PyProof.Rows hiding St
open L2
section
variable {X:Cx}
def zl4:V->List V->Hp->VK->Prop:=λx vs H Q=>∃(t y:Str) (i:Int),x = .str t/\vs = [.str y,.int i]/\Q (.int (Ua t y i)) H
theorem zsj:MtR X "str.find" zl4:=by
 intro pins s σ H x vs v us Q I rx rv h;obtain⟨t,y,i,rfl,rfl,q⟩:=h;obtain⟨tk,rfl⟩:=rx
 cases rv with
 | cons r1 rv=>
   cases rv with
   | cons r2 rv=>
     cases rv;obtain⟨t1,rfl⟩:=r1;obtain⟨t2,rfl⟩:=r2;exact SC.find3 ⟨.int _,H,I.tok _,⟨_,rfl⟩,q⟩
end
section
variable {K:Qa}{O:Ob}
def zp1(fo:DE)(g:DA):DE:=λρ Q=>fo ρ λr0=>∃t,r0.d = .str t/\g ρ λds=>∃y i,ds = [.str y,.int i]/\Q (.o (.int (Ua t y i)))
theorem zru{to:TE}(ho:ED K O to fo)(ha:AD K O ta g):ED K O (tBM K "str" zl4 to ta) (zp1 fo g):=λσ H ρ Q Qd S hf k=>by
 refine ho σ H ρ _ _ S hf λv H1 r0 s1 o1 zz=>?_;obtain⟨t,e0,q1⟩:=zz;have i0:=o1.is S.ok S.p;rw[e0] at i0;cases i0;refine⟨rfl,?_⟩;refine ha σ H1 ρ _ _ (S.stp s1) q1 λvs H2 ds s2 is zz=>?_;obtain⟨y,i,e,q⟩:=zz;subst e
 cases is with
 | cons i1 is=>
   cases is with
   | cons i2 is=>
     cases is;cases i1;cases i2;exact⟨t,y,i,rfl,rfl,k _ H2 (.o _) (s1.trans s2) (Is.int _) q⟩
end
section
variable {ι κ:Type}{P:Um}{w:Uq}{K:Qa}{mg:Str->Option Uf}{base:Heap}{k:Nat}{X:ι->Cx}{O:κ->Ob}{a b c:Expr}{fa fb:DE}{pos p:Pos}{es:List Expr}{ga:DA}
theorem zv9{apos:Pos}(C:Ctx3 P w K mg base k X)(ho:E3 K X O a fa)(ha:A3 K X O [b,c] ga)(hbase:∀i,UM a "find" (X i).env (eval a (X i).env)=eval a (X i).env:=by intro i;rfl)
 (hfew:∀i,((U7 pos (Ul [b,c] (X i).env)).all (λx=>!x.1) && (G8 pos (Gd [] (X i).env)).all (λx=>x.1.isSome) && decide (([b,c]:List Expr).length+([]:List UY).length+(if([]:List UY).isEmpty then 0 else 1)<30))=true:=by intro i;rfl)
 (hline:(apos.endLine == pos.line)=true:=by rfl) (hs:∀i,Ul [b,c] (X i).env=(false,eval b (X i).env)::Ul [c] (X i).env:=by intro i;rfl) (hpl:∀i,(U7 pos (Ul [c] (X i).env)).any (·.1)=false:=by intro i;rfl):E3 K X O (.Call (.Attribute a "find" apos) [b,c] [] pos) (zp1 fa ga) :=
 let ⟨_,p1,d1⟩:=ho;let ⟨_,p2,d2⟩:=ha;⟨tBM K "str" zl4 _ _,λi=>by
  have h:=zhs (apos:=apos) (cpos:=pos) PySem.F.plainAttrs_str PySem.F.slot_str_find PySem.F.type_str_find (zsj (X:=X i)) (p1 i) (p2 i) (hbase i) (hfew i) hline (hs i) (hpl i);rw[C.hK] at h
  exact h,λj=>zru (d1 j) (d2 j)⟩
end
end L3
namespace HK
open PySem PySem.Spec PyProof.Rows
mutual
def hk:Ug->Bool
 | .int _=>true
 | .str _=>true
 | .tuple ds=>hks ds
 | _=>false
def hks:List Ug->Bool
 | []=>true
 | d::ds=>hk d && hks ds
end
mutual
def hD(w:Uq):Ug->Int
 | .int i=>hashInt i
 | .str x=>hashStr w x
 | .tuple ds=>reduceHash (Builtin.Tuple.tupleHashOf (hDs w ds))
 | _=>0
def hDs(w:Uq):List Ug->List Int
 | []=>[]
 | d::ds=>hD w d::hDs w ds
end
mutual
def bv:Ug->Bool
 | .int _=>true
 | .tuple ds=>bvs ds
 | _=>false
def bvs:List Ug->Bool
 | []=>true
 | d::ds=>bv d && bvs ds
end
mutual
def dr:Ug->Nat
 | .tuple ds=>drs ds+1
 | _=>1
def drs:List Ug->Nat
 | []=>0
 | d::ds=>dr d+drs ds
end
end HK
namespace HK
open PySem PySem.Spec PyProof.Rows PySem.SetTable
noncomputable instance:DecidableEq Ug:=λa b=>Classical.propDecidable (a=b)
end HK
namespace L3
open PySem PySem.Spec
open PyProof.Rows hiding St
open L2
def ArgV(K:Qa)(O:Ob)(H:Hp)(v:V)(r:DV):Prop:=(∃d,r = .im d/\Is K (unM O) H v d)\/(∃f ds,r = .rd f ds/\SeenV K O H v (.rd f ds))\/(r = .ob/\v=O.v)\/∃T,r = .thr T/\SeenV K O H v (.thr T)
def Args(K:Qa)(O:Ob)(H:Hp):List V->List DV->Prop
 | [],[]=>True
 | v::vs,r::rs=>ArgV K O H v r/\Args K O H vs rs
 | _,_=>False
theorem Args.length{K:Qa}{O:Ob}{H:Hp}:∀{vs:List V} {rs:List DV},Args K O H vs rs->vs.length=rs.length
 | [],[],_=>rfl
 | _::_,_::_,h=>by rw[Qi,Qi,Args.length h.2]
theorem Args.get{K:Qa}{O:Ob}{H:Hp}:∀{vs:List V} {rs:List DV} {i:Nat} {r:DV},Args K O H vs rs->rs[i]? = some r->∃v,vs[i]? = some v/\ArgV K O H v r
 | [],[],_,_,_,e=>by simp at e
 | [],_::_,_,_,h,_=>h.elim
 | _::_,[],_,_,h,_=>h.elim
 | _::_,_::_,0,_,h,e=>by cases e;exact⟨_,rfl,h.1⟩
 | _::_,_::_,i+1,_,h,e=>by
   obtain⟨v,h1,h2⟩:=Args.get (i:=i) h.2 (by simpa using e);exact⟨v,by simpa using h1,h2⟩
def spG(K:Qa)(φ:Ob->Prop)(n:Nat)(f:List DV->(R->Prop)->Prop):Sp:=λvs H Q _=>
 ∃(O:Ob) (rs:List DV) (Qr:R->Prop),O.Ok/\φ O/\O.P H/\rs.length=n/\Args K O H vs rs/\f rs Qr/\∀r,Qr r->∀v H',Stp O H H'->Out K O H H' v r->Q v H'
theorem zu8{K:Qa}{φ:Ob->Prop}{n:Nat}{f:List DV->(R->Prop)->Prop}{ps:List Str}(hn:ps.length=n):∀vs H Q E,spG K φ n f vs H Q E->vs.length=ps.length:=λvs H Q E zz=>by obtain⟨O,rs,_,_,_,_,h,is,_⟩:=zz;rw[is.length,h,hn]
abbrev DGA:=DSt->(List DV->Prop)->Prop
def AG(K:Qa)(O:Ob)(t:TA)(f:DGA):Prop :=
 ∀(σ:St) (H:Hp) (ρ:DSt) (Q:List V->Hp->Prop) (Qd:List DV->Prop),Seen K O H σ ρ->f ρ Qd->(∀vs H' rs,Stp O H H'->Args K O H' vs rs->Qd rs->Q vs H')->t σ H Q
def zoe:DGA:=λ_ Q=>Q []
def gImA(f:DE)(g:DGA):DGA:=λρ Q=>f ρ λr=>g ρ λrs=>Q (.im r.d::rs)
section
variable {K:Qa}{O:Ob}
theorem zx5:AG K O tNil zoe:=λσ H ρ Q Qd S h k=>k [] H [] (.refl _ _) trivial h
theorem z0e(h:ED K O t f)(h':AG K O u g):AG K O (zat t u) (gImA f g):=λσ H ρ Q Qd S hf k=>by
 refine h σ H ρ _ _ S hf λv H1 r s1 o1 q1=>?_;refine h' σ H1 ρ _ _ (S.stp s1) q1 λvs H2 rs s2 a2 q2=>?_;exact k (v::vs) H2 (.im r.d::rs) (s1.trans s2) ⟨.inl ⟨r.d,rfl,Is.stp s2 (λ_ f=>f) (λ_ f=>f) (o1.is S.ok S.p)⟩,a2⟩ q2
def ztz(n:Nat)(g:DGA):DGA:=λρ Q=>∃T,ρ[n]? = some (some (.thr T))/\g ρ λrs=>Q (.thr T::rs)
theorem zxa{n:Nat}(h':AG K O u g):AG K O (zat (tVar n) u) (ztz n g):=λσ H ρ Q Qd S hf k=>by
 obtain⟨T,e,q⟩:=hf;obtain⟨v,h1,h2⟩:=S.at_ n _ e;refine⟨v,h1,?_⟩;refine h' σ H ρ _ _ S q λvs H2 rs s2 a2 q2=>?_;exact k (v::vs) H2 (.thr T::rs) s2 ⟨.inr (.inr (.inr ⟨T,rfl,SeenV.stp s2 h2⟩)),a2⟩ q2
def calG(n:Nat)(f:List DV->(R->Prop)->Prop)(g:DGA):DE:=λρ Q=>g ρ λrs=>rs.length=n/\f rs Q
theorem ztb{n:Nat}(hφ:φ O)(h:AG K O t g):ED K O (zb4 (spG K φ n f) [] E t) (calG n f g):=λσ H ρ Q Qd S q k=>by
 refine h σ H ρ _ _ S q λvs H1 rs s1 is zz=>?_;obtain⟨hn,q1⟩:=zz;rw[Qx];exact⟨O,rs,Qd,S.ok,hφ,s1.p S.p,hn,is,q1,λr qr v H' s2 o2=>k v H' r (s1.trans s2) (o2.ahead S.ok S.p s1) qr⟩
theorem zhz(ok:O.Ok)(p:O.P H)(h:Args K O H vs rs):Rep K O H (λ_ _=>False) H (L2.start N vs) (zbo N rs):=by
 have hl:=h.length;refine⟨ok,p,p,.refl _ _,λ_ _ _ z=>z.elim,λ_ _ z=>z.elim,λi r e=>?_,?_⟩
 .unfold zbo at e
  by_cases hi:i<rs.length
  .rw[Q6 (by simpa using hi),Qm] at e
   cases q:rs[i]? with
   | none=>rw[q] at e;cases e
   | some r'=>
     rw[q] at e;have e':r'=r:=QZ (QZ e);subst e';obtain⟨v,hv,hh⟩:=h.get q;refine⟨v,?_,?_⟩
     .unfold L2.start;rw[Q6 (by rw[Qe,hl];exact hi),Qm,hv];rfl
     .rcases hh with ⟨d,rfl,hd⟩|⟨f,ds,rfl,a,xs,e1,nm,q1,z⟩|⟨rfl,hd⟩|⟨T,rfl,W,hw,z⟩
      .exact hd.weak λa u=>⟨u,λj z=>z⟩
      .exact⟨a,xs,e1,⟨nm,λ_ z=>z⟩,q1,z.weak λa u=>⟨u,λj z=>z⟩⟩
      .exact hd
      .exact⟨W,λb w=>⟨⟨(hw b w).1,λ_ z=>z⟩,(hw b w).2⟩,T.to (λb u f q=>⟨⟨f,λ_ z=>z⟩,q⟩) (λb u w q=>⟨w,q⟩) (TupStay.refl _) z⟩
  .rw[QB (by simpa using hi),QP] at e
   split at e <;> cases e
 .unfold zbo L2.start;rw[Qf,Qf,Qe,Qe,QG,QG,hl]
theorem zze(h:SD K O t g)(ok:O.Ok)(p:O.P H)(ia:Args K O H vs rs)
 (hg:g { nx:=λ_=>Qr (.o .none),rt:=Qr } (zbo N rs)) (hQ:∀r,Qr r->∀v H',Stp O H H'->Out K O H H' v r->Q v H'):t { nx:=λ_ H'=>Q .non H',rt:=Q } (L2.start N vs) H :=
 h H _ _ H _ _ _ (zhz ok p ia) hg ⟨λA' σ' H' ρ' r' _ q=>hQ _ q .non H' r'.st Is.none,λA' σ' H' ρ' r' _ q=>q.elim,λA' σ' H' ρ' r' _ q=>q.elim,λH' v r s o q=>hQ r q v H' s o⟩
end
def AG3{ι κ:Type}(K:Qa)(X:ι->Cx)(O:κ->Ob)(es:List Expr)(f:DGA):Prop:=∃t,(∀i,PA (X i) es t)/\∀j,AG K (O j) t f
section
variable {ι κ:Type}{P:Um}{w:Uq}{K:Qa}{mg:Str->Option Uf}{base:Heap}{k:Nat}{X:ι->Cx}{O:κ->Ob}{a:Expr}{es:List Expr}{fa:DE}{ga:DGA}{pos p:Pos}
theorem zkp:AG3 K X O [] zoe:=⟨tNil,λi=>zbg,λj=>zx5⟩
theorem g_im(ha:E3 K X O a fa)(hs:AG3 K X O es ga)(he:∀i,Ul (a::es) (X i).env=(false,eval a (X i).env)::Ul es (X i).env:=by intro i;rfl):AG3 K X O (a::es) (gImA fa ga):=let ⟨_,p1,d1⟩:=ha;let ⟨_,p2,d2⟩:=hs;⟨_,λi=>zaq (p1 i) (p2 i) (he i),λj=>z0e (d1 j) (d2 j)⟩
theorem z0j(n:Nat)(hs:AG3 K X O es ga)(hN:∀i,(X i).N[n]? = some x:=by intro i;rfl)(hv:∀i,Vis (X i).env.scope x:=by intro i;first|exact Or.inl rfl|exact Or.inr (Or.inl rfl)|exact Or.inr (Or.inr rfl))(hd:(x == ("__debug__" : Str))=false:=by decide)(hcd:(x == ("__classdict__" : Str))=false:=by decide)
 (he:∀i,Ul (.Name x px::es) (X i).env=(false,eval (.Name x px) (X i).env)::Ul es (X i).env:=by intro i;rfl):AG3 K X O (.Name x px::es) (ztz n ga):=let ⟨_,p2,d2⟩:=hs;⟨_,λi=>zaq (zaf (hN i) (hv i) hd hcd) (p2 i) (he i),λj=>zxa (d2 j)⟩
theorem zuv{k' n:Nat}(C:Ctx3 P w K mg base k X)(D:Def3 P w K mg base k' x ps (spG K φ n F))(hφ:∀j,φ (O j))(ha:AG3 K X O (a::es) ga)(hk:k'<=k:=by decide)(hg:∀i,Gl (X i) x:=by intro i;rfl)
 (hdb:(x == ("__debug__" : Str))=false:=by decide) (he:∀i,Ul (a::es) (X i).env=(false,eval a (X i).env)::Ul es (X i).env:=by intro i;rfl) (hpl:∀i,(U7 pos (Ul es (X i).env)).any (·.1)=false:=by intro i;rfl):E3 K X O (.Call (.Name x p) (a::es) [] pos) (calG n F ga):=by
 obtain⟨f,fd,G,m,kp,bn⟩:=D.ex;obtain⟨t,q,d⟩:=ha;refine⟨zb4 (spG K φ n F) [] E0 t,λi=>?_,λj=>ztb (hφ j) (d j)⟩;have G':FnOk (X i).prog (X i).w (X i).K (X i).mg (X i).base CX0 k f fd ps (spG K φ n F):=by rw[C.hP,C.hw,C.hK,C.hmg,C.hb];exact G.mono hk
 exact zc0 G' (C.room i) (hg i) (by rw[C.hmg];exact m) (by rw[C.hK];exact kp) (by rw[C.hK];exact bn) .nil ze1 (q i) hdb (he i) (hpl i)
end
section
variable {P:Um}{w:Uq}{K:Qa}{mg:Str->Option Uf}{base:Heap}{k n:Nat}{x:Str}{st:Stmt}{N ps:List Str}{φ:Ob->Prop}{F:List DV->(R->Prop)->Prop}
theorem mk_G(T:Top3 K mg x st)(S:FnScope N ps (zab st))(hb:∀(kV doc pm:Uf) (an:Option Addr) (cdv ct:Uf) (us:List Uf),us.length=ps.length->U8 (Zo x x (zbi st) (zap st) (zab st) .none kV doc pm an cdv ct) ⟨us,[]⟩=pure (ps.zip us))(hn:ps.length=n)
 (body:∀(f:Addr) (cdv:Uf) (A:Us) (outer:List Env) (s:Ui) (H:Hp) (E:XK) (O:Ob),φ O->Ctx3 P w K mg base k (zbw P w K mg base N x (zab st) f cdv A outer s H E) ->
  ∃g,Ss3 K (zbw P w K mg base N x (zab st) f cdv A outer s H E) (λ_:Unit=>O) (zap st) g/\∀rs Qr,rs.length=n->F rs Qr->g { nx:=λ_=>Qr (.o .none),rt:=Qr } (zbo N rs)):Def3 P w K mg base (k+1) x ps (spG K φ n F):=by
 obtain⟨f,fd,Fu,m⟩:=T.ex;refine⟨f,fd,Fu.ok S (zu8 hn) (λcdv A outer s H vs Q E hr h=>?_),m,Fu.kp,Fu.binds hb⟩;obtain⟨O,rs,Qr,ok,hφ,p,hl,is,q,kk⟩:=h;obtain⟨g,⟨t,h1,h2⟩,h3⟩:=body f cdv A outer s H E O hφ (zcu hr);exact⟨t,h1 (),zze (h2 ()) ok p is (h3 rs Qr hl q) kk⟩
end
theorem zly{α:Type}{enc:α->Ug}{i h:Nat}{ft:DT}{fe:DE}{ρ:DSt}{Q:List Ug->Prop}{as:List α}{p:α->Bool}{e:α->Ug}
 (step:∀a∈as,∀(Pn:Prop) (Py:R->Prop),(p a=false->Pn)->(p a=true->∀r,r.d=e a->Py r)->ft ((Qp h none++ρ).set i (some (.im (enc a)))) λt=>if t=true then fe ((Qp h none++ρ).set i (some (.im (enc a)))) Py else Pn)
 (hz:as.length<=sizeLine) (q:Q ((as.filter p).map e)):zbq h (gN i) ft fe ρ Q (as.map enc) []:=by
 have key:∀(l:List α) (acc:List Ug),(∀a∈l,a∈as)->acc.length+l.length<=sizeLine->Q (acc++(l.filter p).map e)->zbq h (gN i) ft fe ρ Q (l.map enc) acc:=by
  intro l
  induction l with
  | nil=>intro acc _ _ q;show Q acc;simpa using q
  | cons a l ih=>
    intro acc hs hz q;rw[Qi] at hz;refine step a (hs a Ql) (zbq h (gN i) ft fe ρ Q (l.map enc) acc) (λr=>acc.length<sizeLine/\zbq h (gN i) ft fe ρ Q (l.map enc) (acc ++ [r.d])) (λhp=>?_) (λhp r hr=>⟨by lia,?_⟩)
    .refine ih acc (λb hb=>hs b (Qc _ hb)) (by lia) ?_;rw[Zs,hp] at q;exact q
    .refine ih _ (λb hb=>hs b (Qc _ hb)) (by rw[Qf,ZC];lia) ?_;rw[Zs,hp,GO rfl,QL] at q;rw[hr,Qo];exact q
 exact key as [] (λ_ h=>h) (by simpa using hz) (by simpa using q)
end L3
namespace L3
open PySem PySem.Spec
open PyProof.Rows hiding St
open L2 L6
section
variable {K:Qa}{O:Ob}
def KsAre(K:Qa)(H:Hp)(ks:List V)(ps:List (Int×Str)):Prop:=ps.length=ks.length/\∀(i:Nat) v p,ks[i]? = some v->ps[i]? = some p->∃a,v = .ref a/\SqT K H a [.int p.1,.str p.2]
theorem KsAre.stay(t:TupStay H H')(h:KsAre K H ks ps):KsAre K H' ks ps:=⟨h.1,λi v p e1 e2=>let ⟨a,e,q⟩:=h.2 i v p e1 e2;⟨a,e,SqT.stay t q⟩⟩
theorem KsAre.snoc(h:KsAre K H ks ps)(q:SqT K H a [.int p.1,.str p.2]):KsAre K H (ks ++ [.ref a]) (ps ++ [p]):=by
 refine⟨by rw[Qf,Qf,h.1];rfl,λi v p' e1 e2=>?_⟩
 by_cases hi:i<ks.length
 .rw[Q6 hi] at e1;rw[Q6 (by rw[h.1];exact hi)] at e2;exact h.2 i v p' e1 e2
 .rw[QB (Jq hi)] at e1;rw[QB (by rw[h.1];exact Jq hi),h.1] at e2
  cases hk:i-ks.length with
  | zero=>
    rw[hk] at e1 e2;cases e1;cases e2;exact⟨a,rfl,q⟩
  | succ j=>
    rw[hk] at e1;cases e1
theorem zng{i:Int}(h:Is K F H v (.tuple [.int i,.str x])):∃a,v = .ref a/\SqT K H a [.int i,.str x]:=by
 cases h with
 | tuple q r=>
   cases r with
   | cons r1 r2=>
     cases r2 with
     | cons r2 r3=>
       cases r3;cases r1;cases r2;exact⟨_,rfl,q⟩
theorem zqx(ok:O.Ok)(hφ:φ O):
 ∀(ds:List Ug) (xs:List V) (done:List (Int×Str)) (ks:List V) (H:Hp),O.P H->IsAll K (unM O) H xs ds->KsAre K H ks done->(∀d∈ds,F [d] λr=>r.d = .tuple [.int (kf d).1,.str (kf d).2]) ->
   (∀ks' H',Stp O H H'->KsAre K H' ks' (done++ds.map kf)->Z ks' H')->zfb (spO K φ 1 F) Z xs ks H
 | [],[],done,ks,H,p,.nil,hk,_,k=>k ks H (.refl _ _) (by simpa using hk)
 | d::ds,x::xs,done,ks,H,p,.cons ix is,hk,hF,k=>by
   refine⟨O,[d],_,ok,hφ,p,rfl,.cons ix .nil,hF d (by simp),λr hr v H' st o=>?_⟩;have iv:=o.is ok p;rw[hr] at iv;obtain⟨a,rfl,q⟩:=zng iv;refine zqx ok hφ ds xs (done ++ [kf d]) (ks ++ [.ref a]) H' (st.p p) (is.stp st (λ_ f=>f) (λ_ f=>f)) ((hk.stay st.t).snoc q) (λe he=>hF e (Qc _ he)) λks' H2 st2 hk2=>k ks' H2 (st.trans st2) ?_;rw[Qo] at hk2;exact hk2
def kfl(kf:Ug->Int×Str)(d:Ug):Int×List Nat:=((kf d).1,(kf d).2.cps.toList)
def zc5(kf:Ug->Int×Str)(ds:List Ug):List Ug:=ds.mergeSort λp q=>!plt (kfl kf q) (kfl kf p)
theorem zh2{H:Hp}{F:Addr->Prop}{xs:List V}{ds:List Ug}(h:IsAll K F H xs ds){ix:Nat->Nat}{n:Nat}(hx:∀i,i<n->ix i<ds.length):IsAll K F H ((Q7 n).map λi=>xs.getD (ix i) .non) ((Q7 n).map λi=>ds.getD (ix i) .none):=by
 have go:∀l:List Nat,(∀i∈l,ix i<ds.length)->IsAll K F H (l.map λi=>xs.getD (ix i) .non) (l.map λi=>ds.getD (ix i) .none):=by
  intro l
  induction l with
  | nil=>intro _;exact .nil
  | cons i l ih=>
    intro hl;refine .cons ?_ (ih λj hj=>hl j (Qc _ hj));have hi:=hl i (by simp);obtain⟨v,hv,iv⟩:=h.get (i:=ix i) (d:=ds[ix i]) (Qb hi);show Is K F H (xs.getD (ix i) .non) (ds.getD (ix i) .none);rw[Qs,Qs,hv,Qb hi];exact iv
 exact go _ λi hi=>hx i (Z4.mp hi)
end
section
variable {K:Qa}{O:Ob}{H₀ H H':Hp}{A:Nat->Addr->Prop}{σ:St}{ρ:DSt}
theorem Rep.setT{i:Nat}(r:Rep K O H₀ A H σ ρ)(s:Stp O H H1)(stay1:∀b u,H1 b=some u->¬A i b->H' b=some u)(hW:∀b,W b->(A i b\/H b=QF)/\∃o,H' b=some o/\OwnO o)
 (hR:T.R K (unO O (reg A i W)) W H' v):Rep K O H₀ (reg A i W) H' (σ.set i (some v)) (ρ.set i (some (.thg T))) :=
 r.setX s stay1 hW (T.to (λb u f q=>⟨f,q⟩) (λb u w q=>⟨.inr ⟨rfl,w⟩,q⟩) (TupStay.refl _) hR)
theorem Frm.setT{i:Nat}(s:Stp O H H1)(stay:∀b u,H1 b=some u->¬A i b->H' b=some u)(hW:∀b,W b->(A i b\/H b=QF)):Frm O A H (reg A i W) H':=λb o e u=>⟨stay b o (s.s b o e u.1) (u.2 i),u.1,λj z=>by
 rcases z with z|z
 .exact u.2 j z.2
 .rcases hW b z.2 with y|y
  .exact u.2 i y
  .rw[e] at y;cases y⟩
theorem zll{i:Nat}(h:σ[i]? = some (some v)):σ.set i (some v)=σ:=by
 apply Zw;intro j
 by_cases e:i=j
 .subst e;rw[Q4 (Qk.mp h).1,h]
 .rw[QC e]
end
mutual
inductive Ow(K:Qa)(H:Hp):V->Ug->List Addr->Prop
 | leaf {v d}:flat d=true->Is K (λ_=>False) H v d->Ow K H v d []
 | list {a xs ds as}:H a=some (.lst xs)->OwAll K H xs ds as->Ow K H (.ref a) (.list ds) (a::as)
 | tuple {a xs ds as}:H a=some (.tup xs)->OwAll K H xs ds as->Ow K H (.ref a) (.tuple ds) as
inductive OwAll(K:Qa)(H:Hp):List V->List Ug->List Addr->Prop
 | nil:OwAll K H [] [] []
 | cons {v vs d ds as bs}:Ow K H v d as->OwAll K H vs ds bs->OwAll K H (v::vs) (d::ds) (as++bs)
end
section
variable {K:Qa}{H H':Hp}{F:Addr->Prop}
mutual
theorem Ow.to(ts:TupStay H H'):∀{v d as},(∀a∈as,∀xs,H a=some (.lst xs)->H' a=some (.lst xs))->Ow K H v d as->Ow K H' v d as
 | _,_,_,_,.leaf f i=>.leaf f (i.flat ts f)
 | _,_,_,h,.list q r=>.list (h _ (by simp) _ q) (OwAll.to ts (λa m=>h a (Qc _ m)) r)
 | _,_,_,h,.tuple q r=>.tuple (ts _ _ ⟨_,.inl rfl⟩ q) (OwAll.to ts h r)
theorem OwAll.to(ts:TupStay H H'):∀{vs ds as},(∀a∈as,∀xs,H a=some (.lst xs)->H' a=some (.lst xs))->OwAll K H vs ds as->OwAll K H' vs ds as
 | _,_,_,_,.nil=>.nil
 | _,_,_,h,.cons r t=>.cons (Ow.to ts (λa m=>h a (Q9 _ m)) r) (OwAll.to ts (λa m=>h a (Qw _ m)) t)
end
mutual
theorem Ow.mem:∀{v d as a},Ow K H v d as->a∈as->∃xs,H a=some (.lst xs)
 | _,_,_,_,.leaf _ _,m=>(Zt m).elim
 | _,_,_,_,.list q r,m=>by
   rcases Q0.mp m with rfl|m
   .exact⟨_,q⟩
   .exact OwAll.mem r m
 | _,_,_,_,.tuple q r,m=>OwAll.mem r m
theorem OwAll.mem:∀{vs ds as a},OwAll K H vs ds as->a∈as->∃xs,H a=some (.lst xs)
 | _,_,_,_,.nil,m=>(Zt m).elim
 | _,_,_,_,.cons r t,m=>by
   rcases Qu.mp m with m|m
   .exact Ow.mem r m
   .exact OwAll.mem t m
end
mutual
theorem Ow.is:∀{v d as},(∀a∈as,F a)->Ow K H v d as->Is K F H v d
 | _,_,_,_,.leaf f i=>i.flat (TupStay.refl _) f
 | _,_,_,h,.list q r=>.list (h _ (by simp)) q (OwAll.is (λa m=>h a (Qc _ m)) r)
 | _,_,_,h,.tuple q r=>.tuple (.of q) (OwAll.is h r)
theorem OwAll.is:∀{vs ds as},(∀a∈as,F a)->OwAll K H vs ds as->IsAll K F H vs ds
 | _,_,_,_,.nil=>.nil
 | _,_,_,h,.cons r t=>.cons (Ow.is (λa m=>h a (Q9 _ m)) r) (OwAll.is (λa m=>h a (Qw _ m)) t)
end
theorem OwAll.length:∀{vs ds as},OwAll K H vs ds as->vs.length=ds.length
 | _,_,_,.nil=>rfl
 | _,_,_,.cons _ t=>by rw[Qi,Qi,OwAll.length t]
theorem OwAll.append:∀{vs ds as ws es bs},OwAll K H vs ds as->OwAll K H ws es bs->OwAll K H (vs++ws) (ds++es) (as++bs)
 | _,_,_,_,_,_,.nil,s=>s
 | _,_,_,_,_,_,.cons r t,s=>by rw[Qo];exact .cons r (OwAll.append t s)
theorem OwAll.flats:∀{vs ds},IsAll K F H vs ds->L3.flats ds=true->OwAll K H vs ds []
 | _,_,.nil,_=>.nil
 | _,_,.cons r t,f=>by
   rw[L3.flats,QR] at f;exact OwAll.cons (as:=[]) (.leaf f.1 (r.flat (TupStay.refl _) f.1)) (OwAll.flats t f.2)
theorem OwAll.at:∀{vs:List V} {ds as} {k:Nat} {d},OwAll K H vs ds as->ds[k]? = some d->∃v cs rest,vs[k]? = some v/\Ow K H v d cs/\as.Perm (cs++rest) /\
 (∀H' v' d' cs',TupStay H H'->(∀a∈rest,∀xs,H a=some (.lst xs)->H' a=some (.lst xs))->Ow K H' v' d' cs'->∃as',OwAll K H' (vs.set k v') (ds.set k d') as'/\as'.Perm (cs'++rest))
 | _,_,_,_,_,.nil,e=>by simp at e
 | _,_,_,0,_,.cons (as:=as) (bs:=bs) r t,e=>by
   cases e;exact⟨_,as,bs,rfl,r,.refl _,λH' v' d' cs' ts h o=>⟨_,.cons o (t.to ts h),.refl _⟩⟩
 | _,_,_,k+1,d,.cons (as:=as) (bs:=bs) r t,e=>by
   obtain⟨v,cs,rest,h1,h2,h3,h4⟩:=OwAll.at (k:=k) (d:=d) t (by simpa using e);refine⟨v,cs,as++rest,by simpa using h1,h2,?_,λH' v' d' cs' ts h o=>?_⟩
   .exact(h3.append_left as).trans (by rw[<- Qo,<- Qo];exact JI.append_right _)
   .obtain⟨as',o1,o2⟩:=h4 H' v' d' cs' ts (λa m=>h a (Qw _ m)) o;refine⟨_,.cons (r.to ts λa m=>h a (Q9 _ m)) o1,?_⟩;exact(o2.append_left as).trans (by rw[<- Qo,<- Qo];exact JI.append_right _)
end
def OwnV(p:V->Prop)(d:Ug):Thg:=⟨λK F W H v=>p v/\∃as:List Addr,as.Nodup/\(∀a∈as,W a)/\Ow K H v d as,λ{K F F' W W' H H' v} hF hW ts h=>by
 obtain⟨pv,as,n,m,o⟩:=h
 exact⟨pv,as,n,λa z=>by obtain⟨xs,q⟩:=o.mem z;exact(hW a _ (m a z) q).1,o.to ts λa z xs q=>(hW a _ (m a z) q).2⟩⟩
abbrev OwnT(d:Ug):Thg:=OwnV (λ_=>True) d
def dget:Ug->List Nat->Option Ug
 | d,[]=>some d
 | .list ds,k::p=>match ds[k]? with
   | some d=>dget d p
   | none=>QF
 | .tuple ds,k::p=>match ds[k]? with
   | some d=>dget d p
   | none=>QF
 | _,_::_=>QF
def dset:Ug->List Nat->Ug->Ug
 | _,[],e=>e
 | .list ds,k::p,e=>match ds[k]? with
   | some d=>.list (ds.set k (dset d p e))
   | none=>.list ds
 | .tuple ds,k::p,e=>match ds[k]? with
   | some d=>.tuple (ds.set k (dset d p e))
   | none=>.tuple ds
 | d,_::_,_=>d
inductive Nd(H:Hp)(U:Addr->Prop):V->Ug->List Nat->V->Ug->Prop
 | nil {v d}:Nd H U v d [] v d
 | list {a xs ds k v d p w e}:U a->H a=some (.lst xs)->xs[k]? = some v->ds[k]? = some d->Nd H U v d p w e->Nd H U (.ref a) (.list ds) (k::p) w e
 | tuple {a xs ds k v d p w e}:H a=some (.tup xs)->xs[k]? = some v->ds[k]? = some d->Nd H U v d p w e->Nd H U (.ref a) (.tuple ds) (k::p) w e
section
variable {K:Qa}{H H':Hp}{U:Addr->Prop}
theorem Nd.to(ts:TupStay H H')(h:∀a xs,U a->H a=some (.lst xs)->H' a=some (.lst xs)):∀{v d p w e},Nd H U v d p w e->Nd H' U v d p w e
 | _,_,_,_,_,.nil=>.nil
 | _,_,_,_,_,.list u q h1 h2 t=>.list u (h _ _ u q) h1 h2 (t.to ts h)
 | _,_,_,_,_,.tuple q h1 h2 t=>.tuple (ts _ _ ⟨_,.inl rfl⟩ q) h1 h2 (t.to ts h)
theorem Nd.get:∀{v d p w e},Nd H U v d p w e->dget d p=some e
 | _,_,_,_,_,.nil=>rfl
 | _,_,_,_,_,.list u q h1 h2 t=>by rw[dget,h2];exact t.get
 | _,_,_,_,_,.tuple q h1 h2 t=>by rw[dget,h2];exact t.get
theorem Nd.snocL{k:Nat}(u:U a)(q:H a=some (.lst xs))(h1:xs[k]? = some w)(h2:ds[k]? = some e):∀{v d p},Nd H U v d p (.ref a) (.list ds)->Nd H U v d (p ++ [k]) w e
 | _,_,_,.nil=>.list u q h1 h2 .nil
 | _,_,_,.list u' q' g1 g2 t=>.list u' q' g1 g2 (t.snocL u q h1 h2)
 | _,_,_,.tuple q' g1 g2 t=>.tuple q' g1 g2 (t.snocL u q h1 h2)
theorem Nd.snocT{k:Nat}(q:H a=some (.tup xs))(h1:xs[k]? = some w)(h2:ds[k]? = some e):∀{v d p},Nd H U v d p (.ref a) (.tuple ds)->Nd H U v d (p ++ [k]) w e
 | _,_,_,.nil=>.tuple q h1 h2 .nil
 | _,_,_,.list u' q' g1 g2 t=>.list u' q' g1 g2 (t.snocT q h1 h2)
 | _,_,_,.tuple q' g1 g2 t=>.tuple q' g1 g2 (t.snocT q h1 h2)
theorem zbt: ¬flat (.list ds)=true:=by simp[flat]
theorem zjz:∀{p:List Nat} {d e:Ug},flat d=true->dget d p=some e->flat e=true
 | [],d,e,f,h=>by cases h;exact f
 | k::p,d,e,f,h=>by
   cases d with
   | tuple ds=>
     rw[dget] at h
     cases q:ds[k]? with
     | none=>rw[q] at h;cases h
     | some x=>
       rw[q] at h;have f':flats ds=true:=by rw[flat] at f;exact f
       exact zjz (flats_iff.mp f' x (Q5 q)) h
   | list ds=>exact absurd f zbt
   | _=>simp[dget] at h
theorem Ow.put:∀{v0 d as p} {a:Addr} {es:List Ug},Ow K H v0 d as->as.Nodup->Nd H U v0 d p (.ref a) (.list es)->∃xs cs rest,H a=some (.lst xs)/\OwAll K H xs es cs/\as.Perm (a::cs++rest) /\
 ∀H' ys es' bs,TupStay H H'->(∀b∈rest,∀zs,H b=some (.lst zs)->H' b=some (.lst zs))->H' a=some (.lst ys)->OwAll K H' ys es' bs->∃as',Ow K H' v0 (dset d p (.list es')) as'/\as'.Perm (a::bs++rest)
 | _,_,_,[],_,_,o,nd,.nil=>by
   cases o with
   | leaf f i=>exact absurd f zbt
   | list q r=>exact⟨_,_,[],q,r,by simp,λH' ys es' bs ts h hy o'=>⟨_,.list hy o',by simp⟩⟩
 | _,_,_,k::p,a,es,o,nd,t=>by
   cases t with
   | @list a0 xs ds _ v d1 _ _ _ u q h1 h2 t=>
     cases o with
     | leaf f i=>exact absurd f zbt
     | @list _ xs0 ds0 as0 q0 r0=>
       rw[q] at q0;cases q0;obtain⟨v',cs,rest,g1,g2,g3,g4⟩:=r0.at h2;rw[h1] at g1;cases g1;have n0:(cs++rest).Nodup:=g3.nodup_iff.mp (QW.mp nd).2;obtain⟨ys,cs',rest',k1,k2,k3,k4⟩:=Ow.put g2 (Z9.mp n0).1 t;refine⟨ys,cs',a0::(rest'++rest),k1,k2,?_,λH' zs es' bs ts h hy o'=>?_⟩
       .have e1:as0.Perm (a::cs'++(rest'++rest)):=g3.trans (by rw[<- Qo];exact k3.append_right rest);exact(e1.cons a0).trans (Yt.symm)
       .obtain⟨as1,o1,p1⟩:=k4 H' zs es' bs ts (λb m=>h b (Qc _ (Q9 _ m))) hy o';obtain⟨as2,o2,p2⟩:=g4 H' v _ as1 ts (λb m=>h b (Qc _ (Qw _ m))) o1
        have es0:xs.set k v=xs:=by
         apply Zw;intro j
         by_cases e:k=j
         .subst e;rw[Q4 (Qk.mp h1).1,h1]
         .rw[QC e]
        rw[es0] at o2;refine⟨a0::as2,?_,?_⟩
        .rw[dset,h2];exact .list (h a0 (by simp) _ q) o2
        .have e2:as2.Perm (a::bs++(rest'++rest)):=p2.trans (by rw[<- Qo];exact p1.append_right rest);exact(e2.cons a0).trans (Yt.symm)
   | @tuple a0 xs ds _ v d1 _ _ _ q h1 h2 t=>
     cases o with
     | leaf f i=>
       have:=zjz f (Nd.get (.tuple (U:=U) q h1 h2 t));exact absurd this zbt
     | @tuple _ xs0 ds0 as0 q0 r0=>
       rw[q] at q0;cases q0;obtain⟨v',cs,rest,g1,g2,g3,g4⟩:=r0.at h2;rw[h1] at g1;cases g1;have n0:(cs++rest).Nodup:=g3.nodup_iff.mp nd;obtain⟨ys,cs',rest',k1,k2,k3,k4⟩:=Ow.put g2 (Z9.mp n0).1 t;refine⟨ys,cs',rest'++rest,k1,k2,?_,λH' zs es' bs ts h hy o'=>?_⟩
       .exact g3.trans (by rw[<- Qo];exact k3.append_right rest)
       .obtain⟨as1,o1,p1⟩:=k4 H' zs es' bs ts (λb m=>h b (Q9 _ m)) hy o';obtain⟨as2,o2,p2⟩:=g4 H' v _ as1 ts (λb m=>h b (Qw _ m)) o1
        have es0:xs.set k v=xs:=by
         apply Zw;intro j
         by_cases e:k=j
         .subst e;rw[Q4 (Qk.mp h1).1,h1]
         .rw[QC e]
        rw[es0] at o2;refine⟨as2,?_,?_⟩
        .rw[dset,h2];exact .tuple (ts _ _ ⟨_,.inl rfl⟩ q) o2
        .exact p2.trans (by rw[<- Qo];exact p1.append_right rest)
end
section
variable {K:Qa}{O:Ob}{H₀ H H':Hp}{A:Nat->Addr->Prop}{σ:St}{ρ:DSt}
def vTr(i:Nat)(p:V->Prop:=λ_=>True):DE:=λρ Q=>∃d,ρ[i]? = some (some (.thg (OwnV p d)))/\Q (.o d)
theorem zo7{i:Nat}{d:Ug}(S:Seen K O H σ ρ)(e:ρ[i]? = some (some (.thg (OwnV p d)))):∃v as,σ[i]? = some (some v)/\as.Nodup/\Ow K H v d as/\∀a∈as,¬O.M a:=by
 obtain⟨v,hv,W,hw,_,as,nd,m,o⟩:=S.at_ i _ e;exact⟨v,as,hv,nd,o,λa z=>(hw a (m a z)).1⟩
theorem zv2{i:Nat}: ED K O (tVar i) (vTr i p):=λσ H ρ Q Qd S h k=>by
 obtain⟨d,e,h⟩:=h;obtain⟨v,as,hv,nd,o,m⟩:=zo7 S e;exact⟨v,hv,k _ H (.o d) (.refl _ _) (o.is m) h⟩
abbrev DOw:=DSt->(Ug->Prop)->Prop
def EOw(K:Qa)(O:Ob)(t:TE)(f:DOw):Prop :=
 ∀(σ:St) (H:Hp) (ρ:DSt) (Q:VK) (Qd:Ug->Prop),Seen K O H σ ρ->f ρ Qd->(∀v H' d as,Stp O H H'->Ow K H' v d as->as.Nodup->(∀a∈as,H a=QF)->Qd d->Q v H')->t σ H Q
def ztm(f:DE):DOw:=λρ Q=>f ρ λr=>match r with
 | .o d=>flat d=true/\Q d
 | .n ds=>flats ds=true/\Q (.list ds)
theorem zwo(h:ED K O t f):EOw K O t (ztm f):=λσ H ρ Q Qd S hf k=>by
 refine h σ H ρ _ _ S hf λv H1 r s1 o1 q=>?_
 cases r with
 | o d=>exact k v H1 d [] s1 (.leaf q.1 (Is.flat (TupStay.refl _) o1 q.1)) .nil (λ_ m=>(Zt m).elim) q.2
 | n ds=>
   obtain⟨a,xs,rfl,hn,hl,hs⟩:=o1;exact k _ H1 (.list ds) [a] s1 (.list hl (OwAll.flats hs q.1)) (by simp) (λb m=>by rw[Qn.mp m];exact hn) q.2
theorem zfm{d:Ug}{as:List Addr}(s:Stp O H H')(n:∀a∈as,¬O.M a)(o:Ow K H v d as):Ow K H' v d as:=o.to s.t λa m xs q=>s.s a _ q (n a m)
theorem zba(ok:O.Ok)(p:O.P H)(h:H a=QF):¬O.M a:=λm=>by obtain⟨o,z⟩:=ok.here H a p m;rw[h] at z;cases z
def zko(i:Nat)(f:DOw):DS:=λDd ρ=>f ρ λd=>Dd.nx (ρ.set i (some (.thg (OwnT d))))
theorem ziu{i:Nat}(h:EOw K O t f):SD K O (tAsg t (za0 i)) (zko i f):=λH₀ A σ H ρ D Dd r q P=>by
 refine h σ H ρ _ _ r.seen q λv H1 d as s1 o1 n1 f1 q1=>?_;have m1:∀a∈as,¬O.M a:=λa m=>zba r.ok r.p (f1 a m);have hW:∀b,b∈as->(A i b\/H b=QF)/\∃o,H1 b=some o/\OwnO o:=λb m=>⟨.inr (f1 b m),by obtain⟨xs,z⟩:=o1.mem m;exact⟨_,z,.lst⟩⟩;exact P.nx _ _ H1 _ (r.setT (W:=λb=>b∈as) (T:=OwnT d) s1 (λb u e _=>e) hW ⟨trivial,as,n1,λ_ m=>m,o1⟩) (.setT s1 (λb u e _=>e) λb m=>(hW b m).1) q1
abbrev DL:=DSt->Ug->(List Nat->Ug->Prop)->Prop
def LocE(K:Qa)(O:Ob)(i:Nat)(t:TE)(f:DL):Prop :=
 ∀(σ:St) (H:Hp) (ρ:DSt) (Q:VK) (Qd:List Nat->Ug->Prop) (U:Addr->Prop) (d:Ug) (v0:V) (as:List Addr) (pp:V->Prop),Seen K O H σ ρ->ρ[i]? = some (some (.thg (OwnV pp d)))->σ[i]? = some (some v0)->Ow K H v0 d as->(∀a∈as,U a)->(∀a,U a->¬O.M a)->f ρ d Qd ->
   (∀v H' p e cs,Stp O H H'->Nd H' U v0 d p v e->Ow K H' v e cs->(∀a∈cs,U a)->Qd p e->Q v H')->t σ H Q
def lVar:DL:=λ_ d Q=>Q [] d
theorem zzc{i:Nat}:LocE K O i (tVar i) lVar:=λσ H ρ Q Qd U d v0 as pp S e hv o m n hf k=>⟨v0,hv,k v0 H [] d as (.refl _ _) .nil o m hf⟩
def kids:Ug->Option (List Ug)
 | .list ds=>some ds
 | .tuple ds=>some ds
 | _=>QF
def lIx(f1:DL)(f2:DE):DL:=λρ d Q=>f1 ρ d λp e=>f2 ρ λr=>∃(z:Int) (ds:List Ug) (k:Nat) (e':Ug),flat e=false/\r.d = .int z/\kids e=some ds/\ixN ds.length z=some k/\ds[k]? = some e'/\Q (p ++ [k]) e'
theorem zzw{i:Nat}(h1:LocE K O i t1 f1)(h2:ED K O t2 f2):LocE K O i (tOp (rIx K) t1 t2) (lIx f1 f2):=λσ H ρ Q Qd U d v0 as pp S e hv o m n hf k=>by
 refine h1 σ H ρ _ _ U d v0 as pp S e hv o m n hf λv H1 p x cs s1 nd o1 m1 q0=>?_;refine h2 σ H1 ρ _ _ (S.stp s1) q0 λy H2 r s2 o2 zz=>?_;obtain⟨z,ds,j,e',fl,er,ek,ix,he,q⟩:=zz;clear q0;have nd2:=nd.to s2.t λa xs u q=>s2.s a _ q (n a u);have oo:=zfm s2 (λa z=>n a (m1 a z)) o1;have iy:=o2.is S.ok (s1.p S.p);rw[er] at iy;cases iy
 cases oo with
 | leaf f1 _=>rw[fl] at f1;cases f1
 | @list a xs ds' as' q1 r1=>
   cases ek;obtain⟨w,cs',rest,g1,g2,g3,_⟩:=r1.at he;refine .inl ⟨a,xs,z,w,rfl,rfl,.of q1,?_,k w H2 (p ++ [j]) e' cs' (s1.trans s2) (nd2.snocL (m1 a (by simp)) q1 g1 he) g2 (λb z=>m1 b (Qc _ (g3.mem_iff.mpr (Q9 _ z)))) q⟩;unfold atI;rw[r1.length,ix];exact g1
 | @tuple a xs ds' as' q1 r1=>
   cases ek;obtain⟨w,cs',rest,g1,g2,g3,_⟩:=r1.at he;refine .inr (.inl ⟨a,xs,z,w,rfl,rfl,.of q1,?_,k w H2 (p ++ [j]) e' cs' (s1.trans s2) (nd2.snocT q1 g1 he) g2 (λb z=>m1 b (g3.mem_iff.mpr (Q9 _ z))) q⟩);unfold atI;rw[r1.length,ix];exact g1
theorem zug{as bs:List Addr}(h:as.Perm bs){a:Addr}(m:a∈bs):a∈as:=h.mem_iff.mpr m
theorem Rep.putT{i:Nat}{d:Ug}{v0:V}{a:Addr}{p:List Nat}{es:List Ug}{H1 H2:Hp}{pp:V->Prop}(r:Rep K O H₀ A H σ ρ)(e:ρ[i]? = some (some (.thg (OwnV pp d))))(hv:σ[i]? = some (some v0))(s1:Stp O H H1)(s2:Stp O H1 H2)(nd:Nd H1 (A i) v0 d p (.ref a) (.list es)):
 ∃xs cs,H2 a=some (.lst xs)/\OwAll K H2 xs es cs/\xs.length=es.length/\(∀ys,TupStay H2 (upd H2 a (.lst ys)))/\a ∉ cs/\∀ys es' bs news,OwAll K (upd H2 a (.lst ys)) ys es' bs->bs.Perm (cs++news)->news.Nodup->(∀b∈news,H1 b=QF/\∃zs,H2 b=some (.lst zs)) ->
   ∃W:Addr->Prop,Rep K O H₀ (reg A i W) (upd H2 a (.lst ys)) σ (ρ.set i (some (.thg (OwnV pp (dset d p (.list es'))))))/\Frm O A H (reg A i W) (upd H2 a (.lst ys)):=by
 obtain⟨v1,hv1,pv,as,n0,m0,o0⟩:=r.at_ i _ e;rw[hv] at hv1;cases hv1;have nM:∀b,A i b->¬O.M b:=λb z=>(r.own i b z).2.2;have s12:=s1.trans s2;have o2:=zfm s12 (λb m=>nM b (m0 b m)) o0;have nd2:=nd.to s2.t λb xs u q=>s2.s b _ q (nM b u);obtain⟨xs,cs,rest,hx,ox,pm,put⟩:=o2.put n0 nd2;have n1:(a::cs++rest).Nodup:=pm.nodup_iff.mp n0;have Aa:A i a:=m0 a (zug pm (by simp));have stay:∀ys b u,H2 b=some u->¬A i b->upd H2 a (.lst ys) b=some u:=λys b u q z=>by rw[zaa (show b≠a from λw=>z (by rw[w];exact Aa))];exact q
 have ts:∀ys,TupStay H2 (upd H2 a (.lst ys)):=λys=>(r.stp s12).tstay (stay ys);refine⟨xs,cs,hx,ox,ox.length,ts,λz=>(QW.mp n1).1 (Q9 _ z),λys es' bs news oy pb nn hn=>?_⟩
 have ra:∀b∈rest,b≠a:=λb m w=>by
  subst w;exact(QW.mp n1).1 (Qw _ m)
 obtain⟨as',o3,pm'⟩:=put _ ys es' bs (ts ys) (λb m zs q=>by rw[zaa (ra b m)];exact q) zac oy
 have pf:as'.Perm (as++news):=by
  refine pm'.trans ?_;have e1:(a::bs++rest).Perm (a::(cs++news)++rest):=(pb.append_right rest).cons a;refine e1.trans ?_
  have e2:(a::(cs++news)++rest).Perm (a::cs++rest++news):=by
   show(a::(cs++news++rest)).Perm (a::(cs++rest++news));refine VR a ?_;rw[Qo,Qo];exact JI.append_left cs
  exact e2.trans (pm.symm.append_right news)
 have fr:∀b∈news,H b=QF:=λb m=>by
  obtain⟨h1,zs,h2⟩:=hn b m
  cases q:H b with
  | none=>rfl
  | some o=>
    have:¬O.M b:=zba r.ok (s1.p r.p) h1;rw[s1.s b o q this] at h1;cases h1
 have nd3:as'.Nodup:=pf.nodup_iff.mpr (Z9.mpr ⟨n0,nn,λb m c m' w=>by
  subst w;obtain⟨_,⟨o,q,_⟩,_⟩:=r.own i b (m0 b m);rw[fr b m'] at q
  cases q⟩)
 have hW:∀b,b∈as'->(A i b\/H b=QF)/\∃o,upd H2 a (.lst ys) b=some o/\OwnO o:=λb m=>by
  refine⟨?_,by obtain⟨zs,z⟩:=o3.mem m;exact⟨_,z,.lst⟩⟩;rcases Qu.mp (pf.mem_iff.mp m) with m|m
  .exact .inl (m0 b m)
  .exact .inr (fr b m)
 refine⟨λb=>b∈as',?_,Frm.setT s12 (stay ys) λb m=>(hW b m).1⟩;have rr:=r.setT (T:=OwnV pp (dset d p (.list es'))) (v:=v0) s12 (stay ys) hW ⟨pv,as',nd3,λ_ m=>m,o3⟩;rw[zll hv] at rr;exact rr
def ztn(i:Nat)(fl:DL)(fe:DE)(pp:V->Prop:=λ_=>True):DS:=λDd ρ=>∃d,ρ[i]? = some (some (.thg (OwnV pp d)))/\fl ρ d λp e=>∃ds,e = .list ds/\fe ρ λr=>∃es,r.d = .list es/\flats es=true/\ds.length+es.length<=sizeLine/\Dd.nx (ρ.set i (some (.thg (OwnV pp (dset d p (.list (ds++es)))))))
theorem zss{i:Nat}(hl:LocE K O i tr fl)(he:ED K O te fe):SD K O (ze7 (tBM K "list" zdp tr (zat te tNil))) (ztn i fl fe pp):=λH₀ A σ H ρ D Dd r q P=>by
 obtain⟨d,e,q⟩:=q;obtain⟨v0,hv,_,as,n0,m0,o0⟩:=r.at_ i _ e;refine hl σ H ρ _ _ (A i) d v0 as pp r.seen e hv o0 m0 (λa z=>(r.own i a z).2.2) q λv H1 p x cs s1 nd o1 m1 q1=>?_;obtain⟨ds,rfl,q1⟩:=q1
 cases o1 with
 | leaf f _=>exact absurd f zbt
 | @list a xs _ cs' hx ox=>
   refine⟨.inl ⟨rfl,xs,.of hx⟩,?_⟩;refine he σ H1 ρ _ _ (r.stp s1).seen q1 λw H2 y s2 o2 zz=>?_;obtain⟨es,ey,fs,hz,q2⟩:=zz;obtain⟨xs2,cs2,hx2,ox2,ln,ts,nc,put⟩:=r.putT e hv s1 s2 nd;have iw:=o2.is r.ok (s1.p r.p);rw[ey] at iw
   cases iw with
   | @list b zs _ f1 h1 i1=>
     refine⟨a,b,xs2,zs,rfl,rfl,hx2,h1,by rw[ln,i1.length];exact hz,?_⟩;have up:∀b,b≠a->∀us,H2 b=some (.lst us)->upd H2 a (.lst (xs2++zs)) b=some (.lst us):=λb n us q=>by rw[zaa n];exact q
     obtain⟨W,rr,ff⟩:=put (xs2++zs) (ds++es) (cs2 ++ []) [] ((ox2.to (ts _) λb m us q=>up b (λz=>nc (z ▸ m)) us q).append ((OwAll.flats i1 fs).to (ts _) λb m=>(Zt m).elim)) (.refl _) .nil λb m=>(Zt m).elim;exact P.nx _ σ _ _ rr ff q2
end
def Eo3{ι κ:Type}(K:Qa)(X:ι->Cx)(O:κ->Ob)(e:Expr)(f:DOw):Prop:=∃t,(∀i,PE (X i) e t)/\∀j,EOw K (O j) t f
def Lo3{ι κ:Type}(K:Qa)(X:ι->Cx)(O:κ->Ob)(n:Nat)(e:Expr)(f:DL):Prop:=∃t,(∀i,PE (X i) e t)/\∀j,LocE K (O j) n t f
section
variable {ι κ:Type}{P:Um}{w:Uq}{K:Qa}{mg:Str->Option Uf}{base:Heap}{k:Nat}{X:ι->Cx}{O:κ->Ob}{a b:Expr}{es:List Expr}{fa fb:DE}{fo:DOw}{go:DOs}{fl:DL}{st:Stmt}{g:DS}{pos:Pos}
theorem zbz(n:Nat)(hN:∀i,(X i).N[n]? = some x:=by intro i;rfl)(hv:∀i,Vis (X i).env.scope x:=by intro i;first|exact Or.inl rfl|exact Or.inr (Or.inl rfl)|exact Or.inr (Or.inr rfl))
 (hd:(x == ("__debug__" : Str))=false:=by decide) (hcd:(x == ("__classdict__" : Str))=false:=by decide) (p:V->Prop:=λ_=>True):E3 K X O (.Name x pos) (vTr n p):=⟨_,λi=>zaf (hN i) (hv i) hd hcd,λj=>zv2⟩
theorem zfj(h:E3 K X O a fa):Eo3 K X O a (ztm fa):=let ⟨_,p,d⟩:=h;⟨_,p,λj=>zwo (d j)⟩
theorem z0x(n:Nat)(hN:∀i,(X i).N[n]? = some x:=by intro i;rfl)(hv:∀i,Vis (X i).env.scope x:=by intro i;first|exact Or.inl rfl|exact Or.inr (Or.inl rfl)|exact Or.inr (Or.inr rfl))
 (hd:(x == ("__debug__" : Str))=false:=by decide) (hcd:(x == ("__classdict__" : Str))=false:=by decide):Lo3 K X O n (.Name x pos) lVar:=⟨_,λi=>zaf (hN i) (hv i) hd hcd,λj=>zzc⟩
theorem l_ix{n:Nat}(C:Ctx3 P w K mg base k X)(ha:Lo3 K X O n a fl)(hb:E3 K X O b fb)(hs:zep b:=by intro _ _;rfl):Lo3 K X O n (.Subscript a b pos) (lIx fl fb) :=
 let ⟨_,p1,d1⟩:=ha;let ⟨_,p2,d2⟩:=hb;⟨tOp (rIx K) _ _,λi=>by have h:=zkt (pos:=pos) (zhf (X:=X i)) (p1 i) (p2 i) hs;rw[C.hK] at h;exact h,λj=>zzw (d1 j) (d2 j)⟩
theorem zmk(n:Nat)(ha:Eo3 K X O a fo)(hN:∀i,(X i).N.Nodup:=by intro i;exact GQ (by kernel_rfl))(hi:∀i,(X i).N[n]? = some x:=by intro i;rfl)(hx:∀i,Loc (X i).env.scope x:=by intro i;first|exact Or.inl rfl|exact Or.inr rfl)
 (hs:∀i,UB a (some (.Name x px)) pos.line (X i).env=pure false:=by intro i;rfl) (hf:∀i,(X i).fn x=true\/(X i).env.scope.names.lookup x=some .local:=by intro i;first|exact .inl rfl|exact .inr rfl):S3 K X O (.Assign [.Name x px] a pos) (zko n fo) :=
 let ⟨_,p,d⟩:=ha;⟨_,λi=>zb9 (hN i) (hi i) (hx i) (p i) (hs i) (hf i),λj=>ziu (d j)⟩
theorem zvj(n:Nat){apos cpos:Pos}(C:Ctx3 P w K mg base k X)(hr:Lo3 K X O n a fl)(hb:E3 K X O b fb)
 (hbase:∀i,UM a "extend" (X i).env (eval a (X i).env)=eval a (X i).env:=by intro i;rfl)
 (hfew:∀i,((U7 cpos (Ul [b] (X i).env)).all (λx=>!x.1) && (G8 cpos (Gd [] (X i).env)).all (λx=>x.1.isSome) && decide (([b]:List Expr).length+([]:List UY).length+(if([]:List UY).isEmpty then 0 else 1)<30))=true:=by intro i;rfl)
 (hline:(apos.endLine == cpos.line)=true:=by rfl) (hs:∀i,Ul [b] (X i).env = [(false,eval b (X i).env)]:=by intro i;rfl) (hsw:∀i,UB (.Call (.Attribute a "extend" apos) [b] [] cpos) QF pos.line (X i).env=pure false:=by intro i;rfl) (pp:V->Prop:=λ_=>True) :
 S3 K X O (.Expr (.Call (.Attribute a "extend" apos) [b] [] cpos) pos) (ztn n fl fb pp):=let ⟨_,p1,d1⟩:=hr;let ⟨_,p2,d2⟩:=hb;
 ⟨ze7 (tBM K "list" zdp _ (zat _ tNil)),λi=>by
  have h:=zhs (apos:=apos) (cpos:=cpos) ZK Ym Yn (zhe (X:=X i)) (p1 i) (zaq (p2 i) zbg (hs i)) (hbase i) (hfew i) hline (hs i);rw[C.hK] at h
  exact zi6 h (hsw i),λj=>zss (d1 j) (d2 j)⟩
end
end L3
namespace L3
open PySem PySem.Spec
open PyProof.Rows hiding St
open L2
open PySem.W (CodeHd tabObj fnMade fnX)
def LkF(f:Addr)(h:Heap):Prop:=∀M:Model,∃k,(k=Keeper.frame\/k=Keeper.machine\/k=Keeper.boundFrame)/\PySem.W.Looks M h (keeperOf (.ref f)) k
def Kn(H:Hp)(G:List (Addr×Obj×Addr)):Prop:=∀p∈G,H p.1=some (.frz p.2.1 (.own p.2.2))
structure Calls(P:Um)(w:Uq)(K:Qa)(mg:Str->Option Uf)(base:Heap)(k:Nat)(f:Addr)(G:List (Addr×Obj×Addr))(ws:List V)(n:Nat)(sp:Sp):Prop where
 at_:∀(A:Us) (outer:List Env) (s:Ui) (H:Hp),Env0 P w K mg base A outer s H->Kn H G->LkF f s.heap
 run:∀(A:Us) (outer:List Env) (s:Ui) (H:Hp) (us:List Uf) (vs:List V) (Q:VK),Room k A->Env0 P w K mg base A outer s H->Kn H G->Vals vs us->vs.length=n->sp (vs++ws) H Q E0->Gn (model P w) A (.call (.ref f) ⟨us,[]⟩) (CR CX0 outer P w H s Q E0) s
def zhw(P:Um)(w:Uq)(mg:Str->Option Uf)(base:Heap)(k n:Nat)(sp:Qa->Sp)(fs:List Ug):Thg :=
 ⟨λK F _ H v=>∃(f:Addr) (G:List (Addr×Obj×Addr)) (ws:List V),v = .ref f/\Kn H G/\(∀p∈G,F p.1)/\IsAll K F H ws fs/\Calls P w K mg base k f G ws n (sp K),
  λhF _ ts ⟨f,G,ws,e,g,gF,i,c⟩=>⟨f,G,ws,e,λp hp=>(hF p.1 _ (gF p hp) (g p hp)).2,λp hp=>(hF p.1 _ (gF p hp) (g p hp)).1,i.to (λa xs f q=>hF a _ f q) (λa xs q=>SqT.stay (h:=q) ts),c⟩⟩
structure HasTab(P:Addr)(qs:List (Pos×Str))(O:Ob):Prop where
 m:O.M P
 at_:∀H,O.P H->∃ps,H P=some (.cod ps qs)
 upd:∀H ps,O.P H->O.P (upd H P (.cod ps qs))
section
variable {X:Cx}{e:Expr}{es:List Expr}{t:TA}{pos p:Pos}{k i:Nat}{x:Str}
def zpx(P:Um)(w:Uq)(K:Qa)(mg:Str->Option Uf)(base:Heap)(k i:Nat)(t:TA):TE:=λσ H Q=>∃(f:Addr) (G:List (Addr×Obj×Addr)) (ws:List V) (n:Nat) (sp:Sp),σ[i]? = some (some (.ref f))/\Kn H G/\Calls P w K mg base k f G ws n sp/\t σ H λvs H1=>Kn H1 G/\vs.length=n/\sp (vs++ws) H1 Q E0
theorem zsl(hr:Room k X.A)(hN:X.N[i]? = some x)(hv:Vis X.env.scope x)(ha:PA X (e::es) t)(hd:(x == ("__debug__" : Str))=false:=by decide)(hcd:(x == ("__classdict__" : Str))=false:=by decide)(he:Ul (e::es) X.env=(false,eval e X.env)::Ul es X.env:=by rfl)(hpl:(U7 pos (Ul es X.env)).any (·.1)=false:=by rfl):
 PE X (.Call (.Name x p) (e::es) [] pos) (zpx X.prog X.w X.K X.mg X.base k i t):=by
 intro pins s σ H Q I h;obtain⟨f,G,ws,n,sp,hs,g,c,h⟩:=h;refine Uy (thn (zaf (pos:=p) hN hv hd hcd pins s σ H (λv H'=>v = .ref f/\H'=H) I ⟨_,hs,rfl,rfl⟩) λu s1 zz=>?_);obtain⟨v,H1,I1,r1,ev,eH⟩:=zz;subst ev eH;obtain rfl:u=ZD f:=r1;have hA:=ha pos pins s1 σ H1 _ I1 h;rw[he] at hA ⊢;refine PySem.W.callWith_of (P:=LkF f) (by show((false || (U7 pos (Ul es X.env)).any (·.1)) || false)=false;rw[hpl];rfl) (λh l=>l _) (YI ?_);refine thn hA λus s2 ⟨vs,H2,I2,r,g2,hn,q⟩=>⟨c.at_ X.A X.stack s2 H2 I2.env0 g2,?_⟩;refine G6 (UT (c.run X.A X.stack s2 H2 us vs Q hr I2.env0 g2 r hn q) λr s' hq=>?_)
 cases r with
 | error e=>exact hq.elim
 | ok fl=>
   cases fl with
   | ret u=>exact I2.after hq
   | next=>exact Zl hq
   | brk=>exact Zl hq
   | cont=>exact Zl hq
end
section
variable {ι κ:Type}{P:Um}{w:Uq}{K:Qa}{mg:Str->Option Uf}{base:Heap}{k:Nat}{X:ι->Cx}{O:κ->Ob}{a:Expr}{es:List Expr}{gg:DGA}{pos p:Pos}
def calF(P:Um)(w:Uq)(mg:Str->Option Uf)(base:Heap)(k:Nat)(φ:Ob->Prop)(i:Nat)(gg:DGA):DE:=λρ Q=>∃(n m:Nat) (F:List DV->(R->Prop)->Prop) (fs:List Ug),ρ[i]? = some (some (.thr (zhw P w mg base k n (λK=>spG K φ m F) fs)))/\gg ρ λrs=>rs.length=n/\n+fs.length=m/\F (rs++fs.map .im) Q
theorem zlm{K:Qa}{O:Ob}{H:Hp}:∀{ws:List V} {ds:List Ug},IsAll K (unM O) H ws ds->Args K O H ws (ds.map .im)
 | _,_,.nil=>trivial
 | _,_,.cons h t=>⟨.inl ⟨_,rfl,h⟩,zlm t⟩
theorem zml{K:Qa}{O:Ob}{H:Hp}:∀{vs:List V} {rs:List DV} {ws:List V} {ds:List Ug},Args K O H vs rs->IsAll K (unM O) H ws ds->Args K O H (vs++ws) (rs++ds.map .im)
 | [],[],ws,ds,_,i=>by
   rw[Jl,Jl];exact zlm i
 | [],_::_,_,_,h,_=>h.elim
 | _::_,[],_,_,h,_=>h.elim
 | v::vs,r::rs,ws,ds,h,i=>⟨h.1,zml h.2 i⟩
theorem zm2(i:Nat){k':Nat}(C:Ctx3 P w K mg base k X)(hφ:∀j,φ (O j))(ha:AG3 K X O (a::es) gg)(hk:k'<=k:=by decide)
 (hN:∀j,(X j).N[i]? = some y:=by intro i;rfl) (hv:∀j,Vis (X j).env.scope y:=by intro i;first|exact Or.inl rfl|exact Or.inr (Or.inl rfl)|exact Or.inr (Or.inr rfl)) (hd:(y == ("__debug__" : Str))=false:=by decide) (hcd:(y == ("__classdict__" : Str))=false:=by decide)
 (he:∀i,Ul (a::es) (X i).env=(false,eval a (X i).env)::Ul es (X i).env:=by intro i;rfl) (hpl:∀i,(U7 pos (Ul es (X i).env)).any (·.1)=false:=by intro i;rfl):E3 K X O (.Call (.Name y p) (a::es) [] pos) (calF P w mg base k' φ i gg):=by
 obtain⟨t,q,d⟩:=ha;refine⟨zpx P w K mg base k' i t,λj=>?_,λj σ H ρ Q Qd S hf kk=>?_⟩
 .have:=zsl (X:=X j) (pos:=pos) (p:=p) ((C.room j).mono hk) (hN j) (hv j) (q j) hd hcd (he j) (hpl j);rw[C.hP,C.hw,C.hK,C.hmg,C.hb] at this;exact this
 .obtain⟨n,m,F,fs,e,hf⟩:=hf;obtain⟨v,hv,W,hw,f,G,ws,rfl,g,gF,iw,c⟩:=S.at_ i _ e;refine⟨f,G,ws,n,_,hv,g,c,d j σ H ρ _ _ S hf λvs H1 rs s1 is ⟨hn,hm,q1⟩=>⟨λp hp=>s1.s _ _ (g p hp) (gF p hp),by rw[is.length];exact hn,?_⟩⟩;refine⟨O j,rs++fs.map .im,Qd,S.ok,hφ j,s1.p S.p,by rw[Qf,Qe,hn];exact hm,zml is (iw.stp s1 (λ_ f=>f) λ_ f=>f),q1,λr qr v H' s2 o2=>kk v H' r (s1.trans s2) (o2.ahead S.ok S.p s1) qr⟩
def imF(F:List Ug->(R->Prop)->Prop):List DV->(R->Prop)->Prop:=λrs Q=>∃ds,rs=ds.map .im/\F ds Q
theorem znk{K:Qa}{O:Ob}{H:Hp}:∀{vs:List V} {ds:List Ug},Args K O H vs (ds.map .im)->IsAll K (unM O) H vs ds
 | [],[],_=>.nil
 | [],_::_,h=>h.elim
 | _::_,[],h=>h.elim
 | v :: vs,d::ds,h=>.cons (by
     rcases h.1 with ⟨d',e,z⟩|⟨f,ds',e,_⟩|⟨e,_⟩|⟨T,e,_⟩ <;> cases e
     exact z) (znk h.2)
theorem zsc{n k':Nat}(D:Def3 P w K mg base k' x ps (spO K φ n F))(m:mg x=some (.ref f))(hn:ps.length=n):Calls P w K mg base k' f [] [] n (spG K φ n (imF F)):=by
 obtain⟨f',fd,G,m',kp,bn⟩:=D.ex;rw[m] at m';cases m';refine⟨λA outer s H e0 _ M=>PySem.W.keeps_K kp _ (e0.mod.kin.keeps λb o e=>(e0.bs b o e).1),λA outer s H us vs Q hr e0 _ r hl q=>?_⟩;rw[Qx] at q;have hu:us.length=ps.length:=by rw[<- r.length,hl,hn]
 have bb:=bn s us (e0.mod.kin.keeps λb o e=>(e0.bs b o e).1) (by rw[Qx];exact hu);rw[Qx] at bb;refine G.run A outer s H ⟨us,[]⟩ us vs Q E0 hr e0 bb r ?_;obtain⟨O,rs,Qr,ok,hφ,p,hln,is,⟨ds,rfl,hF⟩,kk⟩:=q;exact⟨O,ds,Qr,ok,hφ,p,by simpa using hln,znk is,hF,kk⟩
end
structure TopC(K:Qa)(mg:Str->Option Uf)(x:Str)(st:Stmt)(c:Addr):Prop where
 ex:∃(f:Addr) (oc:Uf) (od:Option Addr) (kV doc pm:Uf) (an:Option Addr) (ct:Uf) (osl:Array (Option Uf)),K.lookup f=some ⟨oc,od,.func (Zo x x (zbi st) (zap st) (zab st) .none kV doc pm an (.ref c) ct),osl⟩/\Jb K (.ref c) x=true/\ZR K (.ref f)=true/\mg x=some (.ref f)
section
variable {P:Um}{w:Uq}{K:Qa}{mg:Str->Option Uf}{base:Heap}{k n:Nat}{x:Str}{st:Stmt}{N ps:List Str}{φ:Ob->Prop}{F:List Ug->(R->Prop)->Prop}{c:Addr}
theorem z0o(T:TopC K mg x st c)(S:FnScope N ps (zab st))(hb:∀(kV doc pm:Uf) (an:Option Addr) (cdv ct:Uf) (us:List Uf),us.length=ps.length->U8 (Zo x x (zbi st) (zap st) (zab st) .none kV doc pm an cdv ct) ⟨us,[]⟩=pure (ps.zip us))(hn:ps.length=n)
 (body:∀(f:Addr) (A:Us) (outer:List Env) (s:Ui) (H:Hp) (E:XK) (O:Ob),φ O->Ctx3 P w K mg base k (zbw P w K mg base N x (zab st) f (.ref c) A outer s H E) ->
  ∃g,Ss3 K (zbw P w K mg base N x (zab st) f (.ref c) A outer s H E) (λ_:Unit=>O) (zap st) g/\∀ds Qr,ds.length=n->F ds Qr->g { nx:=λ_=>Qr (.o .none),rt:=Qr } (zbo N (ds.map .im))):Def3 P w K mg base (k+1) x ps (spO K φ n F):=by
 obtain⟨f,oc,od,kV,doc,pm,an,ct,osl,lk,hcd,kp,m⟩:=T.ex;refine⟨f,_,zts lk hcd S (zns hn) (λA outer s H vs Q E hr h=>?_),m,kp,.all (hb kV doc pm an _ ct)⟩;obtain⟨O,ds,Qr,ok,hφ,p,hl,is,q,kk⟩:=h;obtain⟨g,⟨t,h1,h2⟩,h3⟩:=body f A outer s H E O hφ (zcu hr);exact⟨t,(h1 ()).nox,zt6 (h2 ()) ok p is (h3 ds Qr hl q) kk⟩
end
end L3
namespace L3
open PySem PySem.Spec
open PyProof.Rows hiding St
open L2
open PySem.W (CodeHd tabObj tabIn noTabs)
abbrev Tbs:=List (Addr×List (Pos×Str))
def zkm(Ts:Tbs)(H:Hp):Prop:=∀q∈Ts,∃ps,H q.1=some (.cod ps q.2)
def zkn(Ts:Tbs)(O:Ob):Ob:=⟨λa=>O.M a\/∃q∈Ts,a=q.1,λH=>O.P H/\zkm Ts H,O.v⟩
section
variable {Ts:Tbs}{O:Ob}
theorem zsb(ok:O.Ok):(zkn Ts O).Ok:=by
 refine⟨λH H' e ⟨p,t⟩=>⟨ok.loc H H' (λa m=>e a (.inl m)) p,λq hq=>let ⟨ps,z⟩:=t q hq;⟨ps,(e q.1 (.inr ⟨q,hq,rfl⟩)).trans z⟩⟩,λH a o ⟨p,t⟩ e m=>?_,λH a ⟨p,t⟩ m=>?_⟩
 .rcases m with m|⟨q,hq,rfl⟩
  .exact ok.mutb H a o p e m
  .obtain⟨ps,z⟩:=t q hq;rw[e] at z;cases z;exact⟨λ_ h=>(by cases h),λ_ _ h=>(by cases h)⟩
 .rcases m with m|⟨q,hq,rfl⟩
  .exact ok.here H a p m
  .obtain⟨ps,z⟩:=t q hq;exact⟨_,z⟩
theorem zo4(h:IsDeal O)(nm:∀q∈Ts,¬O.M q.1):IsDeal (zkn Ts O):=by
 obtain⟨a,l,hv,ma,ml,h1,h2⟩:=h.ex;refine⟨a,l,hv,.inl ma,.inl ml,λH p=>h1 H p.1,λH H' s n ns p q k=>⟨h2 H H' s n ns p.1 q λb mb=>k b (.inl mb),λq hq=>?_⟩⟩;obtain⟨ps,z⟩:=p.2 q hq;exact⟨ps,(k q.1 (.inr ⟨q,hq,rfl⟩) (λe=>nm q hq (e ▸ ma)) λe=>nm q hq (e ▸ ml)).trans z⟩
theorem zpy(ok:O.Ok)(nm:∀q∈Ts,¬O.M q.1)(nd:∀q∈Ts,∀q'∈Ts,q'.1=q.1->q'=q)(hq:q∈Ts):HasTab q.1 q.2 (zkn Ts O) :=
 ⟨.inr ⟨q,hq,rfl⟩,λH p=>p.2 q hq,λH ps p=>⟨ok.loc H _ (λa m=>zaa λz=>nm q hq (z ▸ m)) p.1,λq' hq'=>by
  by_cases z:q'.1=q.1
  .rw[nd q hq q' hq' z];exact⟨ps,zac⟩
  .obtain⟨ps',e⟩:=p.2 q' hq'
   exact⟨ps',by rw[zaa z];exact e⟩⟩⟩
end
def zfp(Ts:Tbs):Type:={j:Addr×Addr // ∀q∈Ts,q.1≠j.1/\q.1≠j.2}
def ze3(Ts:Tbs)(j:zfp Ts):Ob:=zkn Ts (zg4 j.1.1 j.1.2)
theorem zkw(j:zfp Ts):∀q∈Ts,¬(zg4 j.1.1 j.1.2).M q.1:=λq hq m=>by
 rcases m with m|m
 .exact(j.2 q hq).1 m
 .exact(j.2 q hq).2 m
theorem zsh(j:zfp Ts):IsDeal (ze3 Ts j):=zo4 (zra _ _) (zkw j)
theorem zpj(nd:∀q∈Ts,∀q'∈Ts,q'.1=q.1->q'=q)(hq:q∈Ts)(j:zfp Ts):HasTab q.1 q.2 (ze3 Ts j):=zpy (zjo _ _) (zkw j) nd hq
def spLawT(K:Qa)(Ts:Tbs):Sp:=λvs H Q _=>∃(a:Addr) (ns:List Int),vs = [.ref a]/\SqL K H a (ns.map V.int)/\ns.length<=63/\zkm Ts H/\∀H',zkm Ts H'->Q (.bl true) H'
theorem zwq{P:Um}{w:Uq}{K:Qa}{mg:Str->Option Uf}{base:Heap}{k:Nat}{st st0:Stmt}{rest:List Stmt}{N:List Str}{f₁:Addr}{fd₁:UH}{Ts:Tbs}(Fu:Fun K "law" "law" st f₁ fd₁)(S:FnScope ("_law_script" :: "_law_deal_here" :: N) ["_law_script"] (zab st))
 (hs:zap st=st0::rest)
 (first:∀(f:Addr) (cdv:Uf) (A:Us) (outer:List Env) (s:Ui) (H:Hp) (E:XK),Ctx3 P w K mg base k (zbw P w K mg base ("_law_script" :: "_law_deal_here" :: N) "law" (zab st) f cdv A outer s H E) ->
  PS (zbw P w K mg base ("_law_script" :: "_law_deal_here" :: N) "law" (zab st) f cdv A outer s H E ()) st0 (tAsg (zb4 (zhp K) [] E0 (zat (tVar 0) (zat (tC (.int 0)) tNil))) (za0 1)))
 (body:∀(f:Addr) (cdv:Uf) (A:Us) (outer:List Env) (s:Ui) (H:Hp) (E:XK),Ctx3 P w K mg base k (zbw P w K mg base ("_law_script" :: "_law_deal_here" :: N) "law" (zab st) f cdv A outer s H E) ->
  ∃g,Ss3 K (zbw P w K mg base ("_law_script" :: "_law_deal_here" :: N) "law" (zab st) f cdv A outer s H E) (ze3 Ts) rest g/\∀n:Nat,n<=63->g { nx:=λ_=>False,rt:=λr=>r = .o (.bool true) } (some (.scr n)::some .ob::Qp N.length none)) :
 FnOk P w K mg base CX0 (k+1) f₁ fd₁ ["_law_script"] (spLawT K Ts):=by
 refine Fu.ok S (λvs H Q E h=>by obtain⟨a,ns,rfl,_⟩:=h;rfl) (λcdv A outer s H vs Q E hr h=>?_);obtain⟨a,ns,rfl,hS,hl,tb,q⟩:=h;have C:=zcu (P:=P) (w:=w) (K:=K) (mg:=mg) (base:=base) (N := "_law_script" :: "_law_deal_here" :: N) (x := "law") (sc:=zab st) (f:=f₁) (cdv:=cdv) (A:=A) (outer:=outer) (s:=s) (H:=H) (E:=E) hr;obtain⟨g,⟨t,h1,h2⟩,h3⟩:=body f₁ cdv A outer s H E C;refine⟨tSeq (tAsg (zb4 (zhp K) [] E0 (zat (tVar 0) (zat (tC (.int 0)) tNil))) (za0 1)) t,?_,?_⟩
 .rw[hs];exact za5 (first f₁ cdv A outer s H E C) (h1 ())
 .refine⟨_,rfl,a,ns,rfl,hS,hl,λp l s left H' hp hln sm pa=>?_⟩
  have ap:∀q∈Ts,q.1≠p/\q.1≠l:=λq hq=>by
   obtain⟨ps,z⟩:=tb q hq;exact⟨(λe=>by rw[e,hp] at z;cases z),(λe=>by rw[e,hln] at z;cases z)⟩
  have pP:(ze3 Ts ⟨(p,l),ap⟩).P H':=⟨⟨s,0,left,pa⟩,λq hq=>let ⟨ps,z⟩:=tb q hq;⟨ps,sm _ _ z⟩⟩;refine h2 ⟨(p,l),ap⟩ H' (λ_ _=>False) _ H' _ _ _ ⟨zsb (zjo p l),pP,pP,.refl _ _,λ_ _ _ z=>z.elim,λ_ _ z=>z.elim,λi r e=>?_,?_⟩ (h3 ns.length hl) ⟨λ_ _ _ _ _ _ z=>z.elim,λ_ _ _ _ _ _ z=>z.elim,λ_ _ _ _ _ _ z=>z.elim,λH' v r st o e=>?_⟩
  .match i with
   | 0=>
     cases e;refine⟨_,rfl,a,ns.map V.int,rfl,by simp,?_⟩
     have nt:∀u,H a=some u->(∀ps qs,u≠.cod ps qs)->∀q∈Ts,a≠q.1:=λu e n q hq z=>by
      obtain⟨ps,y⟩:=tb q hq;rw[<- z,e] at y;cases y;exact n _ _ rfl
     have nm:∀u,H a=some u->(∀ps qs,u≠.cod ps qs)->¬(ze3 Ts ⟨(p,l),ap⟩).M a:=λu e n m=>by
      rcases m with (m|m)|⟨q,hq,m⟩
      .rw[m,hp] at e;cases e
      .rw[m,hln] at e;cases e
      .exact nt u e n q hq m
     rcases hS with (hS|⟨o,hS⟩)|hS
     .exact .inl ⟨⟨nm _ hS (λ_ _ z=>by cases z),λ_ z=>z⟩,.inl (sm _ _ hS)⟩
     .exact .inl ⟨⟨nm _ hS (λ_ _ z=>by cases z),λ_ z=>z⟩,.inr ⟨o,sm _ _ hS⟩⟩
     .exact .inr λ_=>.inr hS
   | 1=>cases e;exact⟨_,rfl,rfl⟩
   | i+2=>
     rw[Jc,Jc,QP] at e
     split at e <;> cases e
  .rw[QX];simp[L2.start]
  .subst e;cases o;exact q H' (st.p pP).2
theorem zqd{P:Um}{w:Uq}{K:Qa}{mg mb:Str->Option Uf}{k:Nat}{fa a:Addr}{fd:UH}{x:Str}{s₁:Ui}{vs:List Uf}{ns:List Int}{cs:List (Addr×Addr)}{Ts:Tbs}
 (KX:K.In s₁.heap) (hns:s₁.heap.Ns mainGlobals mg) (hb:s₁.heap.Ns UP mb) (hbb:∀x:Str,x ≠ "__name__" -> mb x=Uu x) (hlim:s₁.heap.NoLimit) (hg:s₁.gens = #[])
 (ha:s₁.heap.get? a=some { cls:=.type "list",data:=.seq vs.toArray }) (hi:GJ vs ns) (hl:ns.length<=63) (hr:Room k callerA)
 (hbm:∃bm ob,mg "__builtins__" = some (.ref bm)/\bm≠UP/\s₁.heap.get? bm=some ob/\ob.cls = .type "module" /\ ob.dict=some UP/\ob.data = .plain)
 (hT:∀q∈cs,CodeHd s₁.heap q.1 q.2/\s₁.heap.get? q.2=some (tabObj #[])) (hK:noTabs K=true) (hts:∀q∈Ts,∃c,(c,q.1)∈cs)
 (F:∀base:Heap,K.In base->base.Ns mainGlobals mg->(∀q∈cs,Nst mg base q.1 q.2)->FnOk P w K mg base CX0 k fa fd [x] (spLawT K Ts)) (hbind:∀(s:Ui) (u:Uf),G7 s fd ⟨[u],[]⟩ [(x,u)]) (hnd:∀q∈Ts,∀q'∈Ts,q'.1=q.1->q'=q) (hcs:∀q∈cs,∃t∈Ts,t.1=q.2) :
 Gn (model P w) callerA (.call (.ref fa) ⟨[.ref a],[]⟩) (λr s'=>r = .ok (.ret (.bool true))/\OldK s₁.heap s'.heap/\s'.os=s₁.os/\Gc s'.gens) s₁:=by
 have rv:=zja hi;have lenV:=hi.length
 have tabK:∀q∈cs,K.lookup q.2=none:=λq hq=>by
  cases z:K.lookup q.2 with
  | none=>rfl
  | some o=>
    have e:=KX _ _ z;rw[(hT q hq).2] at e;cases e;have h2:=Jr.mp hK (q.2,_) (PySem.W.mem_of_lookupK z);exact absurd (show false=true from h2) Q3
 have tabT:∀q∈Ts,s₁.heap.get? q.1=some (tabObj #[])/\K.lookup q.1=none/\isCodeTable s₁.heap q.1:=λq hq=>by
  obtain⟨c,hc⟩:=hts q hq;exact⟨(hT _ hc).2,tabK _ hc,((hT _ hc).1.tab (hT _ hc).2).isCodeTable⟩
 -- what is tracked
 let T:Addr->Option HO:=λb=>(Ts.find? λq=>decide (q.1=b)).map λq=>.cod #[] q.2
 have tSome:∀b u,T b=some u->∃q∈Ts,b=q.1/\u = .cod #[] q.2:=λb u e=>by
  obtain⟨q,hq,rfl⟩:=Qt.mp (show(Ts.find? λq=>decide (q.1=b)).map _=some u from e);have h1:=VE hq;exact⟨q,List.mem_of_find?_eq_some hq,(GQ h1).symm,rfl⟩
 have tIn:∀q∈Ts,T q.1=some (.cod #[] q.2):=λq hq=>by
  cases z:T q.1 with
  | none=>
    have z':(Ts.find? λq'=>decide (q'.1=q.1))=none:=Option.map_eq_none_iff.mp z;exact absurd (GU rfl) (Vk.mp z' q hq)
  | some u=>
    obtain⟨q',h1,h2,rfl⟩:=tSome _ _ z;rw[hnd q hq q' h1 h2.symm]
 have core:∀H:Hp,(∀b u,H b=some u->(b=a/\K.lookup a=none/\u = .frz { cls:=.type "list",data:=.seq vs.toArray } (.lst (ns.map V.int)))\/∃q∈Ts,b=q.1/\u = .cod #[] q.2)->(∀q∈Ts,H q.1=some (.cod #[] q.2))->SqL K H a (ns.map V.int)->HOk P w H s₁.heap ->
  Gn (model P w) callerA (.call (.ref fa) ⟨[.ref a],[]⟩) (λr s'=>r = .ok (.ret (.bool true))/\OldK s₁.heap s'.heap/\s'.os=s₁.os/\Gc s'.gens) s₁:=by
  intro H hO hTs hS hok;have base_of:∀{b:Addr} {o:Obj},s₁.heap.get? b=some o->H b=none->(hidT s₁.heap H).get? b=some o:=λe n=>zsg e n
  have noA:∀{b:Addr} {o:Obj},s₁.heap.get? b=some o->(∀xs n,o.data≠.seq xs n)->(∀fs,o.data≠.fields fs)->H b=none:=λ{b o} e d1 d2=>by
   cases q:H b with
   | none=>rfl
   | some u=>
     rcases hO b u q with ⟨rfl,_⟩|⟨t,ht,rfl,_⟩
     .rw[ha] at e;cases e;exact absurd rfl (d1 _ _)
     .rw[(tabT t ht).1] at e;cases e;exact absurd rfl (d2 _)
  have nsK:∀{b:Addr} {m:Str->Option Uf},s₁.heap.Ns b m->(hidT s₁.heap H).Ns b m:=λ{b m} ⟨o,es,ep,e,d,r⟩=>⟨o,es,ep,base_of e (noA e (λ_ _ z=>by rw[d] at z;cases z) λ_ z=>by rw[d] at z;cases z),d,r⟩
  have hKb:K.In (hidT s₁.heap H):=λb o e=>base_of (KX b o e) (by
   cases q:H b with
   | none=>rfl
   | some u=>
     rcases hO b u q with ⟨rfl,z,_⟩|⟨t,ht,rfl,_⟩
     .rw[z] at e;cases e
     .rw[(tabT t ht).2.1] at e;cases e)
  have hM:Mod K mg (hidT s₁.heap H):=⟨hKb,nsK hns,⟨mb,nsK hb,hbb⟩,let ⟨mc,h1,h2⟩:=hlim;⟨mc,nsK h1,h2⟩⟩;have e0:Env0 P w K mg (hidT s₁.heap H) callerA [] s₁ H:=⟨rfl,hM,λb o e=>zvq e,Nat.le_of_eq (zp2 _ _),trivial,λb hb=>absurd (show b∈([]:List Addr) from hb) (by simp),hok,.of_eq hg⟩
  have hN:∀q∈cs,Nst mg (hidT s₁.heap H) q.1 q.2:=λq hq=>by
   obtain⟨bm,ob,b1,b2,b3,b4,b5,b6⟩:=hbm;obtain⟨o,vs',file,tf,flags,tg,inF,text,tt,e1,r1,r2,r3⟩:=(hT q hq).1;refine⟨⟨bm,ob,b1,b2,base_of b3 (noA b3 (λ_ _ z=>by rw[b6] at z;cases z) λ_ z=>by rw[b6] at z;cases z),b4,b5,b6⟩,⟨o,vs',file,tf,flags,tg,inF,text,tt,base_of e1 ?_,r1,r2,r3⟩⟩
   cases q1:H q.1 with
   | none=>rfl
   | some u=>
     rcases hO _ u q1 with ⟨z,_⟩|⟨t,ht,z,_⟩
     .rw[z,ha] at e1;cases e1;cases r2
     .rw[z,(tabT t ht).1] at e1;cases e1;cases r1
  refine UT ((F _ hKb (nsK hns) hN).run callerA [] s₁ H ⟨[.ref a],[]⟩ [.ref a] [.ref a] (λv H'=>v = .bl true/\zkm Ts H') E0 hr e0 (hbind s₁ (.ref a)) (.cons rfl .nil) ⟨a,ns,rfl,hS,hl,λq hq=>⟨_,hTs q hq⟩,λH' t=>⟨rfl,t⟩⟩) λr s' h=>?_
  cases r with
  | error e=>exact h.elim
  | ok fl=>
    cases fl with
    | next=>exact Zl h
    | brk=>exact Zl h
    | cont=>exact Zl h
    | ret u=>
      obtain⟨v,H',os,bare,un,hok',r',q',tb⟩:=h;subst q';obtain rfl:u=Jg true:=r';refine⟨rfl,⟨λb o e=>?_,λb o e=>un.there b o e (by simp)⟩,os,bare⟩
      cases q:H b with
      | none=>exact .inl (un.keep b o e q (by intro z;exact absurd (show b∈([]:List Addr) from z) (by simp)) (by simp))
      | some u=>
        rcases hO b u q with ⟨_,_,z⟩|⟨t,ht,rfl,_⟩
        .rw[z] at q;have z2:=un.frzs b _ _ q;obtain⟨e1,_⟩:=hok b _ q;obtain⟨e2,_⟩:=hok' b _ z2;rw[e] at e1;cases e1;exact .inl e2
        .obtain⟨ps,hp⟩:=tb t ht;obtain⟨g1,g2,g3⟩:=tabT t ht;rw[e] at g1;cases g1;have g4:=(hok' _ _ hp).1;exact .inr (.inl ⟨g3,rfl,#[],ps,rfl,by rw[Array.empty_append];exact g4⟩)
 have okT:∀(H:Hp),(∀b u,H b=some u->∀o,u≠.own o)->∀q∈Ts,ObjOk P w H s₁.heap q.1 (.cod #[] q.2):=λH _ q hq=>⟨(tabT q hq).1,trivial,λp _ cv z=>by cases z⟩
 cases hk:K.lookup a with
 | some o=>
   have e:=KX a o hk;rw[ha] at e;cases e;refine core T (λb u z=>.inr (tSome b u z)) tIn (.inr ⟨_,vs.toArray,_,hk,rfl,rfl,rfl,by rw[Qq,lenV];exact Qy hl (by decide),by simpa using rv⟩) λb u z=>?_;obtain⟨q,hq,rfl,rfl⟩:=tSome b u z;exact⟨(tabT q hq).1,trivial,λp _ cv z=>by cases z⟩
 | none=>
   have na:∀q∈Ts,q.1≠a:=λq hq z=>by have:=(tabT q hq).1;rw[z,ha] at this;cases this
   refine core (λb=>if b=a then some (.frz { cls:=.type "list",data:=.seq vs.toArray } (.lst (ns.map V.int))) else T b) (λb u z=>?_) (λq hq=>(GP (na q hq)).trans (tIn q hq)) (.inl (.inr ⟨{ cls:=.type "list",data:=.seq vs.toArray },GO rfl⟩)) λb u z=>?_
   .by_cases hb:b=a
    .have z':=(GO hb).symm.trans z;cases z';exact .inl ⟨hb,hk,rfl⟩
    .exact .inr (tSome b u ((GP hb).symm.trans z))
   .by_cases hb:b=a
    .have z':=(GO hb).symm.trans z;cases z';subst hb;exact⟨ha,by rw[Qe];exact Qy hl (by decide),vs,_,rv,ha⟩
    .obtain⟨q,hq,rfl,rfl⟩:=tSome b u ((GP hb).symm.trans z);exact⟨(tabT q hq).1,trivial,λp _ cv z=>by cases z⟩
def cOf(K:Qa)(x:Str):Addr:=((tabIn K x).getD (0,0)).1
def pOf(K:Qa)(x:Str):Addr:=((tabIn K x).getD (0,0)).2
theorem znv{K:Qa}{x:Str}(h:(tabIn K x).isSome=true):tabIn K x=some (cOf K x,pOf K x):=by
 obtain⟨⟨c,p⟩,e⟩:=Z5.mp h;unfold cOf pOf;rw[e];rfl
abbrev Nests:=List (Str×List (Pos×Str))
def tbsOf(K:Qa)(l:Nests):Tbs:=l.map λp=>(pOf K p.1,p.2)
theorem topC_of{K:Qa}{x:Str}{st:Stmt}{h:Heap}{mg:Str->Option Uf}(X:K.In h)(G:h.Ns mainGlobals mg)
 (D:∃(f:Addr) (od an:Option Addr) (sl:Array (Option Uf)) (oc kV dc pm cd ct:Uf),QQ K mainGlobals x=some (some (.ref f))/\K.lookup f=some ⟨oc,od,.func (Zo x x (zbi st) (zap st) (zab st) .none kV dc pm an cd ct),sl⟩/\Jb K cd x=true/\ZR K (.ref f)=true)
 (ht:(tabIn K x).isSome=true):TopC K mg x st (cOf K x):=by
 obtain⟨f,od,an,sl,oc,kV,dc,pm,cd,ct,a,l,c,k⟩:=D;have e:=znv ht;have e2:=e;unfold tabIn at e2;rw[a] at e2;simp only[l] at e2
 cases cd with
 | ref c0=>
   have:c0=cOf K x:=by
    simp only at e2
    split at e2
    .split at e2
     .cases e2;rename_i z1 z2;first|rfl|(injection z1)|skip
     .cases e2
    .cases e2
   subst this;exact⟨f,oc,od,kV,dc,pm,an,ct,sl,l,c,k,Vc X G a⟩
 | _=>cases e2
theorem walk_ofT{l:Y7}{k:Nat}{q:Um}{loose:List Str}{XP:(Str->Option Uf)->Heap->Prop}{YP:Uq->Heap->Prop}{d:DefRec}{K:Params->Qa}{x:Str}{tl:Nests}
 (hn:l.most=some 63) (hdf:d.params.defaults = []) (hr:Room k callerA) (hY:∀(w:Uq) (h:Heap),YP w h->(K w.params).In h)
 (hK:∀w:Uq,noTabs (K w.params)=true) (hti:∀w:Uq,(tl.all λp=>(tabIn (K w.params) p.1).isSome)=true) (hrec:(tl.all λp=>((recsOf q).find? λe=>e.name == p.1).isSome)=true) (hnd:∀w:Uq,decide ((tl.map λp=>pOf (K w.params) p.1).Nodup)=true)
 (F:∀(w:Uq) (mg:Str->Option Uf) (fa:Addr) (h:Heap),(K w.params).In h->h.Ns mainGlobals mg->mg d.name=some (.ref fa) ->
  ∃fd:UH,(∀(s:Ui) (u:Uf),G7 s fd ⟨[u],[]⟩ [(x,u)]) /\
    ∀base:Heap,(K w.params).In base->base.Ns mainGlobals mg->(∀p∈tl,Nst mg base (cOf (K w.params) p.1) (pOf (K w.params) p.1))->FnOk l.prog w (K w.params) mg base CX0 k fa fd [x] (spLawT (K w.params) (tbsOf (K w.params) tl))) :
 VX q loose XP YP l.row.toRowW d [] (λf vs=>VP f vs):=by
 refine Att.attach_call hn hdf λw s₀ s₁ mg mb fa o pm cd doc a vs ns G Y ho hd hcd hmg hobj hints hlen hg=>?_;have KX:=hY w _ Y;obtain⟨fd,hb,hF⟩:=F w mg fa _ KX G.T.g hmg;have hti':∀p∈tl,(tabIn (K w.params) p.1).isSome=true:=λp hp=>Jr.mp (hti w) p hp;have nd:(tl.map λp=>pOf (K w.params) p.1).Nodup:=GQ (hnd w);refine zqd (cs:=tl.map λp=>(cOf (K w.params) p.1,pOf (K w.params) p.1)) (Ts:=tbsOf (K w.params) tl) KX G.T.g G.T.b G.T.builtins G.T.nolimit hg hobj hints hlen hr G.T.bmain (λq' hq=>?_) (hK w) (λq' hq=>?_) (λbase h1 h2 h3=>hF base h1 h2 λp hp=>h3 _ (QD.mpr ⟨p,hp,rfl⟩)) hb (λq1 h1 q2 h2 e=>?_) λq' hq=>?_
 .obtain⟨p,hp,rfl⟩:=QD.mp hq;obtain⟨d',hd'⟩:=Z5.mp (Jr.mp hrec p hp);exact PySem.W.tab_of G.T KX hd' (znv (hti' p hp))
 .obtain⟨p,hp,rfl⟩:=QD.mp hq;exact⟨cOf (K w.params) p.1,QD.mpr ⟨p,hp,rfl⟩⟩
 .obtain⟨p1,m1,rfl⟩:=QD.mp h1;obtain⟨p2,m2,rfl⟩:=QD.mp h2;obtain⟨i,hi,e1⟩:=ZM m1;obtain⟨j,hj,e2⟩:=ZM m2
  have:j=i:=by
   refine(V0 (h₀:=by simpa using hj) (h₁:=by simpa using hi) nd).mp ?_;rw[V8,V8,e1,e2];exact e
  subst this;rw[<- e1,<- e2]
 .obtain⟨p,hp,rfl⟩:=QD.mp hq;exact⟨_,QD.mpr ⟨p,hp,rfl⟩,rfl⟩
section
variable {K:Qa}{O:Ob}{H₀ H:Hp}{A:Nat->Addr->Prop}{σ:St}{ρ:DSt}
def ifJ(fc:DT)(f1 f2:DJ):DJ:=λρ Q=>fc ρ λb=>if b=true then f1 ρ Q else f2 ρ Q
theorem zuy(hc:TD K O c fc)(h1:SrcR K O (zb2 K t1) f1)(h2:SrcR K O (zb2 K t2) f2):SrcR K O (zb2 K (tIf c t1 t2)) (ifJ fc f1 f2):=λH₀ A σ H ρ R Qd r q k=>by
 refine hc σ H ρ _ _ r.seen q λb H1 s1 q1=>?_;have r1:=r.stp s1;have go:∀(J:It) (H2:Hp) (ds:List Ug) (B:Addr->Prop),Walk K O H1 H2 J ds B->(∀a,B a->unO O A a)->Qd ds->R J H2:=λJ H2 ds B W u q=>k J H2 ds B ⟨s1.trans W.st,W.hb,W.stop,W.item⟩ u q
 cases b with
 | true=>exact h1 H₀ A σ H1 ρ R Qd r1 q1 go
 | false=>exact h2 H₀ A σ H1 ρ R Qd r1 q1 go
end
section
variable {K:Qa}{O:Ob}
theorem OwAll.snoc1{d:Ug}{bs:List Addr}(o:Ow K H v d bs):∀{vs:List V} {ds:List Ug} {as:List Addr},OwAll K H vs ds as->OwAll K H (vs ++ [v]) (ds ++ [d]) (as++bs)
 | _,_,_,.nil=>by
   have z:OwAll K H [v] [d] (bs ++ []):=.cons o .nil;rw[Qx] at z;exact z
 | _,_,_,.cons x t=>by
   rw[Qo];exact .cons x (OwAll.snoc1 o t)
def zoj(h:Nat)(f:DI)(g:DG):DOw:=λρ Q=>f ρ λ_ ds=>ds.length<=1000/\(∀d∈ds,g d (Qp h none++ρ) λ_=>True)/\Q (.list (Qp ds.length (.list [])))
theorem znn{h:Nat}(hs:SrcS K O wi f)(hg:∀O':Ob,GS K O' tg g):EOw K O (zdh h wi tg tYes (tLst tNil)) (zoj h f g):=by
 intro σ H ρ Q Qd S hq k;have sz:=Ur;refine hs σ H ρ _ _ S hq λJ H1 ds B fr W _ ⟨lz,gg,q⟩ D hD=>?_;have S1:=S.stp W.st;have nM:¬O.M D:=zba S.ok S1.p hD;refine⟨λi m ys H2=>m=ds.length-i/\i<=ds.length/\H2 D=some (.lst ys)/\ys.length=i/\Stp O H1 H2/\∃as:List Addr,as.Nodup/\OwAll K H2 ys (Qp i (.list [])) as/\∀a∈as,H1 a=QF/\a≠D,⟨ds.length,rfl,QK _,zac,rfl,.new S.ok hD _,[],.nil,.nil,λ_ z=>nomatch z⟩,?_⟩;rintro i m ys H2 ⟨rfl,hi,hDy,ly,st,as,nd,ow,new⟩;refine⟨hDy,?_⟩;have kB:∀a o,B a->H1 a=some o->H2 a=some o:=λa o b e=>st.s a o e (W.hb a b).1
 by_cases hlt:i<ds.length
 .right;have hd:ds[i]? = some ds[i]:=Qb hlt;obtain⟨hgo1,hy⟩:=W.item H2 i ds[i] kB st.t hd (.inr λa o e n=>st.s a o e n);refine⟨hgo1,λx H3 y=>?_⟩;obtain⟨sm,ix⟩:=hy x H3 y;have st3:Stp O H1 H3:=st.trans (.same S.ok sm);refine hg O _ H3 _ x ds[i] _ _ (zgs (S1.stp st3) h) (ix.weak λa ha=>ha.1) (gg _ (JK hlt)) λσ2 ρ2 Sg _=>?_;unfold tYes;dsimp only;rw[GO rfl];refine⟨QK _,λp hp=>?_⟩;have hD3:H3 D=some (.lst ys):=sm D _ hDy;have pD:D≠p:=λz=>by rw[<- z,hD3] at hp;cases hp
  have p1:H1 p=QF:=by
   have nmp:¬O.M p:=zba S.ok (st3.p S1.p) hp;exact st3.s.free nmp hp
  have P3:O.P H3:=st3.p S1.p;have nmp:¬O.M p:=zba S.ok P3 hp
  have e5:∀a u,H3 a=some u->a≠D->upd (upd H3 p (.lst [])) D (.lst (ys ++ [.ref p])) a=some u:=λa u e n=>by
   rw[zaa n,zaa λz=>by rw[z,hp] at e;cases e];exact e
  refine⟨by rw[zaa pD];exact hD3,by lia,ds.length-(i+1),by lia,rfl,hlt,zac,by rw[Qf,ly];rfl,⟨λa o e n=>e5 a o (st3.s a o e n) λz=>(by rw[z,hD] at e;cases e),λ_=>S.ok.loc H3 _ (λa ma=>by rw[zaa λz=>nM (by rw[<- z];exact ma),zaa λz=>nmp (by rw[<- z];exact ma)]) P3,λa u hu e=>e5 a u (st3.t a u hu e) λz=>(by rw[z,hD] at e;cases e)⟩,as ++ [p],?_,?_,λa ha=>?_⟩
  .refine Z9.mpr ⟨nd,by simp,λa ha b hb e=>?_⟩;obtain⟨xs,z⟩:=ow.mem ha;rw[Qn.mp hb] at e;have:=sm a _ z;rw[e,hp] at this;cases this
  .rw[List.replicate_succ'];refine OwAll.snoc1 (.list (by rw[zaa (Zr pD)];exact zac) .nil) (ow.to (λb u hu hb=>e5 b u (sm b u hb) λz=>?_) λa m xs q=>e5 a _ (sm a _ q) (new a m).2);rw[z,hDy] at hb;cases hb;obtain⟨us,e1|⟨o',e1⟩⟩:=hu <;> cases e1
  .rcases Qu.mp ha with ha|ha
   .exact new a ha
   .rw[Qn.mp ha];exact⟨p1,Zr pD⟩
 .left;have e:i=ds.length:=by lia
  subst e;have fr:∀a,H1 a=QF->¬O.M a:=λa z=>zba S.ok S1.p z;refine⟨W.stop H2 _ kB st.t (Qg _),k (.ref D) H2 _ (D::as) (W.st.trans st) (.list hDy ow) (QW.mpr ⟨λz=>(new D z).2 rfl,nd⟩) (λa ha=>?_) q⟩;rcases Q0.mp ha with rfl|ha
  .exact W.st.s.free nM hD
  .exact W.st.s.free (fr a (new a ha).1) (new a ha).1
end
section
variable {ι κ:Type}{P:Um}{w:Uq}{K:Qa}{mg:Str->Option Uf}{base:Heap}{k:Nat}{X:ι->Cx}{O:κ->Ob}{pos pl:Pos}{tg:Expr}
theorem zyb{iter:Expr}{scope:Uz}(h:Nat)(N':List Str)(C:Ctx3 P w K mg base k X)(S:∀i,ScopeOk h N' (X i).N scope (X i).env.scope)(hs:I3 K X O tg iter fi)
 (hg:G3 K (zcm X scope N') h tg g) (hset:∀i x,Uw iter (X i).env x=pure x:=by intro _ _;rfl):Eo3 K X O (.ListComp (.List [] pl) [⟨tg,iter,[],0⟩] scope pos) (zoj h fi g):=by
 obtain⟨ti,p1,d1⟩:=hs;obtain⟨tg',p2,d2,_,ow⟩:=hg;exact⟨_,λi=>zf0 h (S i) (C.calm i) (p1 i) (λc s H ex=>p2 (i,⟨c,s,H,ex⟩)) ow (λc s H ex=>zeg) (λc s H ex=>zl3 zbg) (hset i),λj=>znn (d1 j) d2⟩
theorem zpl(n:Nat){iter:Expr}{scope:Uz}(h:Nat)(N':List Str)(C:Ctx3 P w K mg base k X)(S:∀i,ScopeOk h N' (X i).N scope (X i).env.scope)(hs:I3 K X O tg iter fi)
 (hg:G3 K (zcm X scope N') h tg g) (hN:∀i,(X i).N.Nodup:=by intro i;exact GQ (by kernel_rfl)) (hi:∀i,(X i).N[n]? = some x:=by intro i;rfl) (hx:∀i,(X i).env.scope.names.lookup x=some .local:=by intro i;rfl)
 (hsw:∀i,UB (.ListComp (.List [] pl) [⟨tg,iter,[],0⟩] scope p0) (some (.Name x px)) pos.line (X i).env=pure true:=by intro i;rfl) (hset:∀i x,Uw iter (X i).env x=pure x:=by intro _ _;rfl) :
 S3 K X O (.Assign [.Name x px] (.ListComp (.List [] pl) [⟨tg,iter,[],0⟩] scope p0) pos) (zko n (zoj h fi g)):=by
 obtain⟨ti,p1,d1⟩:=hs;obtain⟨tg',p2,d2,_,ow⟩:=hg;exact⟨_,λi=>zdl (hN i) (hi i) (hx i) (hsw i) h (S i) (C.calm i) (p1 i) (λc s H ex=>p2 (i,⟨c,s,H,ex⟩)) ow (λc s H ex=>zeg) (λc s H ex=>zl3 zbg) (hset i),λj=>ziu (znn (d1 j) d2)⟩
end
def goOw(h:Nat)(g:DG)(fo:DOw)(ρ:DSt)(Q:Ug->Prop):List Ug->List Ug->Prop
 | [],acc=>Q (.list acc)
 | d::ds,acc=>g d (Qp h none++ρ) λρ2=>fo ρ2 λx=>acc.length<sizeLine/\goOw h g fo ρ Q ds (acc ++ [x])
def zpi(h:Nat)(f:DI)(g:DG)(fo:DOw):DOw:=λρ Q=>f ρ λ_ ds=>goOw h g fo ρ Q ds []
section
variable {K:Qa}{O:Ob}
theorem zrc(ok:O.Ok)(S5:Seen K (O.plus D (.lst ys)) H5 σ ρ)(p5:O.P (upd H5 D (.lst zs)))(hD5:H5 D=some (.lst ys)):Seen K (O.plus D (.lst zs)) (upd H5 D (.lst zs)) σ ρ:=by
 have mv:∀a u,unM (O.plus D (.lst ys)) a->H5 a=some u->unM (O.plus D (.lst zs)) a/\upd H5 D (.lst zs) a=some u:=λa u fa qa=>⟨fa,by rw[zaa λz=>fa (.inr z)];exact qa⟩
 have ts:TupStay H5 (upd H5 D (.lst zs)):=λb u hu hb=>by
  rw[zaa λz=>?_]
  .exact hb
  .obtain⟨us,e1|⟨o',e1⟩⟩:=hu <;> (rw[z,hD5] at hb;cases hb;cases e1)
 refine⟨ok.plus D _,⟨p5,zac⟩,λj r' e=>?_,S5.len⟩;obtain⟨v',h1,h2⟩:=S5.at_ j r' e;refine⟨v',h1,?_⟩
 cases r' with
 | im d=>exact Is.to (λa xs f q=>mv a _ f q) (λa xs q=>SqT.stay (h:=q) ts) h2
 | own es=>exact Is.to (λa xs f q=>mv a _ f q) (λa xs q=>SqT.stay (h:=q) ts) h2
 | ob=>exact h2
 | scr n=>exact IsS.to mv h2
 | dct ks=>obtain⟨a,fa,h2⟩:=h2;exact⟨a,fa,h2.to λu qa=>(mv a u fa qa).2⟩
 | gen f ds=>obtain⟨a,xs,e,fa,q,z⟩:=h2;exact⟨a,xs,e,fa,(mv a _ fa q).2,z.to (λa xs f q=>mv a _ f q) λa xs q=>SqT.stay (h:=q) ts⟩
 | rd f ds=>obtain⟨a,xs,e,fa,q,z⟩:=h2;exact⟨a,xs,e,fa,(mv a _ fa q).2,z.to (λa xs f q=>mv a _ f q) λa xs q=>SqT.stay (h:=q) ts⟩
 | exc C ns ds=>obtain⟨xs,e,z⟩:=h2;exact⟨xs,e.to mv,z.to (λa xs f q=>mv a _ f q) λa xs q=>SqT.stay (h:=q) ts⟩
 | thg T=>obtain⟨W,hw,z⟩:=h2;exact⟨W,λa w=>⟨(hw a w).1,let ⟨o,q⟩:=(hw a w).2;⟨o,(mv a o (hw a w).1 q).2⟩⟩,T.to mv (λa u w q=>⟨w,(mv a u (hw a w).1 q).2⟩) ts z⟩
 | thr T=>obtain⟨W,hw,z⟩:=h2;exact⟨W,λa w=>⟨(hw a w).1,let ⟨o,q⟩:=(hw a w).2;⟨o,(mv a o (hw a w).1 q).2⟩⟩,T.to mv (λa u w q=>⟨w,(mv a u (hw a w).1 q).2⟩) ts z⟩
theorem zvv{h:Nat}(hs:SrcS K O wi f)(hg:∀O':Ob,GS K O' tg g)(he:∀(D:Addr) (xs:List V),¬O.M D->EOw K (O.plus D (.lst xs)) te fo):EOw K O (zdh h wi tg tYes te) (zpi h f g fo):=by
 intro σ H ρ Q Qd S hq k;refine hs σ H ρ _ _ S hq λJ H1 ds B fr W _ hgo D hD=>?_;have S1:=S.stp W.st;have nM:¬O.M D:=zba S.ok S1.p hD;have aD:∀a o,H1 a=some o->a≠D:=λa o e z=>by rw[z,hD] at e;cases e
 refine⟨λi m ys H2=>m=ds.length-i/\i<=ds.length/\H2 D=some (.lst ys)/\(∀a o,H1 a=some o->¬O.M a->H2 a=some o)/\TupStay H1 H2/\Seen K (O.plus D (.lst ys)) H2 σ ρ /\
  ∃acc as,(as:List Addr).Nodup/\OwAll K H2 ys acc as/\(∀a∈as,H1 a=QF/\a≠D)/\goOw h g fo ρ Qd (ds.drop i) acc,⟨ds.length,rfl,QK _,zac,λa o e _=>by rw[zaa (aD a o e)];exact e,λa u _ e=>by rw[zaa (aD a u e)];exact e,zj1 S1 hD,[],[],.nil,.nil,λ_ z=>(Zt z).elim,by simpa using hgo⟩,?_⟩
 rintro i m ys H2 ⟨rfl,hi,hDy,kp,tst,S2,acc,as,nd,ow,new,go⟩;refine⟨hDy,?_⟩;have kB:∀a o,B a->H1 a=some o->H2 a=some o:=λa o b e=>kp a o e (W.hb a b).1
 by_cases hlt:i<ds.length
 .right;have hd:ds[i]? = some ds[i]:=Qb hlt;rw[QJ hlt] at go;obtain⟨hgo1,hy⟩:=W.item H2 i ds[i] kB tst hd (.inr kp);refine⟨hgo1,λx H3 y=>?_⟩;obtain⟨sm,ix⟩:=hy x H3 y;have st3:Stp (O.plus D (.lst ys)) H2 H3:=.same S2.ok sm;have S3:=S2.stp st3
  have ix':Is K (unM (O.plus D (.lst ys))) H3 x ds[i]:=by
   by_cases hfl:flat ds[i]=true
   .exact Is.flat (TupStay.refl H3) ix hfl
   .exact ix.weak λa ha mm=>by
     rcases mm with mm|mm
     .exact ha.1 mm
     .rcases ha.2 with z|⟨o,z⟩
      .exact hfl z
      .exact aD a o z mm
  refine hg _ _ H3 _ x ds[i] _ _ (zgs S3 h) ix' go λσ2 ρ2 Sg q=>?_;unfold tYes;dsimp only;rw[GO rfl];refine he D ys nM σ2 H3 ρ2 _ _ Sg q λyv H5 d5 as5 st5 o5 n5 f5 zz=>?_;obtain⟨hz,q5⟩:=zz;have st25:=st3.trans st5;have S5:=S2.stp st25;have hD5:H5 D=some (.lst ys):=(st25.p S2.p).2;have m5:∀a∈as5,¬(O.plus D (.lst ys)).M a:=λa m=>zba Sg.ok Sg.p (f5 a m);have e5:∀a u,H5 a=some u->a≠D->upd H5 D (.lst (ys ++ [yv])) a=some u:=λa u e n=>by rw[zaa n];exact e
  have ts5:TupStay H5 (upd H5 D (.lst (ys ++ [yv]))):=λa u hu e=>e5 a u e λz=>by
   rw[z,hD5] at e;cases e;obtain⟨us,y|⟨o,y⟩⟩:=hu <;> cases y
  have w5:∀a∈as,∀xs,H2 a=some (.lst xs)->H5 a=some (.lst xs):=λa ha xs q=>st25.s a _ q λmm=>by
   rcases mm with mm|mm
   .exact zba S.ok S1.p (new a ha).1 mm
   .exact(new a ha).2 mm
  have n5D:∀a∈as5,a≠D:=λa m z=>m5 a m (.inr z);refine⟨hD5,by rw[ow.length];exact hz,ds.length-(i+1),by lia,rfl,hlt,zac,λa o e n=>?_,λa u hu e=>?_,?_,acc ++ [d5],as++as5,?_,?_,λa ha=>?_,q5⟩
  .rw[zaa (aD a o e)]
   exact st25.s a o (kp a o e n) λmm=>by
    rcases mm with mm|mm
    .exact n mm
    .exact aD a o e mm
  .rw[zaa (aD a u e)];exact st25.t a u hu (tst a u hu e)
  .have p5:O.P (upd H5 D (.lst (ys ++ [yv]))):=S.ok.loc H5 _ (λa m=>zaa λz=>nM (z ▸ m)) S5.p.1;exact zrc S.ok S5 p5 hD5
  .refine Z9.mpr ⟨nd,n5,λa ha b hb e=>?_⟩;subst e;obtain⟨xs,z⟩:=ow.mem ha;have:=sm a _ z;rw[f5 a hb] at this;cases this
  .exact OwAll.snoc1 (o5.to ts5 λa m xs q=>e5 a _ q (n5D a m)) (ow.to (λb u hu hb=>ts5 b u hu (st25.t b u hu hb)) λa m xs q=>e5 a _ (w5 a m xs q) (new a m).2)
  .rcases Qu.mp ha with ha|ha
   .exact new a ha
   .refine⟨?_,n5D a ha⟩
    cases z:H1 a with
    | none=>rfl
    | some o=>
      have nm:¬O.M a:=λm=>m5 a ha (.inl m);have:=sm a _ (kp a o z nm);rw[f5 a ha] at this;cases this
 .left;have e:i=ds.length:=by lia
  subst e;rw[ZF] at go;have st:Stp O H1 H2:=⟨λa o e n=>kp a o e n,λ_=>S2.p.1,tst⟩;refine⟨W.stop H2 _ kB tst (Qg _),k (.ref D) H2 _ (D::as) (W.st.trans st) (.list hDy ow) (QW.mpr ⟨λz=>(new D z).2 rfl,nd⟩) (λa ha=>?_) go⟩;rcases Q0.mp ha with rfl|ha
  .exact W.st.s.free nM hD
  .exact W.st.s.free (zba S.ok S1.p (new a ha).1) (new a ha).1
def spGW(K:Qa)(φ:Ob->Prop)(n:Nat)(f:List DV->(Ug->Prop)->Prop):Sp:=λvs H Q _=>
 ∃(O:Ob) (rs:List DV) (Qd:Ug->Prop),O.Ok/\φ O/\O.P H/\rs.length=n/\Args K O H vs rs/\f rs Qd/\∀d v (as:List Addr) H',Qd d->Stp O H H'->Ow K H' v d as->as.Nodup->(∀a∈as,H a=QF)->Q v H'
theorem zsf{φ:Ob->Prop}{n:Nat}{f:List DV->(Ug->Prop)->Prop}{ps:List Str}(hn:ps.length=n):∀vs H Q E,spGW K φ n f vs H Q E->vs.length=ps.length:=λvs H Q E zz=>by obtain⟨O,rs,_,_,_,_,h,is,_⟩:=zz;rw[is.length,h,hn]
def SDw(K:Qa)(O:Ob)(t:TS)(g:(Ug->Prop)->DSt->Prop):Prop:=∀(H₀:Hp) (A:Nat->Addr->Prop) (σ:St) (H:Hp) (ρ:DSt) (R:VK) (Qd:Ug->Prop) (Nx:St->Hp->Prop),Rep K O H₀ A H σ ρ->g Qd ρ->(∀d v (as:List Addr) H',Qd d->Stp O H₀ H'->Ow K H' v d as->as.Nodup->(∀a∈as,H₀ a=QF)->R v H')->t { nx:=Nx,rt:=R } σ H
theorem zur{m:Nat}:SDw K O (tRet (tVar m)) (λQd ρ=>∃d,ρ[m]? = some (some (.thg (OwnT d)))/\Qd d):=λH₀ A σ H ρ R Qd Nx r ⟨d,e,q⟩ k=>by
 obtain⟨v,hv,_,as,nd,w,o⟩:=r.at_ m _ e;exact⟨_,hv,k d v as H q r.st o nd λa ha=>(r.own m a (w a ha)).1⟩
theorem zsr(h:SD K O t g1)(h':SDw K O u g2):SDw K O (tSeq t u) (λQd ρ=>g1 { nx:=g2 Qd,rt:=λ_=>False } ρ):=λH₀ A σ H ρ R Qd Nx r q k=>by
 refine h H₀ A σ H ρ _ _ r q ⟨λA' σ' H' ρ' r' _ q'=>?_,λ_ _ _ _ _ _ z=>z.elim,λ_ _ _ _ _ _ z=>z.elim,λ_ _ _ _ _ z=>z.elim⟩;exact h' H₀ A' σ' H' ρ' R Qd Nx r' q' k
def zt8(n:Nat)(F:List DV->(Ug->Prop)->Prop)(gg:DGA):DOw:=λρ Q=>gg ρ λrs=>rs.length=n/\F rs Q
theorem ztg{n:Nat}(hφ:φ O)(h:AG K O t g):EOw K O (zb4 (spGW K φ n F) [] E t) (zt8 n F g):=λσ H ρ Q Qd S q k=>by
 refine h σ H ρ _ _ S q λvs H1 rs s1 is zz=>?_;obtain⟨hn,q1⟩:=zz;rw[Qx];refine⟨O,rs,Qd,S.ok,hφ,s1.p S.p,hn,is,q1,λd v as H' qd s2 o nd f=>k v H' d as (s1.trans s2) o nd (λa ha=>s1.s.free (zba S.ok (s1.p S.p) (f a ha)) (f a ha)) qd⟩
def ixOw(f1:DOw)(f2:DE):DE:=λρ Q=>f1 ρ λd=>f2 ρ λr=>∃(z:Int) (ds:List Ug) (k:Nat) (es:List Ug),r.d = .int z/\d = .list ds/\ixN ds.length z=some k/\ds[k]? = some (.list es)/\flats es=true/\Q (.n es)
theorem zw6{d:Ug}(o:Ow K H2 v (.list es) cs)(f:flats es=true):∃a xs,v = .ref a/\a∈cs/\H2 a=some (.lst xs)/\IsAll K (unM O) H2 xs es:=by
 cases o with
 | leaf f _=>exact absurd f zbt
 | @list a xs _ as q r=>exact⟨a,xs,rfl,by simp,q,(IsAll.flats (F:=λ_=>True) (TupStay.refl _) (r.is λ_ _=>trivial) f)⟩
theorem zvm(h1:EOw K O t1 f1)(h2:ED K O t2 f2):ED K O (tOp (rIx K) t1 t2) (ixOw f1 f2):=λσ H ρ Q Qd S hf k=>by
 refine h1 σ H ρ _ _ S hf λv H1 d as s1 o1 n1 f1 q0=>?_;refine h2 σ H1 ρ _ _ (S.stp s1) q0 λy H2 r s2 o2 zz=>?_;obtain⟨z,ds,j,es,er,ed,ix,he,fl,q⟩:=zz;have p1:=s1.p S.p;have nm:∀a∈as,¬O.M a:=λa m=>zba S.ok S.p (f1 a m);have oo:=zfm s2 nm o1;have iy:=o2.is S.ok p1;rw[er] at iy;cases iy;subst ed
 cases oo with
 | leaf fz _=>exact absurd fz zbt
 | @list a xs ds' as' q1 r1=>
   obtain⟨w,cs',rest,g1,g2,g3,_⟩:=r1.at he;refine .inl ⟨a,xs,z,w,rfl,rfl,.of q1,?_,?_⟩
   .unfold atI;rw[r1.length,ix];exact g1
   .obtain⟨b,ys,rfl,hb,e1,e2⟩:=zw6 (O:=O) (d:=.none) g2 fl;exact k _ H2 (.n es) (s1.trans s2) ⟨b,ys,rfl,f1 b (Qc _ (g3.mem_iff.mpr (Q9 _ hb))),e1,e2⟩ q
end
section
variable {ι κ:Type}{P:Um}{w:Uq}{K:Qa}{mg:Str->Option Uf}{base:Heap}{k:Nat}{X:ι->Cx}{O:κ->Ob}{pos pl:Pos}{tg a b:Expr}{es:List Expr}{st:Stmt}{sts:List Stmt}{x:Str}{p:Pos}
theorem zmp(n:Nat){iter:Expr}{scope:Uz}(h:Nat)(N':List Str)(C:Ctx3 P w K mg base k X)(S:∀i,ScopeOk h N' (X i).N scope (X i).env.scope)(hs:I3 K X O tg iter fi)
 (hg:G3 K (zcm X scope N') h tg g) (he:Eo3 K (zcm X scope N') (zf8 O) elt fo) (hN:∀i,(X i).N.Nodup:=by intro i;exact GQ (by kernel_rfl)) (hi:∀i,(X i).N[n]? = some x:=by intro i;rfl) (hx:∀i,(X i).env.scope.names.lookup x=some .local:=by intro i;rfl)
 (hsw:∀i,UB (.ListComp elt [⟨tg,iter,[],0⟩] scope p0) (some (.Name x px)) pos.line (X i).env=pure true:=by intro i;rfl) (hset:∀i x,Uw iter (X i).env x=pure x:=by intro _ _;rfl) :
 S3 K X O (.Assign [.Name x px] (.ListComp elt [⟨tg,iter,[],0⟩] scope p0) pos) (zko n (zpi h fi g fo)):=by
 obtain⟨ti,p1,d1⟩:=hs;obtain⟨tg',p2,d2,_,ow⟩:=hg;obtain⟨te,p4,d4⟩:=he;exact⟨_,λi=>zdl (hN i) (hi i) (hx i) (hsw i) h (S i) (C.calm i) (p1 i) (λc s H ex=>p2 (i,⟨c,s,H,ex⟩)) ow (λc s H ex=>zeg) (λc s H ex=>p4 (i,⟨c,s,H,ex⟩)) (hset i),λj=>ziu (zvv (d1 j) d2 λD xs nm=>d4 ⟨(j,(D,xs)),nm⟩)⟩
def Sw3(K:Qa)(X:ι->Cx)(O:κ->Ob)(s:List Stmt)(g:(Ug->Prop)->DSt->Prop):Prop:=∃t,(∀i,PSs (X i) s t)/\∀j,SDw K (O j) t g
theorem z0y(m:Nat)(hN:∀i,(X i).N[m]? = some x:=by intro i;rfl)(hv:∀i,Vis (X i).env.scope x:=by intro i;first|exact Or.inl rfl|exact Or.inr (Or.inl rfl)|exact Or.inr (Or.inr rfl))(hd:(x == ("__debug__" : Str))=false:=by decide)(hcd:(x == ("__classdict__" : Str))=false:=by decide):
 Sw3 K X O [.Return (some (.Name x p)) pos] (λQd ρ=>∃d,ρ[m]? = some (some (.thg (OwnT d)))/\Qd d):=⟨_,λi=>zcj (zdq (zaf (hN i) (hv i) hd hcd)),λj=>zur⟩
theorem zl6(h:S3 K X O st g1)(h':Sw3 K X O sts g2):Sw3 K X O (st::sts) (λQd ρ=>g1 { nx:=g2 Qd,rt:=λ_=>False } ρ):=let ⟨_,p,d⟩:=h;let ⟨_,p2,d2⟩:=h';⟨_,λi=>za5 (p i) (p2 i),λj=>zsr (d j) (d2 j)⟩
theorem zvl{k' n:Nat}(C:Ctx3 P w K mg base k X)(D:Def3 P w K mg base k' x ps (spGW K φ n F))(hφ:∀j,φ (O j))(ha:AG3 K X O (a::es) ga)(hk:k'<=k:=by decide)(hg:∀i,Gl (X i) x:=by intro i;rfl)
 (hdb:(x == ("__debug__" : Str))=false:=by decide) (he:∀i,Ul (a::es) (X i).env=(false,eval a (X i).env)::Ul es (X i).env:=by intro i;rfl) (hpl:∀i,(U7 pos (Ul es (X i).env)).any (·.1)=false:=by intro i;rfl):Eo3 K X O (.Call (.Name x p) (a::es) [] pos) (zt8 n F ga):=by
 obtain⟨f,fd,G,m,kp,bn⟩:=D.ex;obtain⟨t,q,d⟩:=ha;refine⟨zb4 (spGW K φ n F) [] E0 t,λi=>?_,λj=>ztg (hφ j) (d j)⟩;have G':FnOk (X i).prog (X i).w (X i).K (X i).mg (X i).base CX0 k f fd ps (spGW K φ n F):=by rw[C.hP,C.hw,C.hK,C.hmg,C.hb];exact G.mono hk
 exact zc0 G' (C.room i) (hg i) (by rw[C.hmg];exact m) (by rw[C.hK];exact kp) (by rw[C.hK];exact bn) .nil ze1 (q i) hdb (he i) (hpl i)
theorem zyz(C:Ctx3 P w K mg base k X)(ha:Eo3 K X O a fo)(hb:E3 K X O b fb)(hs:zep b:=by intro _ _;rfl):E3 K X O (.Subscript a b pos) (ixOw fo fb) :=
 let ⟨_,p1,d1⟩:=ha;let ⟨_,p2,d2⟩:=hb;⟨tOp (rIx K) _ _,λi=>by have h:=zkt (pos:=pos) (zhf (X:=X i)) (p1 i) (p2 i) hs;rw[C.hK] at h;exact h,λj=>zvm (d1 j) (d2 j)⟩
end
section
variable {P:Um}{w:Uq}{K:Qa}{mg:Str->Option Uf}{base:Heap}{k n:Nat}{x:Str}{st:Stmt}{N ps:List Str}{φ:Ob->Prop}{F:List DV->(Ug->Prop)->Prop}
theorem zzg(T:Top3 K mg x st)(S:FnScope N ps (zab st))(hb:∀(kV doc pm:Uf) (an:Option Addr) (cdv ct:Uf) (us:List Uf),us.length=ps.length->U8 (Zo x x (zbi st) (zap st) (zab st) .none kV doc pm an cdv ct) ⟨us,[]⟩=pure (ps.zip us))(hn:ps.length=n)
 (body:∀(f:Addr) (cdv:Uf) (A:Us) (outer:List Env) (s:Ui) (H:Hp) (E:XK) (O:Ob),φ O->Ctx3 P w K mg base k (zbw P w K mg base N x (zab st) f cdv A outer s H E) ->
  ∃g,Sw3 K (zbw P w K mg base N x (zab st) f cdv A outer s H E) (λ_:Unit=>O) (zap st) g/\∀rs Qd,rs.length=n->F rs Qd->g Qd (zbo N rs)):Def3 P w K mg base (k+1) x ps (spGW K φ n F):=by
 obtain⟨f,fd,Fu,m⟩:=T.ex;refine⟨f,fd,Fu.ok S (zsf hn) (λcdv A outer s H vs Q E hr h=>?_),m,Fu.kp,Fu.binds hb⟩;obtain⟨O,rs,Qd,ok,hφ,p,hl,is,q,kk⟩:=h;obtain⟨g,⟨t,h1,h2⟩,h3⟩:=body f cdv A outer s H E O hφ (zcu hr);exact⟨t,h1 (),h2 () H _ _ H _ Q Qd _ (zhz ok p is) (h3 rs Qd hl q) λd v as H' qd s2 o nd f=>kk d v as H' qd s2 o nd f⟩
end
section
variable {K:Qa}{O:Ob}{H₀ H:Hp}{A:Nat->Addr->Prop}{σ:St}{ρ:DSt}
theorem Rep.mov{n m:Nat}(r:Rep K O H₀ A H σ ρ)(e:ρ[m]? = some (some (.thg T)))(hv:σ[m]? = some (some v))(ne:n≠m):
 Rep K O H₀ (λj b=>(j≠n/\j≠m/\A j b)\/(j=n/\A m b)) H (σ.set n (some v)) ((ρ.set m QF).set n (some (.thg T))):=by
 have un:∀b,unO O A b->unO O (λj b=>(j≠n/\j≠m/\A j b)\/(j=n/\A m b)) b:=λb f=>⟨f.1,λj z=>by
  rcases z with z|z
  .exact f.2 j z.2.2
  .exact f.2 m z.2⟩
 have tF:∀b u,unO O A b->H b=some u->unO O (λj b=>(j≠n/\j≠m/\A j b)\/(j=n/\A m b)) b/\H b=some u:=λb u f q=>⟨un b f,q⟩;have mv:∀{v d},Is K (unO O A) H v d->Is K (unO O (λj b=>(j≠n/\j≠m/\A j b)\/(j=n/\A m b))) H v d:=λz=>z.weak un;have mvs:∀{v d},IsAll K (unO O A) H v d->IsAll K (unO O (λj b=>(j≠n/\j≠m/\A j b)\/(j=n/\A m b))) H v d:=λz=>z.weak un;obtain⟨v',hv',hT⟩:=r.at_ m _ e;rw[hv] at hv';cases hv';refine⟨r.ok,r.p,r.p0,r.st,λj k b x y=>?_,λj b x=>?_,λj x ex=>?_,by rw[QX,QX,QX];exact r.len⟩
 .rcases x with x|x <;> rcases y with y|y
  .exact r.dis j k b x.2.2 y.2.2
  .exact absurd (r.dis j m b x.2.2 y.2) x.2.1
  .exact absurd (r.dis k m b y.2.2 x.2) y.2.1
  .exact x.1.trans y.1.symm
 .rcases x with x|x
  .exact r.own j b x.2.2
  .exact r.own m b x.2
 .by_cases hj:n=j
  .subst hj
   have hi:n<(ρ.set m QF).length:=by
    rcases Zp n (ρ.set m QF).length with z|z
    .exact z
    .rw[Qz (by rw[QX];exact z)] at ex;cases ex
   rw[Q4 hi] at ex;cases ex;exact⟨v,Q4 (by rw[QX] at hi;have:=r.len;lia),T.to (λb u f q=>tF b u f q) (λb u w q=>⟨.inr ⟨rfl,w⟩,q⟩) (TupStay.refl _) hT⟩
  .rw[QC hj] at ex
   have hjm:m≠j:=λz=>by
    subst z;rcases Zp m ρ.length with z|z
    .rw[Q4 z] at ex;cases ex
    .rw[Qz (by rw[QX];exact z)] at ex;cases ex
   rw[QC hjm] at ex;obtain⟨w,h1,h2⟩:=r.at_ j x ex;have aj:∀b,A j b->(j≠n/\j≠m/\A j b)\/(j=n/\A m b):=λb z=>.inl ⟨λz=>hj z.symm,λz=>hjm z.symm,z⟩;refine⟨w,by rw[QC hj];exact h1,?_⟩
   cases x with
   | im d=>exact mv h2
   | own es=>obtain⟨b,ys,e,hb,hlb,hs⟩:=h2;exact⟨b,ys,e,aj b hb,hlb,mvs hs⟩
   | ob=>exact h2
   | scr n=>exact IsS.to (λb u f q=>tF b u f q) h2
   | dct ks=>obtain⟨b,hb,h2⟩:=h2;exact⟨b,aj b hb,h2⟩
   | gen f ds=>obtain⟨b,xs,e,hb,q,z⟩:=h2;exact⟨b,xs,e,aj b hb,q,mvs z⟩
   | rd f ds=>obtain⟨b,xs,e,hb,q,z⟩:=h2;exact⟨b,xs,e,un b hb,q,mvs z⟩
   | exc C ns ds=>obtain⟨xs,e,z⟩:=h2;exact⟨xs,e.to λb u f q=>tF b u f q,mvs z⟩
   | thg T=>exact T.to (λb u f q=>tF b u f q) (λb u w q=>⟨aj b w,q⟩) (TupStay.refl _) h2
   | thr T=>obtain⟨W',hw,z⟩:=h2;exact⟨W',λb w=>let ⟨f,o⟩:=hw b w;⟨un b f,o⟩,T.to (λb u f q=>tF b u f q) (λb u w q=>⟨w,q⟩) (TupStay.refl _) z⟩
def movT(n m:Nat):DS:=λDd ρ=>∃T,ρ[m]? = some (some (.thg T))/\Dd.nx ((ρ.set m QF).set n (some (.thg T)))
theorem zum{n m:Nat}(ne:n≠m):SD K O (tAsg (tVar m) (za0 n)) (movT n m):=λH₀ A σ H ρ D Dd r q P=>by
 obtain⟨T,e,q⟩:=q;obtain⟨v,hv,_⟩:=r.at_ m _ e;refine⟨v,hv,?_⟩;refine P.nx _ _ _ _ (r.mov e hv ne) (λb o e u=>⟨e,u.1,λj z=>?_⟩) q;rcases z with z|z
 .exact u.2 j z.2.2
 .exact u.2 m z.2
end
section
variable {ι κ:Type}{P:Um}{w:Uq}{K:Qa}{mg:Str->Option Uf}{base:Heap}{k:Nat}{X:ι->Cx}{O:κ->Ob}{st:Stmt}{g:DS}{pos px py p1 p2 p3:Pos}{x y:Str}{a b tg:Expr}{fa fb:DE}{v:Bool}{j:Nat}
theorem zyp(n m:Nat)(ne:n≠m:=by decide)(hN:∀i,(X i).N.Nodup:=by intro i;exact GQ (by kernel_rfl))(hi:∀i,(X i).N[n]? = some x:=by intro i;rfl)(hx:∀i,Loc (X i).env.scope x:=by intro i;first|exact Or.inl rfl|exact Or.inr rfl)
 (hN2:∀i,(X i).N[m]? = some y:=by intro i;rfl) (hv:∀i,Vis (X i).env.scope y:=by intro i;first|exact Or.inl rfl|exact Or.inr (Or.inl rfl)|exact Or.inr (Or.inr rfl)) (hd:(y == ("__debug__" : Str))=false:=by decide) (hcd:(y == ("__classdict__" : Str))=false:=by decide)
 (hs:∀i,UB (.Name y py) (some (.Name x px)) pos.line (X i).env=pure false:=by intro i;rfl) (hf:∀i,(X i).fn x=true\/(X i).env.scope.names.lookup x=some .local:=by intro i;first|exact .inl rfl|exact .inr rfl):S3 K X O (.Assign [.Name x px] (.Name y py) pos) (movT n m) :=
 ⟨_,λi=>zb9 (hN i) (hi i) (hx i) (zaf (hN2 i) (hv i) hd hcd) (hs i) (hf i),λj=>zum ne⟩
end
end L3
namespace L6
open PySem PyProof.Rows
def zes:Bool->U2->Array U2->Nat->Nat->Nat->StateT U0 Sem (Option Nat):=sortPriv% PySem.Builtin.gallop
section
variable {prog:Um}{w:Uq}{A:Us}{E:Uf->Ui->Prop}{s:Ui}{α:Type}{blt:α->α->Bool}{k:Nat->α}{a₀:Array U2}{kd:U6}{st:U0}
theorem lt_x{i j:Nat}(hC:zbx prog w A s kd a₀ blt k)(ki:kindOf st=kd)(gi:a₀[i]? = some x)(gj:a₀[j]? = some y)(h:Q (some (blt (k i) (k j))) st):wpS (model prog w) A E s (lt' x y) Q st:=by
 rw[lt'_eq];refine Uj (UL ?_);rw[ki];refine Uj (Gb (G1 (hC i j x.1 x.2 y.1 y.2 _ _ gi gj ⟨rfl,?_⟩)));exact Uk h
theorem za2{i:Nat}(e:arr[i]? = some x)(h:Q x st):wpS (model prog w) A E s (elem' arr i) Q st:=by
 rw[elem'_eq,e];exact Uk h
def Pg(blt:α->α->Bool)(k:Nat->α)(left:Bool)(L:Nat->Nat)(jk i:Nat):Bool:=if left then blt (k (L i)) (k jk) else !blt (k jk) (k (L i))
theorem zh7{left:Bool}{base n hint jk:Nat}(hC:zbx prog w A s kd a₀ blt k)(ki:kindOf st=kd)(gk:a₀[jk]? = some key)(ga:∀i,i<n->∃x,arr[base+i]? = some x/\a₀[L i]? = some x)(mono:∀i j,i<j->j<n->Pg blt k left L jk j=true->Pg blt k left L jk i=true)(hh:hint<n)
 (h:∀p,p<=n->(∀i,i<p->Pg blt k left L jk i=true)->(∀i,p<=i->i<n->Pg blt k left L jk i=false)->Q (some p) st):wpS (model prog w) A E s (zes left key arr base n hint) Q st:=by
 have bey:∀(i:Nat) {R:Option Bool->U0->Prop},i<n->R (some (Pg blt k left L jk i)) st->wpS (model prog w) A E s (elem' arr (base+i) >>= λx=>if left=true then lt' x key else(do let r <- lt' key x;return r.map (!·))) R st:=λi R hi hr=>by
  obtain⟨x,e1,e2⟩:=ga i hi;refine Uj (za2 e1 ?_);unfold Pg at hr
  cases left with
  | true=>rw[GO rfl] at hr ⊢;exact lt_x hC ki e2 gk hr
  | false=>rw[GP Q3] at hr ⊢;exact Uj (lt_x hC ki gk e2 (Uk hr))
 refine Uj (bey hint hh ?_);dsimp only
 cases h0:Pg blt k left L jk hint with
 | true=>
   rw[GO rfl]
   refine Uj (U3 (Ut (I:=λx c st2=>st=st2/\∃l o,c=(none,l,o)/\x<=o/\l<o/\(l=0\/hint+l<n)/\(∀i,i<=hint+l->i<n->Pg blt k left L jk i=true))
    (Q:=λc st2=>st=st2/\∃l o,c=(none,l,o)/\l<o/\(l=0\/hint+l<n)/\(∀i,i<=hint+l->i<n->Pg blt k left L jk i=true)/\∀i,hint+o<=i->i<n->Pg blt k left L jk i=false) ?tu ?ou ?bg) ?re)
   case bg=>exact⟨rfl,0,1,rfl,by lia,by lia,.inl rfl,λi hi hn=>by
    by_cases e:i=hint
    .subst e;exact h0
    .exact mono i hint (by lia) hh h0⟩
   case ou=>
    rintro c st2 ⟨rfl,l,o,rfl,z1,z2,z3,z4⟩;exact⟨rfl,l,o,rfl,z2,z3,z4,λi h1 h2=>by lia⟩
   case re=>
    rintro c st2 ⟨rfl,l,o,rfl,z2,z3,z4,z5⟩;dsimp only;have b1:hint+l+1<=hint+min o (n-hint):=by lia
    have b2:hint+min o (n-hint)<=n:=by lia
    have b3:∀i,i<hint+l+1->Pg blt k left L jk i=true:=λi hi=>z4 i (by lia) (by lia);have b4:∀i,hint+min o (n-hint)<=i->i<n->Pg blt k left L jk i=false:=λi h1 h2=>z5 i (by lia) h2
    refine Uj (U3 (Ut (I:=λx c st2=>st=st2/\∃l r,c=(none,l,r)/\l<=r/\r<=n/\r-l<=n-x/\(∀i,i<l->Pg blt k left L jk i=true)/\∀i,r<=i->i<n->Pg blt k left L jk i=false)
     (Q:=λc st2=>st=st2/\∃l r,c=(none,l,r)/\r<=n/\(∀i,i<r->Pg blt k left L jk i=true)/\∀i,r<=i->i<n->Pg blt k left L jk i=false) ?tu2 ?ou2 ?bg2) ?re2)
    case bg2=>exact⟨rfl,_,_,rfl,b1,b2,by lia,b3,b4⟩
    case ou2=>
     rintro c st2 ⟨rfl,l,r,rfl,z1,z2,z3,z4,z5⟩;have:l=r:=by lia
     subst this;exact⟨rfl,l,l,rfl,z2,z4,z5⟩
    case re2=>
     rintro c st2 ⟨rfl,l,r,rfl,z2,z4,z5⟩;exact Uk (h r z2 z4 z5)
    case tu2=>
     rintro x c st2 _ hx ⟨rfl,l,r,rfl,z1,z2,z3,z4,z5⟩;dsimp only
     by_cases ge:l ≥ r
     .rw[GO ge];have:l=r:=by lia
      subst this;exact Uk ⟨rfl,l,l,rfl,z2,z4,z5⟩
     .rw[GP ge];refine Uj (bey (l+(r-l) / 2) (by lia) ?_);dsimp only
      cases hP:Pg blt k left L jk (l+(r-l) / 2) with
      | true=>
        rw[GO rfl];refine Uk ⟨rfl,l+(r-l) / 2+1,r,rfl,by lia,z2,by lia,λi hi=>?_,z5⟩
        by_cases e:i=l+(r-l) / 2
        .subst e;exact hP
        .exact mono i _ (show i<l+(r-l) / 2 by lia) (by lia) hP
      | false=>
        rw[GP Q3];refine Uk ⟨rfl,l,l+(r-l) / 2,rfl,by lia,by lia,by lia,z4,λi h1 h2=>?_⟩
        by_cases e:i=l+(r-l) / 2
        .subst e;exact hP
        .cases hq:Pg blt k left L jk i with
         | false=>rfl
         | true=>rw[mono _ i (show l+(r-l) / 2<i by lia) h2 hq] at hP;cases hP
   case tu=>
    rintro x c st2 _ hx ⟨rfl,l,o,rfl,z1,z2,z3,z4⟩;dsimp only
    by_cases ge:o ≥ n-hint
    .rw[GO ge];exact Uk ⟨rfl,l,o,rfl,z2,z3,z4,λi h1 h2=>by lia⟩
    .rw[GP ge];refine Uj (bey (hint+o) (by lia) ?_);dsimp only
     cases hP:Pg blt k left L jk (hint+o) with
     | true=>
       rw[GP (by decide)];refine Uk ⟨rfl,o,2 * o+1,rfl,by lia,by lia,.inr (by lia),λi h1 h2=>?_⟩
       by_cases e:i=hint+o
       .subst e;exact hP
       .exact mono i _ (show i<hint+o by lia) (by lia) hP
     | false=>
       rw[GO (by decide)];refine Uk ⟨rfl,l,o,rfl,z2,z3,z4,λi h1 h2=>?_⟩
       by_cases e:i=hint+o
       .subst e;exact hP
       .cases hq:Pg blt k left L jk i with
        | false=>rfl
        | true=>rw[mono _ i (show hint+o<i by lia) h2 hq] at hP;cases hP
 | false=>
   rw[GP Q3]
   refine Uj (U3 (Ut (I:=λx c st2=>st=st2/\∃l o,c=(none,l,o)/\x<=o/\l<o/\l<=hint/\(∀i,hint-l<=i->i<n->Pg blt k left L jk i=false))
    (Q:=λc st2=>st=st2/\∃l o,c=(none,l,o)/\l<o/\l<=hint/\(∀i,hint-l<=i->i<n->Pg blt k left L jk i=false)/\∀i,o<=hint->i<=hint-o->Pg blt k left L jk i=true) ?tu ?ou ?bg) ?re)
   case bg=>exact⟨rfl,0,1,rfl,by lia,by lia,by lia,λi hi hn=>by
    by_cases e:i=hint
    .subst e;exact h0
    .cases hq:Pg blt k left L jk i with
     | false=>rfl
     | true=>rw[mono hint i (by lia) hn hq] at h0;cases h0⟩
   case ou=>
    rintro c st2 ⟨rfl,l,o,rfl,z1,z2,z3,z4⟩;exact⟨rfl,l,o,rfl,z2,z3,z4,λi h1 h2=>by lia⟩
   case re=>
    rintro c st2 ⟨rfl,l,o,rfl,z2,z3,z4,z5⟩;dsimp only;have b1:hint+1-min o (hint+1)<=hint-l:=by lia
    have b2:hint-l<=n:=by lia
    have b3:∀i,i<hint+1-min o (hint+1)->Pg blt k left L jk i=true:=λi hi=>z5 i (by lia) (by lia);have b4:∀i,hint-l<=i->i<n->Pg blt k left L jk i=false:=z4
    refine Uj (U3 (Ut (I:=λx c st2=>st=st2/\∃l r,c=(none,l,r)/\l<=r/\r<=n/\r-l<=n-x/\(∀i,i<l->Pg blt k left L jk i=true)/\∀i,r<=i->i<n->Pg blt k left L jk i=false)
     (Q:=λc st2=>st=st2/\∃l r,c=(none,l,r)/\r<=n/\(∀i,i<r->Pg blt k left L jk i=true)/\∀i,r<=i->i<n->Pg blt k left L jk i=false) ?tu2 ?ou2 ?bg2) ?re2)
    case bg2=>exact⟨rfl,_,_,rfl,b1,b2,by lia,b3,b4⟩
    case ou2=>
     rintro c st2 ⟨rfl,l,r,rfl,z1,z2,z3,z4,z5⟩;have:l=r:=by lia
     subst this;exact⟨rfl,l,l,rfl,z2,z4,z5⟩
    case re2=>
     rintro c st2 ⟨rfl,l,r,rfl,z2,z4,z5⟩;exact Uk (h r z2 z4 z5)
    case tu2=>
     rintro x c st2 _ hx ⟨rfl,l,r,rfl,z1,z2,z3,z4,z5⟩;dsimp only
     by_cases ge:l ≥ r
     .rw[GO ge];have:l=r:=by lia
      subst this;exact Uk ⟨rfl,l,l,rfl,z2,z4,z5⟩
     .rw[GP ge];refine Uj (bey (l+(r-l) / 2) (by lia) ?_);dsimp only
      cases hP:Pg blt k left L jk (l+(r-l) / 2) with
      | true=>
        rw[GO rfl];refine Uk ⟨rfl,l+(r-l) / 2+1,r,rfl,by lia,z2,by lia,λi hi=>?_,z5⟩
        by_cases e:i=l+(r-l) / 2
        .subst e;exact hP
        .exact mono i _ (show i<l+(r-l) / 2 by lia) (by lia) hP
      | false=>
        rw[GP Q3];refine Uk ⟨rfl,l,l+(r-l) / 2,rfl,by lia,by lia,by lia,z4,λi h1 h2=>?_⟩
        by_cases e:i=l+(r-l) / 2
        .subst e;exact hP
        .cases hq:Pg blt k left L jk i with
         | false=>rfl
         | true=>rw[mono _ i (show l+(r-l) / 2<i by lia) h2 hq] at hP;cases hP
   case tu=>
    rintro x c st2 _ hx ⟨rfl,l,o,rfl,z1,z2,z3,z4⟩;dsimp only
    by_cases ge:o ≥ hint+1
    .rw[GO ge];exact Uk ⟨rfl,l,o,rfl,z2,z3,z4,λi h1 h2=>by lia⟩
    .rw[GP ge];refine Uj (bey (hint-o) (by lia) ?_);dsimp only
     cases hP:Pg blt k left L jk (hint-o) with
     | true=>
       rw[GO rfl];refine Uk ⟨rfl,l,o,rfl,z2,z3,z4,λi h1 h2=>?_⟩
       by_cases e:i=hint-o
       .subst e;exact hP
       .exact mono i _ (show i<hint-o by lia) (by lia) hP
     | false=>
       rw[GP Q3];refine Uk ⟨rfl,o,2 * o+1,rfl,by lia,by lia,by lia,λi h1 h2=>?_⟩
       by_cases e:i=hint-o
       .subst e;exact hP
       .cases hq:Pg blt k left L jk i with
        | false=>rfl
        | true=>rw[mono _ i (show hint-o<i by lia) h2 hq] at hP;cases hP
end
section
variable {α:Type}{blt:α->α->Bool}{k:Nat->α}
def mg(blt:α->α->Bool)(k:Nat->α):List Nat->List Nat->List Nat
 | [],bs=>bs
 | as,[]=>as
 | a::as,b::bs=>if blt (k b) (k a)=true then b::mg blt k (a::as) bs else a::mg blt k as (b::bs)
termination_by as bs=>as.length+bs.length
theorem zbk(bs:List Nat):mg blt k [] bs=bs:=by rw[mg]
theorem zbh(as:List Nat):mg blt k as []=as:=by cases as <;> rw[mg];simp
theorem mg_b{a b:Nat}{as bs:List Nat}(h:blt (k b) (k a)=true):mg blt k (a::as) (b::bs)=b::mg blt k (a::as) bs:=by rw[mg,GO h]
theorem mg_a{a b:Nat}{as bs:List Nat}(h:blt (k b) (k a)=false):mg blt k (a::as) (b::bs)=a::mg blt k as (b::bs):=by rw[mg,GP (by rw[h];exact Q3)]
theorem zkg{b:Nat}{bs:List Nat}:∀{xs as:List Nat},(∀x∈xs,blt (k b) (k x)=false)->mg blt k (xs++as) (b::bs)=xs++mg blt k as (b::bs)
 | [],as,h=>rfl
 | x::xs,as,h=>by rw[Zn,mg_a (h x (by simp)),zkg λy hy=>h y (by simp[hy])];rfl
theorem zks{a:Nat}{as:List Nat}:∀{ys bs:List Nat},(∀y∈ys,blt (k y) (k a)=true)->mg blt k (a::as) (ys++bs)=ys++mg blt k (a::as) bs
 | [],bs,h=>rfl
 | y::ys,bs,h=>by rw[Zn,mg_b (h y (by simp)),zks λz hz=>h z (by simp[hz])];rfl
theorem zyx{a:Nat}(h:∀y∈ys,blt (k y) (k a)=true):mg blt k [a] ys=ys ++ [a]:=by
 have:=zks (as:=[]) (bs:=[]) h;rw[Qx,zbh] at this;exact this
theorem zz6: ∀(n:Nat) (xs ys:List Nat),xs.length+ys.length=n->(∀w∈ws,∀y∈ys,blt (k y) (k w)=true)->mg blt k (xs++ws) ys=mg blt k xs ys++ws:=by
 intro n
 induction n with
 | zero=>
   intro xs ys hn h;have:xs = []:=Za (by lia);have:ys = []:=Za (by lia);subst xs;subst ys;rw[zbh,zbh]
 | succ n ih=>
   intro xs ys hn h
   cases ys with
   | nil=>rw[zbh,zbh]
   | cons y ys=>
     cases xs with
     | nil=>
       rw[zbk,Jl]
       cases ws with
       | nil=>rw[zbk,Qx]
       | cons w ws=>
         have:=zks (blt:=blt) (k:=k) (as:=ws) (bs:=[]) (h w (by simp));rw[Qx,zbh] at this;exact this
     | cons x xs=>
       simp only[Qi] at hn;rw[Zn]
       cases e:blt (k y) (k x) with
       | true=>
         rw[mg_b e,mg_b e,Zn,<- Zn,ih (x::xs) ys (by simp only[Qi];lia) λw hw z hz=>h w hw z (by simp[hz])]
       | false=>rw[mg_a e,mg_a e,Zn,ih xs (y::ys) (by simp only[Qi];lia) h]
theorem znt(h:∀w∈ws,∀y∈ys,blt (k y) (k w)=true):mg blt k (xs++ws) ys=mg blt k xs ys++ws:=zz6 _ xs ys rfl h
theorem z0t: ∀(n:Nat) (xs ys:List Nat),xs.length+ys.length=n->(∀z∈zs,∀x∈xs,blt (k z) (k x)=false)->mg blt k xs (ys++zs)=mg blt k xs ys++zs:=by
 intro n
 induction n with
 | zero=>
   intro xs ys hn h;have:xs = []:=Za (by lia);have:ys = []:=Za (by lia);subst xs;subst ys;rw[zbk,zbk]
 | succ n ih=>
   intro xs ys hn h
   cases xs with
   | nil=>rw[zbk,zbk]
   | cons x xs=>
     cases ys with
     | nil=>
       rw[zbh,Jl]
       cases zs with
       | nil=>rw[zbh,Qx]
       | cons z zs=>
         have:=zkg (blt:=blt) (k:=k) (bs:=zs) (as:=[]) (h z (by simp));rw[Qx,zbk] at this;exact this
     | cons y ys=>
       simp only[Qi] at hn;rw[Zn]
       cases e:blt (k y) (k x) with
       | true=>rw[mg_b e,mg_b e,Zn,ih (x::xs) ys (by simp only[Qi];lia) h]
       | false=>rw[mg_a e,mg_a e,Zn,<- Zn,ih xs (y::ys) (by simp only[Qi];lia) λz hz w hw=>h z hz w (by simp[hw])]
theorem ziw(h:∀z∈zs,∀x∈xs,blt (k z) (k x)=false):mg blt k xs (ys++zs)=mg blt k xs ys++zs:=z0t _ xs ys rfl h
theorem znu:∀(n:Nat) (xs ys:List Nat),xs.length+ys.length=n->(mg blt k xs ys).Perm (xs++ys):=by
 intro n
 induction n with
 | zero=>
   intro xs ys hn;have:xs = []:=Za (by lia);subst xs;rw[zbk];exact .refl _
 | succ n ih=>
   intro xs ys hn
   cases xs with
   | nil=>rw[zbk];exact .refl _
   | cons x xs=>
     cases ys with
     | nil=>rw[zbh,Qx]
     | cons y ys=>
       simp only[Qi] at hn
       cases e:blt (k y) (k x) with
       | true=>
         rw[mg_b e];refine .trans (.cons y (ih (x::xs) ys (by simp only[Qi];lia))) ?_;exact(Yt (a:=y) (l₁:=x::xs) (l₂:=ys)).symm
       | false=>
         rw[mg_a e,Zn];exact .cons x (ih xs (y::ys) (by simp only[Qi];lia))
theorem mg_mem{z:Nat}:z∈mg blt k xs ys↔z∈xs\/z∈ys:=by rw[(znu _ xs ys rfl).mem_iff,Qu]
theorem zpz(xs ys:List Nat):(mg blt k xs ys).length=xs.length+ys.length:=by rw[(znu _ xs ys rfl).length_eq,Qf]
theorem zzp(W:WO blt):∀(n:Nat) (xs ys:List Nat),xs.length+ys.length=n->xs.Pairwise (Rk blt k)->ys.Pairwise (Rk blt k)->(∀x∈xs,∀y∈ys,x<y)->(mg blt k xs ys).Pairwise (Rk blt k):=by
 intro n
 induction n with
 | zero=>
   intro xs ys hn h1 h2 h3;have:xs = []:=Za (by lia);subst xs;rw[zbk];exact h2
 | succ n ih=>
   intro xs ys hn h1 h2 h3
   cases xs with
   | nil=>rw[zbk];exact h2
   | cons x xs=>
     cases ys with
     | nil=>rw[zbh];exact h1
     | cons y ys=>
       simp only[Qi] at hn;have p1:=Jj.mp h1;have p2:=Jj.mp h2
       cases e:blt (k y) (k x) with
       | true=>
         rw[mg_b e];refine Jj.mpr ⟨λz hz=>?_,ih (x::xs) ys (by simp only[Qi];lia) h1 p2.2 λa ha b hb=>h3 a ha b (by simp[hb])⟩;rcases mg_mem.mp hz with hz|hz
         .rcases Q0.mp hz with rfl|hz
          .exact .inl e
          .exact Rk.trans W (.inl e) (p1.1 z hz)
         .exact p2.1 z hz
       | false=>
         rw[mg_a e];have rx:Rk blt k x y:=.inr ⟨e,h3 x (by simp) y (by simp)⟩;refine Jj.mpr ⟨λz hz=>?_,ih xs (y::ys) (by simp only[Qi];lia) p1.2 h2 λa ha b hb=>h3 a (by simp[ha]) b hb⟩;rcases mg_mem.mp hz with hz|hz
         .exact p1.1 z hz
         .rcases Q0.mp hz with rfl|hz
          .exact rx
          .exact Rk.trans W rx (p2.1 z hz)
theorem zpg(W:WO blt)(h1:xs.Pairwise (Rk blt k))(h2:ys.Pairwise (Rk blt k))(h3:∀x∈xs,∀y∈ys,x<y):(mg blt k xs ys).Pairwise (Rk blt k):=zzp W _ xs ys rfl h1 h2 h3
end
def at0(a₀:Array U2)(n:Nat):U2:=a₀.getD n (.none,.none)
theorem zi1{n:Nat}(h:n<a₀.size):a₀[n]? = some (at0 a₀ n):=by
 unfold at0;rw[Zz h];simp[Array.getD,h]
structure Nmd(a₀:Array U2)(arr:Array U2)(L:List Nat):Prop where
 eq:arr.toList=L.map (at0 a₀)
 lt:∀n∈L,n<a₀.size
section
variable {a₀:Array U2}{a b out:Array U2}{LA LB oN:List Nat}
theorem Nmd.size(h:Nmd a₀ a LA):a.size=LA.length:=by rw[<- Zb,h.eq,Qe]
theorem Nmd.get(h:Nmd a₀ a LA){i:Nat}(hi:i<LA.length):∃x,a[i]? = some x/\a₀[LA.getD i 0]? = some x/\x=at0 a₀ (LA.getD i 0):=by
 refine⟨at0 a₀ (LA.getD i 0),?_,zi1 (h.lt _ ?_),rfl⟩
 .rw[<- Z3,h.eq,Qm,Qb hi];simp[Zf,hi]
 .simp[Zf,hi]
theorem Nmd.push(h:Nmd a₀ out oN){n:Nat}(hn:n<a₀.size):Nmd a₀ (out.push (at0 a₀ n)) (oN ++ [n]) :=
 ⟨by rw[Vv,h.eq,QE];rfl,λx hx=>by rcases Qu.mp hx with z|z;(exact h.lt x z);(rw[Qn.mp z];exact hn)⟩
theorem Nmd.app(h:Nmd a₀ out oN)(h':Nmd a₀ a LA):Nmd a₀ (out++a) (oN++LA) :=
 ⟨by rw[JR,h.eq,h'.eq,QE],λx hx=>by rcases Qu.mp hx with z|z;(exact h.lt x z);(exact h'.lt x z)⟩
theorem Nmd.cut(h:Nmd a₀ a LA)(i j:Nat):Nmd a₀ (a.extract i j) ((LA.drop i).take (j-i)) :=
 ⟨by rw[Array.toList_extract,h.eq,List.extract_eq_drop_take',YM,<- Va,<- Yl],λx hx=>h.lt x (Jo (QO hx))⟩
theorem Nmd.rest(h:Nmd a₀ a LA)(i:Nat):Nmd a₀ (a.extract i) (LA.drop i):=by
 have:=h.cut i a.size;rw[h.size,Zg (by rw[Zd];exact Qg _),<- h.size] at this;exact this
end
section
variable {α:Type}{blt:α->α->Bool}{k:Nat->α}{a₀ a b out:Array U2}{LA LB:List Nat}
structure Mid(blt:α->α->Bool)(k:Nat->α)(a₀:Array U2)(LA LB:List Nat)(out:Array U2)(ia ib:Nat):Prop where
 ha:ia<=LA.length
 hb:ib<=LB.length
 ex:∃oN,Nmd a₀ out oN/\oN++mg blt k (LA.drop ia) (LB.drop ib)=mg blt k LA LB
theorem zec{L:List Nat}{i:Nat}(h:i<L.length):L.drop i=L.getD i 0::L.drop (i+1):=by
 rw[QJ h];simp[Zf,h]
theorem Mid.pb(A:Nmd a₀ a LA)(B:Nmd a₀ b LB){ia ib:Nat}(m:Mid blt k a₀ LA LB out ia ib)(h1:ia<LA.length)(h2:ib<LB.length)(h:blt (k (LB.getD ib 0)) (k (LA.getD ia 0))=true):Mid blt k a₀ LA LB (out.push (at0 a₀ (LB.getD ib 0))) ia (ib+1):=by
 obtain⟨oN,n,e⟩:=m.ex;refine⟨m.ha,h2,oN ++ [LB.getD ib 0],n.push (B.lt _ (by simp[Zf,h2])),?_⟩;rw[<- e,zec h1,zec h2,mg_b h,Qo];rfl
theorem Mid.pa(A:Nmd a₀ a LA)(B:Nmd a₀ b LB){ia ib:Nat}(m:Mid blt k a₀ LA LB out ia ib)(h1:ia<LA.length)(h2:ib<LB.length)(h:blt (k (LB.getD ib 0)) (k (LA.getD ia 0))=false):Mid blt k a₀ LA LB (out.push (at0 a₀ (LA.getD ia 0))) (ia+1) ib:=by
 obtain⟨oN,n,e⟩:=m.ex;refine⟨h1,m.hb,oN ++ [LA.getD ia 0],n.push (A.lt _ (by simp[Zf,h1])),?_⟩;rw[<- e,zec h1,zec h2,mg_a h,Qo];rfl
theorem zcy{L:List Nat}{i p x:Nat}(hx:x∈(L.drop i).take p):∃j,j<p/\i+j<L.length/\x=L.getD (i+j) 0:=by
 obtain⟨j,hj,e⟩:=ZM hx;rw[Q8,Zd] at hj;refine⟨j,by lia,by lia,?_⟩;rw[<- e,List.getElem_take,List.getElem_drop];simp[Zf,show i+j<L.length by lia]
theorem zqo{L:List Nat}{i p:Nat}(h:i+p<=L.length):L.drop i=(L.drop i).take p++L.drop (i+p):=by
 rw[<- Jf,Zv]
theorem Mid.as(A:Nmd a₀ a LA){ia ib p:Nat}(m:Mid blt k a₀ LA LB out ia ib)(h1:ia+p<=LA.length)(h2:ib<LB.length)(h:∀i,i<p->blt (k (LB.getD ib 0)) (k (LA.getD (ia+i) 0))=false):Mid blt k a₀ LA LB (out++a.extract ia (ia+p)) (ia+p) ib:=by
 obtain⟨oN,n,e⟩:=m.ex;have c:=A.cut ia (ia+p);rw[show ia+p-ia=p by lia] at c;refine⟨h1,m.hb,oN++(LA.drop ia).take p,n.app c,?_⟩;rw[<- e,Qo]
 congr 1
 rw[zec h2]
 conv=>rhs;rw[zqo h1]
 rw[zkg];intro x hx;obtain⟨j,hj,_,rfl⟩:=zcy hx;exact h j hj
theorem Mid.bs(B:Nmd a₀ b LB){ia ib p:Nat}(m:Mid blt k a₀ LA LB out ia ib)(h1:ia<LA.length)(h2:ib+p<=LB.length)(h:∀i,i<p->blt (k (LB.getD (ib+i) 0)) (k (LA.getD ia 0))=true):Mid blt k a₀ LA LB (out++b.extract ib (ib+p)) ia (ib+p):=by
 obtain⟨oN,n,e⟩:=m.ex;have c:=B.cut ib (ib+p);rw[show ib+p-ib=p by lia] at c;refine⟨m.ha,h2,oN++(LB.drop ib).take p,n.app c,?_⟩;rw[<- e,Qo]
 congr 1
 rw[zec h1]
 conv=>rhs;rw[zqo h2]
 rw[zks];intro x hx;obtain⟨j,hj,_,rfl⟩:=zcy hx;exact h j hj
def Mrg(blt:α->α->Bool)(k:Nat->α)(a₀:Array U2)(LA LB:List Nat)(r:Array U2):Prop:=Nmd a₀ r (mg blt k LA LB)
theorem Mid.endB(A:Nmd a₀ a LA)(B:Nmd a₀ b LB){ia ib:Nat}(m:Mid blt k a₀ LA LB out ia ib)(h:ib=LB.length):Mrg blt k a₀ LA LB (out++a.extract ia++b.extract ib):=by
 obtain⟨oN,n,e⟩:=m.ex;subst h;have:=(n.app (A.rest ia)).app (B.rest LB.length);rw[ZF,zbh] at e;rw[ZF,Qx,e] at this;exact this
theorem Mid.endA(A:Nmd a₀ a LA)(B:Nmd a₀ b LB){ia ib:Nat}(m:Mid blt k a₀ LA LB out ia ib)(h:ia=LA.length):Mrg blt k a₀ LA LB (out++a.extract ia++b.extract ib):=by
 obtain⟨oN,n,e⟩:=m.ex;subst h;have:=(n.app (A.rest LA.length)).app (B.rest ib);rw[ZF,zbk] at e;rw[ZF,Qx,e] at this;exact this
theorem Mid.last(A:Nmd a₀ a LA)(B:Nmd a₀ b LB){ia ib:Nat}(m:Mid blt k a₀ LA LB out ia ib)(h:ia+1=LA.length)(hl:∀y∈LB,blt (k y) (k (LA.getD (LA.length-1) 0))=true):Mrg blt k a₀ LA LB (out++b.extract ib++a.extract ia):=by
 obtain⟨oN,n,e⟩:=m.ex;have:=(n.app (B.rest ib)).app (A.rest ia);have d:LA.drop ia = [LA.getD ia 0]:=by rw[zec (by lia),Zx (by lia)]
 rw[d] at e this;rw[zyx (λy hy=>by have:=hl y (Jo hy);rwa [show LA.length-1=ia by lia] at this)] at e;rw[Qo,e] at this;exact this
end
def zsm:Array U2->Array U2->StateT U0 Sem (Array U2):=sortPriv% PySem.Builtin.mergeLo
structure Keep(st st':U0):Prop where
 ki:kindOf st'=kindOf st
 ar:arrOf st'=arrOf st
 pe:pendingOf st'=pendingOf st
 fa:UD st'=UD st
theorem Keep.refl(st:U0):Keep st st:=⟨rfl,rfl,rfl,rfl⟩
theorem Keep.trans(h:Keep a b)(h':Keep b c):Keep a c:=⟨h'.ki.trans h.ki,h'.ar.trans h.ar,h'.pe.trans h.pe,h'.fa.trans h.fa⟩
section
variable {prog:Um}{w:Uq}{A:Us}{E:Uf->Ui->Prop}{s:Ui}{α:Type}{blt:α->α->Bool}{k:Nat->α}{a₀ a b:Array U2}{kd:U6}{st:U0}{LA LB:List Nat}
def Srt(blt:α->α->Bool)(k:Nat->α)(L:List Nat):Prop:=∀i j,i<j->j<L.length->blt (k (L.getD j 0)) (k (L.getD i 0))=false
theorem galA{ia jb n hint:Nat}(W:WO blt)(hC:zbx prog w A s kd a₀ blt k)(ki:kindOf st=kd)(NA:Nmd a₀ a LA)(sa:Srt blt k LA)(hj:a₀[jb]? = some key)(hn:ia+n<=LA.length)(hh:hint<n)
 (h:∀p,p<=n->(∀i,i<p->blt (k jb) (k (LA.getD (ia+i) 0))=false)->(∀i,p<=i->i<n->blt (k jb) (k (LA.getD (ia+i) 0))=true)->Q (some p) st):wpS (model prog w) A E s (zes false key a ia n hint) Q st:=by
 refine zh7 (L:=λi=>LA.getD (ia+i) 0) (jk:=jb) hC ki hj (λi hi=>?_) (λi j hij hjn e=>?_) hh λp hp h1 h2=>h p hp (λi hi=>?_) λi hi hi2=>?_
 .obtain⟨x,e1,e2,_⟩:=NA.get (i:=ia+i) (by lia);exact⟨x,e1,e2⟩
 .have e:(!blt (k jb) (k (LA.getD (ia+j) 0)))=true:=e;show(!blt (k jb) (k (LA.getD (ia+i) 0)))=true;rw[ZY] at e ⊢;exact zco W (sa (ia+i) (ia+j) (by lia) (by lia)) e
 .have e:(!blt (k jb) (k (LA.getD (ia+i) 0)))=true:=h1 i hi;rwa [ZY] at e
 .have e:(!blt (k jb) (k (LA.getD (ia+i) 0)))=false:=h2 i hi hi2;rwa [Vl] at e
theorem galB{ib ja n hint:Nat}(W:WO blt)(hC:zbx prog w A s kd a₀ blt k)(ki:kindOf st=kd)(NB:Nmd a₀ b LB)(sb:Srt blt k LB)(hj:a₀[ja]? = some key)(hn:ib+n<=LB.length)(hh:hint<n)
 (h:∀p,p<=n->(∀i,i<p->blt (k (LB.getD (ib+i) 0)) (k ja)=true)->(∀i,p<=i->i<n->blt (k (LB.getD (ib+i) 0)) (k ja)=false)->Q (some p) st):wpS (model prog w) A E s (zes true key b ib n hint) Q st:=by
 refine zh7 (L:=λi=>LB.getD (ib+i) 0) (jk:=ja) hC ki hj (λi hi=>?_) (λi j hij hjn e=>?_) hh λp hp h1 h2=>h p hp (λi hi=>h1 i hi) λi hi hi2=>h2 i hi hi2
 .obtain⟨x,e1,e2,_⟩:=NB.get (i:=ib+i) (by lia);exact⟨x,e1,e2⟩
 .exact zf1 W (sb (ib+i) (ib+j) (by lia) (by lia)) e
theorem zbc{β:Type}{c:Bool}{t e:StateT U0 Sem β}{Q:β->U0->Prop}(h1:c=true->wpS M A E s t Q st)(h2:c=false->wpS M A E s e Q st):wpS M A E s (if c=true then t else e) Q st:=by
 cases c with
 | true=>rw[GO rfl];exact h1 rfl
 | false=>rw[GP Q3];exact h2 rfl
theorem zmo{β γ:Type}{m:StateT U0 Sem β}{Q:β->U0->Prop}(jp:PUnit->γ->StateT U0 Sem β)(J:γ->U0->Prop)(hv:∀x st',J x st'->wpS M A E s (jp ⟨⟩ x) Q st')(h:(∀x st',J x st'->wpS M A E s (jp ⟨⟩ x) Q st')->wpS M A E s m Q st):wpS M A E s m Q st:=h hv
theorem ze8{β γ δ:Type}{m:StateT U0 Sem β}{Q:β->U0->Prop}(jp:PUnit->γ->δ->StateT U0 Sem β)(J:γ->δ->U0->Prop)(hv:∀x y st',J x y st'->wpS M A E s (jp ⟨⟩ x y) Q st')(h:(∀x y st',J x y st'->wpS M A E s (jp ⟨⟩ x y) Q st')->wpS M A E s m Q st):wpS M A E s m Q st:=h hv
theorem zz8(W:WO blt)(hC:zbx prog w A s kd a₀ blt k)(ki:kindOf st=kd)(NA:Nmd a₀ a LA)(NB:Nmd a₀ b LB)(sa:Srt blt k LA)(sb:Srt blt k LB)(hA:0<LA.length)(hB:0<LB.length)
 (hf:blt (k (LB.getD 0 0)) (k (LA.getD 0 0))=true) (hl:∀y∈LB,blt (k y) (k (LA.getD (LA.length-1) 0))=true) (h:∀r st',Mrg blt k a₀ LA LB r->Keep st st'->Q r st'):wpS (model prog w) A E s (zsm a b) Q st:=by
 have za:=NA.size;have zb:=NB.size;refine Uj (Gb (UQ ⟨rfl,?_⟩))
 extract_lets -merge +onlyGivenNames total done lastOfA
 obtain⟨x0,e0,_,rfl⟩:=NB.get hB;refine Uj (za2 e0 ?_)
 extract_lets -merge +onlyGivenNames out0 ia0 ib0
 have m0:Mid blt k a₀ LA LB #[at0 a₀ (LB.getD 0 0)] 0 1:=by
  have:=Mid.pb (out:=#[]) NA NB ⟨QK _,QK _,[],⟨rfl,λ_ h=>by cases h⟩,rfl⟩ hA hB hf;exact this
 by_cases c1:1=b.size
 .rw[GO (by simpa using c1)];exact Uk (h _ _ (m0.endB NA NB (by lia)) (.refl _))
 rw[GP (by simpa using c1)]
 by_cases c2:0+1=a.size
 .rw[GO (by simpa using c2)];exact Uk (h _ _ (m0.last NA NB (by lia) hl) (.refl _))
 rw[GP (by simpa using c2)];refine Uj (UL ?_)
 extract_lets -merge +onlyGivenNames g0
 refine Uj (U3 (Ut
  (I:=λx c st'=>Keep st st'/\∃out ia ib g,c=(none,out,ia,ib,g)/\Mid blt k a₀ LA LB out ia ib/\ia+1<LA.length/\ib<LB.length/\x<=ia+ib)
  (Q:=λc st'=>Keep st st'/\∃r d,c=(some r,d)/\Mrg blt k a₀ LA LB r) ?turn ?out ⟨.refl _,_,_,_,_,rfl,m0,by lia,by lia,by lia⟩) ?rest)
 case rest=>
  rintro c st' ⟨kp,r,d,rfl,m⟩;exact Uk (h r st' m kp)
 case out=>
  rintro c st' ⟨kp,o,i,j,g,rfl,m,h1,h2,h3⟩;exact absurd h3 (by lia)
 case turn=>
  rintro x c st' _ hx ⟨kp,out,ia,ib,g,rfl,m,h1,h2,h3⟩
  extract_lets -merge +onlyGivenNames s1 o1 s2 i1 s3 j1 gg1 ac1 bc1
  have ki':kindOf st'=kd:=kp.ki.trans ki
  refine Uj (U3 (Ut
   (I:=λy c st2=>st2=st'/\∃out1 ia1 ib1 ac bc,c=(none,out1,ia1,ib1,ac,bc)/\Mid blt k a₀ LA LB out1 ia1 ib1/\ia1+1<LA.length/\ib1<LB.length/\y+(ia+ib)<=ia1+ib1)
   (Q:=λc st2=>st2=st'/\((∃r d,c=(some r,d)/\Mrg blt k a₀ LA LB r)\/∃out1 ia1 ib1 ac bc,c=(none,out1,ia1,ib1,ac,bc)/\Mid blt k a₀ LA LB out1 ia1 ib1/\ia1+1<LA.length/\ib1<LB.length/\1+(ia+ib)<=ia1+ib1)) ?t1 ?o1 ⟨rfl,_,_,_,_,_,rfl,m,h1,h2,by lia⟩) ?r1)
  case o1=>
   rintro c st2 ⟨e,o,i,j,ac,bc,rfl,m,g1,g2,g3⟩;exact⟨e,.inr ⟨o,i,j,ac,bc,rfl,m,g1,g2,by lia⟩⟩
  case t1=>
   rintro y c st2 _ hy ⟨rfl,o,i,j,ac,bc,rfl,m,g1,g2,g3⟩;dsimp only;obtain⟨xb,eb,nb,rfl⟩:=NB.get g2;obtain⟨xa,ea,na,rfl⟩:=NA.get (i:=i) (by lia);refine Uj (za2 eb (Uj (za2 ea (Uj (lt_x hC ki' nb na ?_)))));dsimp only
   cases q:blt (k (LB.getD j 0)) (k (LA.getD i 0)) with
   | true=>
     rw[GO rfl];have m2:=m.pb NA NB (by lia) g2 q;refine Uj (za2 eb ?_)
     by_cases z:j+1=b.size
     .rw[GO (by simpa using z)];exact Uk ⟨rfl,.inl ⟨_,_,rfl,m2.endB NA NB (by lia)⟩⟩
     .rw[GP (by simpa using z)]
      split
      .exact Uk ⟨rfl,.inr ⟨_,_,_,_,_,rfl,m2,g1,by lia,by lia⟩⟩
      .exact Uk ⟨rfl,_,_,_,_,_,rfl,m2,g1,by lia,by lia⟩
   | false=>
     rw[GP Q3];have m2:=m.pa NA NB (by lia) g2 q;refine Uj (za2 ea ?_)
     by_cases z:i+1+1=a.size
     .rw[GO (by simpa using z)];exact Uk ⟨rfl,.inl ⟨_,_,rfl,m2.last NA NB (by lia) hl⟩⟩
     .rw[GP (by simpa using z)]
      split
      .exact Uk ⟨rfl,.inr ⟨_,_,_,_,_,rfl,m2,by lia,g2,by lia⟩⟩
      .exact Uk ⟨rfl,_,_,_,_,_,rfl,m2,by lia,g2,by lia⟩
  case r1=>
   rintro c st2 ⟨rfl,⟨r,d,rfl,mm⟩|⟨o,i,j,ac,bc,rfl,m,g1,g2,g3⟩⟩
   .exact Uk ⟨kp,_,_,rfl,mm⟩
   extract_lets -merge +onlyGivenNames s1 s2 o1 s3 i1 s4 j1 s5 ac1 bc1
   refine Uj (Gb (UQ ⟨rfl,?_⟩))
   extract_lets -merge +onlyGivenNames g0
   refine Uj (U3 (Ut
    (I:=λy c st3=>Keep st st3/\∃out1 ia1 ib1 g ac bc,c=(none,out1,ia1,ib1,g,ac,bc)/\Mid blt k a₀ LA LB out1 ia1 ib1/\ia1+1<LA.length/\ib1<LB.length/\1+(ia+ib)<=ia1+ib1)
    (Q:=λc st3=>Keep st st3/\((∃r d,c=(some r,d)/\Mrg blt k a₀ LA LB r)\/∃out1 ia1 ib1 g ac bc,c=(none,out1,ia1,ib1,g,ac,bc)/\Mid blt k a₀ LA LB out1 ia1 ib1/\ia1+1<LA.length/\ib1<LB.length/\1+(ia+ib)<=ia1+ib1)) ?t2 ?o2 ⟨kp,_,_,_,_,_,_,rfl,m,g1,g2,g3⟩) ?r2)
   case o2=>
    rintro c st3 ⟨kp3,z⟩;exact⟨kp3,.inr z⟩
   case r2=>
    rintro c st3 ⟨kp3,⟨r,d,rfl,mm⟩|⟨o,i,j,g,ac,bc,rfl,m,g1,g2,g3⟩⟩
    .exact Uk ⟨kp3,_,_,rfl,mm⟩
    dsimp only;refine Uj (U4 ?_);exact Uk ⟨kp3.trans ⟨rfl,rfl,rfl,rfl⟩,_,_,_,_,rfl,m,g1,g2,by lia⟩
   case t2=>
    rintro y c st3 _ hy ⟨kp3,o,i,j,g,ac,bc,rfl,m,g1,g2,g3⟩
    extract_lets -merge +onlyGivenNames s1 o1 s2 i1 s3 j1 s4 gg1 s5 ac1 bc1 jb jp
    refine zmo jp (λ_ st4=>Keep st st4) (λg' st4 kp4=>?_) λhj=>?_
    case refine_2=>clear_value jp;split <;> exact hj _ _ kp3
    unfold jp;dsimp -zeta only [s1,o1,s2,i1,s3,j1,s4,gg1,s5,ac1,bc1,jb];obtain⟨xb,eb,nb,rfl⟩:=NB.get g2;refine Uj (U4 ?_);refine Uj (za2 eb ?_);refine Uj (galA W hC (kp4.ki.trans ki) NA sa nb (ia:=i) (n:=a.size-i) (by lia) (by lia) λp hp p1 p2=>?_);dsimp -zeta only
    extract_lets -merge +onlyGivenNames ac2 jp2
    refine ze8 jp2 (λout' ia' st5=>Keep st st5/\Mid blt k a₀ LA LB out' ia' j/\ia'+1<LA.length/\i<=ia'/\blt (k (LB.getD j 0)) (k (LA.getD ia' 0))=true) (λout' ia' st5 h5=>?_) λhj2=>?_
    case refine_2=>
     clear_value jp2
     by_cases pp:p > 0
     .rw[GO pp];have m1:=m.as NA (p:=p) (by lia) g2 p1;dsimp only
      by_cases z1:i+p+1=a.size
      .rw[GO (by simpa using z1)];exact Uk ⟨kp4.trans ⟨rfl,rfl,rfl,rfl⟩,.inl ⟨_,_,rfl,m1.last NA NB (by lia) hl⟩⟩
      rw[GP (by simpa using z1)]
      by_cases z2:i+p=a.size
      .rw[GO (by simpa using z2)];exact Uk ⟨kp4.trans ⟨rfl,rfl,rfl,rfl⟩,.inl ⟨_,_,rfl,m1.endA NA NB (by lia)⟩⟩
      rw[GP (by simpa using z2)];exact hj2 _ _ _ ⟨kp4.trans ⟨rfl,rfl,rfl,rfl⟩,m1,by lia,V9 _ _,p2 p (Qg _) (by lia)⟩
     .rw[GP pp];exact hj2 _ _ _ ⟨kp4.trans ⟨rfl,rfl,rfl,rfl⟩,m,g1,Qg _,p2 0 (by lia) (by lia)⟩
    obtain⟨kp6,m1,h1',pr,q1⟩:=h5;have m2:=m1.pb NA NB (by lia) g2 q1;refine Uj (za2 eb ?_)
    extract_lets -merge +onlyGivenNames out2
    by_cases z3:j+1=b.size
    .rw[GO (by simpa using z3)];exact Uk ⟨kp6,.inl ⟨_,_,rfl,m2.endB NA NB (by lia)⟩⟩
    rw[GP (by simpa using z3)];obtain⟨xa,ea,na,rfl⟩:=NA.get (Yj h1');refine Uj (za2 ea ?_);refine Uj (galB W hC (kp6.ki.trans ki) NB sb na (ib:=j+1) (n:=b.size-(j+1)) (by lia) (by lia) λq hq r1 r2=>?_);dsimp -zeta only
    extract_lets -merge +onlyGivenNames bc2 ja jp3
    refine ze8 jp3 (λout' ib' st5=>Keep st st5/\Mid blt k a₀ LA LB out' ia' ib'/\ib'<LB.length/\j+1<=ib'/\blt (k (LB.getD ib' 0)) (k (LA.getD ia' 0))=false) (λout' ib' st5 h5=>?_) λhj3=>?_
    case refine_2=>
     clear_value jp3
     by_cases qq:q > 0
     .rw[GO qq];have m3:=m2.bs NB (p:=q) (Yj h1') (by lia) r1;dsimp only
      by_cases z4:j+1+q=b.size
      .rw[GO (by simpa using z4)];exact Uk ⟨kp6,.inl ⟨_,_,rfl,m3.endB NA NB (by lia)⟩⟩
      rw[GP (by simpa using z4)];exact hj3 _ _ _ ⟨kp6,m3,by lia,V9 _ _,r2 q (Qg _) (by lia)⟩
     .rw[GP qq];exact hj3 _ _ _ ⟨kp6,m2,by lia,Qg _,r2 0 (by lia) (by lia)⟩
    unfold jp3;obtain⟨kp7,m3,h2',pq,q2⟩:=h5;have m4:=m3.pa NA NB (Yj h1') h2' q2;refine Uj (za2 ea ?_);have last:=λe=>m4.last NA NB e hl;refine zbc (λz5=>?_) λz5=>zbc (λ_=>?_) λ_=>?_
    .have z5:=beq_iff_eq.mp z5;exact Uk ⟨kp7,.inl ⟨_,_,rfl,last (by lia)⟩⟩
    all_goals have z5:=beq_eq_false_iff_ne.mp z5
    .exact Uk ⟨kp7,.inr ⟨_,_,_,_,_,_,rfl,m4,by lia,h2',by lia⟩⟩
    .exact Uk ⟨kp7,_,_,_,_,_,_,rfl,m4,by lia,h2',by lia⟩
end
def zte:Array U2->Array U2->StateT U0 Sem (Array U2):=sortPriv% PySem.Builtin.mergeHi
section
variable {α:Type}{blt:α->α->Bool}{k:Nat->α}{a₀ a b out:Array U2}{LA LB:List Nat}
structure MidH(blt:α->α->Bool)(k:Nat->α)(a₀:Array U2)(LA LB:List Nat)(out:Array U2)(na nb:Nat):Prop where
 ha:na<=LA.length
 hb:nb<=LB.length
 ex:∃oN,Nmd a₀ out oN/\mg blt k (LA.take na) (LB.take nb)++oN.reverse=mg blt k LA LB
theorem Nmd.rev(h:Nmd a₀ out oN):Nmd a₀ out.reverse oN.reverse:=⟨by rw[Array.toList_reverse,h.eq,V6],λx hx=>h.lt x (V7.mp hx)⟩
theorem znz{L:List Nat}{i:Nat}(h:i<L.length):L.take (i+1)=L.take i ++ [L.getD i 0]:=by
 rw[VT,Qb h];simp[Zf,h]
theorem zeu{L:List Nat}{p x:Nat}(hx:x∈L.take p):∃j,j<p/\j<L.length/\x=L.getD j 0:=by
 have:=zcy (L:=L) (i:=0) (p:=p) (by simpa using hx);obtain⟨j,h1,h2,h3⟩:=this;exact⟨j,h1,by lia,by rw[h3,JF]⟩
theorem Srt.le(W:WO blt)(h:Srt blt k L){i j:Nat}(hij:i<=j)(hj:j<L.length):blt (k (L.getD j 0)) (k (L.getD i 0))=false:=by
 rcases Zp i j with z|z
 .exact h i j z hj
 .have:i=j:=by lia
  subst this;exact W.irr _
theorem MidH.pa(A:Nmd a₀ a LA){na nb:Nat}(m:MidH blt k a₀ LA LB out (na+1) nb)(h:∀i,i<nb->blt (k (LB.getD i 0)) (k (LA.getD na 0))=true):MidH blt k a₀ LA LB (out.push (at0 a₀ (LA.getD na 0))) na nb:=by
 obtain⟨oN,n,e⟩:=m.ex;have hna:na<LA.length:=m.ha;refine⟨by lia,m.hb,oN ++ [LA.getD na 0],n.push (A.lt _ (by simp[Zf,hna])),?_⟩;rw[znz hna,znt (λw hw y hy=>by obtain⟨j,h1,_,rfl⟩:=zeu hy;rw[Qn.mp hw];exact h j h1)] at e;rw[<- e,Ju,Qo];rfl
theorem MidH.pb(B:Nmd a₀ b LB){na nb:Nat}(m:MidH blt k a₀ LA LB out na (nb+1))(h:∀i,i<na->blt (k (LB.getD nb 0)) (k (LA.getD i 0))=false):MidH blt k a₀ LA LB (out.push (at0 a₀ (LB.getD nb 0))) na nb:=by
 obtain⟨oN,n,e⟩:=m.ex;have hnb:nb<LB.length:=m.hb;refine⟨m.ha,by lia,oN ++ [LB.getD nb 0],n.push (B.lt _ (by simp[Zf,hnb])),?_⟩;rw[znz hnb,ziw (λz hz x hx=>by obtain⟨j,h1,_,rfl⟩:=zeu hx;rw[Qn.mp hz];exact h j h1)] at e;rw[<- e,Ju,Qo];rfl
theorem zla{L:List Nat}{p n:Nat}(h:p<=n):L.take n=L.take p++(L.drop p).take (n-p):=by
 rw[<- Vd,show p+(n-p)=n by lia]
theorem MidH.as(A:Nmd a₀ a LA){na nb p:Nat}(m:MidH blt k a₀ LA LB out na nb)(hp:p<=na)(h:∀j,p<=j->j<na->∀i,i<nb->blt (k (LB.getD i 0)) (k (LA.getD j 0))=true):MidH blt k a₀ LA LB (out++(a.extract p na).reverse) p nb:=by
 obtain⟨oN,n,e⟩:=m.ex;have hh:=m.ha;refine⟨by lia,m.hb,oN++((LA.drop p).take (na-p)).reverse,n.app (A.cut p na).rev,?_⟩;rw[zla hp,znt (λw hw y hy=>by obtain⟨i,h1,_,rfl⟩:=zeu hy;obtain⟨j,j1,_,rfl⟩:=zcy hw;exact h (p+j) (by lia) (by lia) i h1)] at e;rw[<- e,Ju,YN,Qo]
theorem MidH.bs(B:Nmd a₀ b LB){na nb p:Nat}(m:MidH blt k a₀ LA LB out na nb)(hp:p<=nb)(h:∀j,p<=j->j<nb->∀i,i<na->blt (k (LB.getD j 0)) (k (LA.getD i 0))=false):MidH blt k a₀ LA LB (out++(b.extract p nb).reverse) na p:=by
 obtain⟨oN,n,e⟩:=m.ex;have hh:=m.hb;refine⟨m.ha,by lia,oN++((LB.drop p).take (nb-p)).reverse,n.app (B.cut p nb).rev,?_⟩;rw[zla hp,ziw (λz hz x hx=>by obtain⟨i,h1,_,rfl⟩:=zeu hx;obtain⟨j,j1,_,rfl⟩:=zcy hz;exact h (p+j) (by lia) (by lia) i h1)] at e;rw[<- e,Ju,YN,Qo]
theorem Nmd.upto(h:Nmd a₀ a LA)(n:Nat):Nmd a₀ (a.extract 0 n) (LA.take n):=by
 have:=h.cut 0 n;rwa [Je,Yy] at this
theorem MidH.done(A:Nmd a₀ a LA)(B:Nmd a₀ b LB){na nb:Nat}(m:MidH blt k a₀ LA LB out na nb)(h:na=0\/nb=0):Mrg blt k a₀ LA LB (a.extract 0 na++b.extract 0 nb++out.reverse):=by
 obtain⟨oN,n,e⟩:=m.ex;have:=((A.upto na).app (B.upto nb)).app n.rev
 have z:LA.take na++LB.take nb++oN.reverse=mg blt k LA LB:=by
  rw[<- e];rcases h with rfl|rfl
  .rw[Yd,zbk];rfl
  .rw[Yd,zbh,Qx]
 rw[z] at this;exact this
theorem MidH.first(A:Nmd a₀ a LA)(B:Nmd a₀ b LB){na nb:Nat}(m:MidH blt k a₀ LA LB out na nb)(h:nb=1)(hf:blt (k (LB.getD 0 0)) (k (LA.getD 0 0))=true):Mrg blt k a₀ LA LB (b.extract 0 nb++a.extract 0 na++out.reverse):=by
 obtain⟨oN,n,e⟩:=m.ex;have:=((B.upto nb).app (A.upto na)).app n.rev
 have z:LB.take nb++LA.take na++oN.reverse=mg blt k LA LB:=by
  rw[<- e];subst h;have hb:=m.hb
  have t1:LB.take 1 = [LB.getD 0 0]:=by
   have:=znz (L:=LB) (i:=0) (by lia);simpa using this
  rw[t1]
  cases LA with
  | nil=>simp[zbk]
  | cons x xs=>
    cases na with
    | zero=>simp[zbk]
    | succ na=>
      have hf:blt (k (LB.getD 0 0)) (k x)=true:=by simpa using hf
      rw[YV,mg_b hf,zbh];rfl
 rw[z] at this;exact this
end
section
variable {prog:Um}{w:Uq}{A:Us}{E:Uf->Ui->Prop}{s:Ui}{α:Type}{blt:α->α->Bool}{k:Nat->α}{a₀ a b:Array U2}{kd:U6}{st:U0}{LA LB:List Nat}
theorem z0m(W:WO blt)(hC:zbx prog w A s kd a₀ blt k)(ki:kindOf st=kd)(NA:Nmd a₀ a LA)(NB:Nmd a₀ b LB)(sa:Srt blt k LA)(sb:Srt blt k LB)(hA:0<LA.length)(hB:0<LB.length)
 (hf:blt (k (LB.getD 0 0)) (k (LA.getD 0 0))=true) (hl:∀i,i<LB.length->blt (k (LB.getD i 0)) (k (LA.getD (LA.length-1) 0))=true) (h:∀r st',Mrg blt k a₀ LA LB r->Keep st st'->Q r st'):wpS (model prog w) A E s (zte a b) Q st:=by
 have za:=NA.size;have zb:=NB.size;refine Uj (Gb (UQ ⟨rfl,?_⟩))
 extract_lets -merge +onlyGivenNames total done firstOfB na0 nb0
 obtain⟨x0,e0,_,rfl⟩:=NA.get (i:=a.size-1) (by lia);refine Uj (za2 e0 ?_)
 extract_lets -merge +onlyGivenNames out0
 have m0:MidH blt k a₀ LA LB #[at0 a₀ (LA.getD (a.size-1) 0)] (a.size-1) b.size:=by
  have mm:MidH blt k a₀ LA LB #[] (a.size-1+1) b.size:=⟨by lia,by lia,[],⟨rfl,λ_ h=>by cases h⟩,by rw[show a.size-1+1=LA.length by lia,zb,QT,QT];simp⟩;exact mm.pa NA λi hi=>by rw[za];exact hl i (by lia)
 refine zbc (λz=>?_) λz=>zbc (λz'=>?_) λz'=>?_
 .exact Uk (h _ _ (m0.done NA NB (.inl (beq_iff_eq.mp z))) (.refl _))
 .exact Uk (h _ _ (m0.first NA NB (beq_iff_eq.mp z') hf) (.refl _))
 have z:=beq_eq_false_iff_ne.mp z;have z':=beq_eq_false_iff_ne.mp z';refine Uj (UL ?_)
 extract_lets -merge +onlyGivenNames g0
 refine Uj (U3 (Ut
  (I:=λx c st'=>Keep st st'/\∃out na nb g,c=(none,na,nb,out,g)/\MidH blt k a₀ LA LB out na nb/\1<=na/\2<=nb/\x+na+nb<=LA.length+LB.length)
  (Q:=λc st'=>Keep st st'/\∃r d,c=(some r,d)/\Mrg blt k a₀ LA LB r) ?turn ?out ⟨.refl _,_,_,_,_,rfl,m0,by lia,by lia,by lia⟩) ?rest)
 case rest=>
  rintro c st' ⟨kp,r,d,rfl,m⟩;exact Uk (h r st' m kp)
 case out=>
  rintro c st' ⟨kp,o,i,j,g,rfl,m,h1,h2,h3⟩;exact absurd h3 (by lia)
 case turn=>
  rintro x c st' _ hx ⟨kp,out,na,nb,g,rfl,m,h1,h2,h3⟩
  extract_lets -merge +onlyGivenNames s1 na1 s2 nb1 s3 o1 gg1 ac1 bc1
  have ki':kindOf st'=kd:=kp.ki.trans ki
  refine Uj (U3 (Ut
   (I:=λy c st2=>st2=st'/\∃out1 na1 nb1 ac bc,c=(none,na1,nb1,out1,ac,bc)/\MidH blt k a₀ LA LB out1 na1 nb1/\1<=na1/\2<=nb1/\y+na1+nb1<=na+nb)
   (Q:=λc st2=>st2=st'/\((∃r d,c=(some r,d)/\Mrg blt k a₀ LA LB r)\/∃out1 na1 nb1 ac bc,c=(none,na1,nb1,out1,ac,bc)/\MidH blt k a₀ LA LB out1 na1 nb1/\1<=na1/\2<=nb1/\1+na1+nb1<=na+nb)) ?t1 ?o1 ⟨rfl,_,_,_,_,_,rfl,m,h1,h2,by lia⟩) ?r1)
  case o1=>
   rintro c st2 ⟨e,o,i,j,ac,bc,rfl,m,g1,g2,g3⟩;exact⟨e,.inr ⟨o,i,j,ac,bc,rfl,m,g1,g2,by lia⟩⟩
  case t1=>
   rintro y c st2 _ hy ⟨rfl,o,i,j,ac,bc,rfl,m,g1,g2,g3⟩;obtain⟨i,rfl⟩:∃i',i=i'+1:=⟨i-1,by lia⟩;obtain⟨j,rfl⟩:∃j',j=j'+1:=⟨j-1,by lia⟩;have ma:=m.ha;have mb:=m.hb;dsimp only;obtain⟨xb,eb,nb,rfl⟩:=NB.get (i:=j) (by lia);obtain⟨xa,ea,na,rfl⟩:=NA.get (i:=i) (by lia);refine Uj (za2 eb (Uj (za2 ea (Uj (lt_x hC ki' nb na ?_)))));dsimp only
   cases q:blt (k (LB.getD j 0)) (k (LA.getD i 0)) with
   | true=>
     rw[GO rfl];have m2:=m.pa NA λt ht=>zf1 W (sb.le W (show t<=j by lia) (by lia)) q;refine Uj (za2 ea ?_);refine zbc (λz=>?_) λz=>?_
     .exact Uk ⟨rfl,.inl ⟨_,_,rfl,m2.done NA NB (.inl (beq_iff_eq.mp z))⟩⟩
     .have z:=beq_eq_false_iff_ne.mp z
      split
      .exact Uk ⟨rfl,.inr ⟨_,_,_,_,_,rfl,m2,by lia,g2,by lia⟩⟩
      .exact Uk ⟨rfl,_,_,_,_,_,rfl,m2,by lia,g2,by lia⟩
   | false=>
     rw[GP Q3];have m2:=m.pb NB λt ht=>zco W (sa.le W (show t<=i by lia) (by lia)) q;refine Uj (za2 eb ?_);refine zbc (λz=>?_) λz=>?_
     .exact Uk ⟨rfl,.inl ⟨_,_,rfl,m2.first NA NB (beq_iff_eq.mp z) hf⟩⟩
     .have z:=beq_eq_false_iff_ne.mp z
      split
      .exact Uk ⟨rfl,.inr ⟨_,_,_,_,_,rfl,m2,g1,by lia,by lia⟩⟩
      .exact Uk ⟨rfl,_,_,_,_,_,rfl,m2,g1,by lia,by lia⟩
  case r1=>
   rintro c st2 ⟨rfl,⟨r,d,rfl,mm⟩|⟨o,i,j,ac,bc,rfl,m,g1,g2,g3⟩⟩
   .exact Uk ⟨kp,_,_,rfl,mm⟩
   extract_lets -merge +onlyGivenNames s1 s2 na1 s3 nb1 s4 o1 s5 ac1 bc1
   refine Uj (Gb (UQ ⟨rfl,?_⟩))
   extract_lets -merge +onlyGivenNames g0
   refine Uj (U3 (Ut
    (I:=λy c st3=>Keep st st3/\∃out1 na1 nb1 g ac bc,c=(none,na1,nb1,out1,g,ac,bc)/\MidH blt k a₀ LA LB out1 na1 nb1/\1<=na1/\2<=nb1/\1+na1+nb1<=na+nb)
    (Q:=λc st3=>Keep st st3/\((∃r d,c=(some r,d)/\Mrg blt k a₀ LA LB r)\/∃out1 na1 nb1 g ac bc,c=(none,na1,nb1,out1,g,ac,bc)/\MidH blt k a₀ LA LB out1 na1 nb1/\1<=na1/\2<=nb1/\1+na1+nb1<=na+nb)) ?t2 ?o2 ⟨kp,_,_,_,_,_,_,rfl,m,g1,g2,g3⟩) ?r2)
   case o2=>
    rintro c st3 ⟨kp3,z⟩;exact⟨kp3,.inr z⟩
   case r2=>
    rintro c st3 ⟨kp3,⟨r,d,rfl,mm⟩|⟨o,i,j,g,ac,bc,rfl,m,g1,g2,g3⟩⟩
    .exact Uk ⟨kp3,_,_,rfl,mm⟩
    dsimp only;refine Uj (U4 ?_);exact Uk ⟨kp3.trans ⟨rfl,rfl,rfl,rfl⟩,_,_,_,_,rfl,m,g1,g2,by lia⟩
   case t2=>
    rintro y c st3 _ hy ⟨kp3,o,i,j,g,ac,bc,rfl,m,g1,g2,g3⟩;obtain⟨j,rfl⟩:∃j',j=j'+1:=⟨j-1,by lia⟩;have ma:=m.ha;have mb:=m.hb
    extract_lets -merge +onlyGivenNames s1 na1 s2 nb1 s3 o1 s4 gg1 s5 ac1 bc1 jx jp
    refine zmo jp (λ_ st4=>Keep st st4) (λg' st4 kp4=>?_) λhj=>?_
    case refine_2=>clear_value jp;split <;> exact hj _ _ kp3
    unfold jp;dsimp -zeta only [s1,na1,s2,nb1,s3,o1,s4,gg1,s5,ac1,bc1,jx];simp -zeta only [Vm];obtain⟨xb,eb,nb,rfl⟩:=NB.get (i:=j) (by lia);refine Uj (U4 ?_);refine Uj (za2 eb ?_);refine Uj (galA W hC (kp4.ki.trans ki) NA sa nb (ia:=0) (n:=i) (by lia) (by lia) λp hp p1 p2=>?_);simp only[JF] at p1 p2;dsimp -zeta only
    extract_lets -merge +onlyGivenNames k1 ac2 jp2
    refine ze8 jp2 (λna' out' st5=>Keep st st5/\MidH blt k a₀ LA LB out' na' (j+1)/\1<=na'/\na'<=i/\∀t,t<na'->blt (k (LB.getD j 0)) (k (LA.getD t 0))=false) (λna' out' st5 h5=>?_) λhj2=>?_
    case refine_2=>
     clear_value jp2
     by_cases pp:i-p > 0
     .rw[GO pp];have m1:=m.as NA (p:=p) hp λt t1 t2 u hu=>zf1 W (sb.le W (show u<=j by lia) (by lia)) (p2 t t1 t2);refine zbc (λz=>?_) λz=>?_
      .exact Uk ⟨kp4.trans ⟨rfl,rfl,rfl,rfl⟩,.inl ⟨_,_,rfl,m1.done NA NB (.inl (beq_iff_eq.mp z))⟩⟩
      have z:=beq_eq_false_iff_ne.mp z;exact hj2 _ _ _ ⟨kp4.trans ⟨rfl,rfl,rfl,rfl⟩,m1,by lia,hp,p1⟩
     .rw[GP pp];obtain rfl:p=i:=by lia
      exact hj2 _ _ _ ⟨kp4.trans ⟨rfl,rfl,rfl,rfl⟩,m,g1,Qg _,p1⟩
    obtain⟨kp6,m1,h1',pr,q1⟩:=h5;have m2:=m1.pb NB q1;refine Uj (za2 eb ?_)
    extract_lets -merge +onlyGivenNames out2
    refine zbc (λz3=>?_) λz3=>?_
    .exact Uk ⟨kp6,.inl ⟨_,_,rfl,m2.first NA NB (beq_iff_eq.mp z3) hf⟩⟩
    have z3:=beq_eq_false_iff_ne.mp z3;obtain⟨p,rfl⟩:∃p',na'=p'+1:=⟨na'-1,by lia⟩;simp -zeta only [Vm];obtain⟨xa,ea,na2,rfl⟩:=NA.get (i:=p) (by lia);refine Uj (za2 ea ?_);refine Uj (galB W hC (kp6.ki.trans ki) NB sb na2 (ib:=0) (n:=j) (by lia) (by lia) λq hq r1 r2=>?_);simp only[JF] at r1 r2;dsimp -zeta only
    extract_lets -merge +onlyGivenNames k2 bc2 jy jp3
    refine ze8 jp3 (λnb' out' st5=>Keep st st5/\MidH blt k a₀ LA LB out' (p+1) nb'/\2<=nb'/\nb'<=j/\∀t,t<nb'->blt (k (LB.getD t 0)) (k (LA.getD p 0))=true) (λnb' out' st5 h5=>?_) λhj3=>?_
    case refine_2=>
     clear_value jp3
     by_cases qq:j-q > 0
     .rw[GO qq];have m3:=m2.bs NB (p:=q) hq λt t1 t2 u hu=>zco W (sa.le W (show u<=p by lia) (by lia)) (r2 t t1 t2);refine zbc (λz4=>?_) λz4=>zbc (λz5=>?_) λz5=>?_
      .exact Uk ⟨kp6,.inl ⟨_,_,rfl,m3.first NA NB (beq_iff_eq.mp z4) hf⟩⟩
      .exact Uk ⟨kp6,.inl ⟨_,_,rfl,m3.done NA NB (.inr (beq_iff_eq.mp z5))⟩⟩
      have z4:=beq_eq_false_iff_ne.mp z4;have z5:=beq_eq_false_iff_ne.mp z5;exact hj3 _ _ _ ⟨kp6,m3,by lia,hq,r1⟩
     .rw[GP qq];obtain rfl:q=j:=by lia
      exact hj3 _ _ _ ⟨kp6,m2,by lia,Qg _,r1⟩
    unfold jp3;obtain⟨kp7,m3,h2',pq,q2⟩:=h5;have m4:=m3.pa NA q2;refine Uj (za2 ea ?_);refine zbc (λz6=>?_) λz6=>zbc (λ_=>?_) λ_=>?_
    .exact Uk ⟨kp7,.inl ⟨_,_,rfl,m4.done NA NB (.inl (beq_iff_eq.mp z6))⟩⟩
    all_goals have z6:=beq_eq_false_iff_ne.mp z6
    .exact Uk ⟨kp7,.inr ⟨_,_,_,_,_,_,rfl,m4,by lia,h2',by lia⟩⟩
    .exact Uk ⟨kp7,_,_,_,_,_,_,rfl,m4,by lia,h2',by lia⟩
end
section
variable {prog:Um}{w:Uq}{A:Us}{E:Uf->Ui->Prop}{s:Ui}{α:Type}{blt:α->α->Bool}{k:Nat->α}{a₀ a b:Array U2}{kd:U6}{st:U0}{LA LB N:List Nat}
def SrtW(blt:α->α->Bool)(k:Nat->α)(N:List Nat)(lo n:Nat):Prop:=∀i j,i<j->j<n->blt (k (N.getD (lo+j) 0)) (k (N.getD (lo+i) 0))=false
theorem zzo{ia jb n hint:Nat}(W:WO blt)(hC:zbx prog w A s kd a₀ blt k)(ki:kindOf st=kd)(NA:Nmd a₀ a N)(sa:SrtW blt k N ia n)(hj:a₀[jb]? = some key)(hn:ia+n<=N.length)(hh:hint<n)
 (h:∀p,p<=n->(∀i,i<p->blt (k jb) (k (N.getD (ia+i) 0))=false)->(∀i,p<=i->i<n->blt (k jb) (k (N.getD (ia+i) 0))=true)->Q (some p) st):wpS (model prog w) A E s (zes false key a ia n hint) Q st:=by
 refine zh7 (L:=λi=>N.getD (ia+i) 0) (jk:=jb) hC ki hj (λi hi=>?_) (λi j hij hjn e=>?_) hh λp hp h1 h2=>h p hp (λi hi=>?_) λi hi hi2=>?_
 .obtain⟨x,e1,e2,_⟩:=NA.get (i:=ia+i) (by lia);exact⟨x,e1,e2⟩
 .have e:(!blt (k jb) (k (N.getD (ia+j) 0)))=true:=e;show(!blt (k jb) (k (N.getD (ia+i) 0)))=true;rw[ZY] at e ⊢;exact zco W (sa i j hij hjn) e
 .have e:(!blt (k jb) (k (N.getD (ia+i) 0)))=true:=h1 i hi;rwa [ZY] at e
 .have e:(!blt (k jb) (k (N.getD (ia+i) 0)))=false:=h2 i hi hi2;rwa [Vl] at e
theorem zz7{ib ja n hint:Nat}(W:WO blt)(hC:zbx prog w A s kd a₀ blt k)(ki:kindOf st=kd)(NB:Nmd a₀ b N)(sb:SrtW blt k N ib n)(hj:a₀[ja]? = some key)(hn:ib+n<=N.length)(hh:hint<n)
 (h:∀p,p<=n->(∀i,i<p->blt (k (N.getD (ib+i) 0)) (k ja)=true)->(∀i,p<=i->i<n->blt (k (N.getD (ib+i) 0)) (k ja)=false)->Q (some p) st):wpS (model prog w) A E s (zes true key b ib n hint) Q st:=by
 refine zh7 (L:=λi=>N.getD (ib+i) 0) (jk:=ja) hC ki hj (λi hi=>?_) (λi j hij hjn e=>?_) hh λp hp h1 h2=>h p hp (λi hi=>h1 i hi) λi hi hi2=>h2 i hi hi2
 .obtain⟨x,e1,e2,_⟩:=NB.get (i:=ib+i) (by lia);exact⟨x,e1,e2⟩
 .exact zf1 W (sb i j hij hjn) e
theorem zb0{lo n i:Nat}(h:i<n)(hn:lo+n<=N.length):((N.drop lo).take n).getD i 0=N.getD (lo+i) 0:=by
 simp[Zf,Ye,h,Z7]
theorem zck{lo n:Nat}(hn:lo+n<=N.length):((N.drop lo).take n).length=n:=by rw[Q8,Zd];lia
theorem SrtW.seg{lo n:Nat}(h:SrtW blt k N lo n)(hn:lo+n<=N.length):Srt blt k ((N.drop lo).take n):=λi j hij hj=>by
 rw[zck hn] at hj;rw[zb0 hj hn,zb0 (by lia) hn];exact h i j hij hj
theorem SrtW.cut{lo n p m:Nat}(h:SrtW blt k N lo n)(hp:p+m<=n):SrtW blt k N (lo+p) m:=λi j hij hj=>by
 have:=h (p+i) (p+j) (by lia) (by lia);rwa [show lo+(p+j)=lo+p+j by lia,show lo+(p+i)=lo+p+i by lia] at this
theorem SrtW.le(W:WO blt){lo n i j:Nat}(h:SrtW blt k N lo n)(hij:i<=j)(hj:j<n):blt (k (N.getD (lo+j) 0)) (k (N.getD (lo+i) 0))=false:=by
 rcases Zp i j with z|z
 .exact h i j z hj
 .have:i=j:=by lia
  subst this;exact W.irr _
theorem zju{β:Type}:∀(xs:List β) (s n:Nat) (arr:Array β),s+n+xs.length<=arr.size->((xs.zipIdx n).foldl (λa (p:β×Nat)=>a.setIfInBounds (s+p.2) p.1) arr).toList=arr.toList.take (s+n)++xs++arr.toList.drop (s+n+xs.length)
 | [],s,n,arr,h=>by simp
 | x::xs,s,n,arr,h=>by
   rw[List.zipIdx_cons,JP];have hl:arr.toList.length=arr.size:=Zb;rw[Qi] at h;rw[zju xs s (n+1) _ (by rw[Array.size_setIfInBounds];lia),Yf];dsimp only
   have h1:(arr.toList.set (s+n) x).take (s+(n+1))=arr.toList.take (s+n) ++ [x]:=by
    rw[show s+(n+1)=s+n+1 by lia,VT,Q4 (by lia)];rw[List.take_set_of_le (Qg _)];rfl
   have h2:(arr.toList.set (s+n) x).drop (s+(n+1)+xs.length)=arr.toList.drop (s+n+(x::xs).length):=by
    rw[YR (by lia),Qi,show s+(n+1)+xs.length=s+n+(xs.length+1) by lia]
   rw[h1,h2];simp
theorem Nmd.over{s:Nat}(h:Nmd a₀ arr N)(h':Nmd a₀ m M)(hs:s+M.length<=N.length):Nmd a₀ (m.toList.zipIdx.foldl (λa (p:U2×Nat)=>a.setIfInBounds (s+p.2) p.1) arr) (N.take s++M++N.drop (s+M.length)):=by
 have hz:=h.size;have hm:m.toList.length=M.length:=by rw[h'.eq,Qe]
 refine⟨?_,λx hx=>?_⟩
 .have:=zju m.toList s 0 arr (by lia);rw[JE,hm] at this;rw[this,h.eq,h'.eq,QE,QE,Yl,Va]
 .rcases Qu.mp hx with hx|hx
  .rcases Qu.mp hx with hx|hx
   .exact h.lt x (QO hx)
   .exact h'.lt x hx
  .exact h.lt x (Jo hx)
end
theorem zvn{σ:Type}{M:Model}{A:Us}{E:Uf->Ui->Prop}{s:Ui}{Q:PUnit->σ->Prop}{st st2:σ}(h:Q ⟨⟩ st2):wpS M A E s (set st2:StateT σ Sem PUnit) Q st:=by
 unfold wpS;rw[StateT.run_set];exact Uo ⟨rfl,h⟩
theorem zi7(N:List Nat)(lo n m:Nat):N=N.take lo++((N.drop lo).take n++(N.drop (lo+n)).take m)++N.drop (lo+n+m):=by
 conv=>lhs;rw[<- Zv lo N,<- Zv n (N.drop lo),Jf,<- Zv m (N.drop (lo+n)),Jf]
 simp only[Qo]
theorem zs5{N:List Nat}{lo n:Nat}(h:0<n)(hn:lo+n<=N.length):∃r,(N.drop lo).take n=N.getD lo 0::r:=by
 rw[zec (by lia)];obtain⟨m,rfl⟩:∃m,n=m+1:=⟨n-1,by lia⟩;exact⟨_,YV⟩
theorem zev{N:List Nat}{lo n x:Nat}(h:x∈(N.drop lo).take n):∃j,j<n/\lo+j<N.length/\x=N.getD (lo+j) 0:=zcy h
theorem zix(N:List Nat)(lo n p:Nat)(h:p<=n):(N.drop lo).take n=(N.drop lo).take p++(N.drop (lo+p)).take (n-p):=by
 rw[<- Jf,<- Vd,show p+(n-p)=n by lia]
section
variable {prog:Um}{w:Uq}{A:Us}{E:Uf->Ui->Prop}{s:Ui}{α:Type}{blt:α->α->Bool}{k:Nat->α}{a₀ a b:Array U2}{kd:U6}{st:U0}{N:List Nat}
theorem zzs{i sa na pw nb pw2:Nat}(W:WO blt)(hC:zbx prog w A s kd a₀ blt k)(ki:kindOf st=kd)(fa:UD st=none)(NA:Nmd a₀ (arrOf st) N)(p1:(pendingOf st)[i]? = some (sa,na,pw))(p2:(pendingOf st)[i+1]? = some (sa+na,nb,pw2))
 (h1:0<na) (h2:0<nb) (hN:sa+na+nb<=N.length) (w1:SrtW blt k N sa na) (w2:SrtW blt k N (sa+na) nb)
 (h:∀st',kindOf st'=kd->UD st'=none->Nmd a₀ (arrOf st') (N.take sa++mg blt k ((N.drop sa).take na) ((N.drop (sa+na)).take nb)++N.drop (sa+na+nb))->pendingOf st'=((pendingOf st).setIfInBounds i (sa,na+nb,pw)).eraseIdxIfInBounds (i+1)->Q true st'):wpS (model prog w) A E s (mergeAt' i) Q st:=by
 have zN:=NA.size;refine Uj (UL ?_);rw[p1,p2];refine Uj (zvn ?_);obtain⟨xb,eb,gb,rfl⟩:=NA.get (i:=sa+na) (by lia);refine Uj (za2 eb ?_);refine Uj (zzo W hC ki NA w1 gb (by lia) h1 λp hp q1 q2=>?_);obtain⟨rB,eB⟩:=zs5 (N:=N) (lo:=sa+na) h2 (by lia)
 have hX:mg blt k ((N.drop sa).take na) ((N.drop (sa+na)).take nb)=(N.drop sa).take p++mg blt k ((N.drop (sa+p)).take (na-p)) ((N.drop (sa+na)).take nb):=by
  rw[zix N sa na p hp,eB,zkg];intro x hx;obtain⟨j,j1,_,rfl⟩:=zev hx;exact q1 j j1
 refine zbc (λz=>?_) λz=>?_
 .have z:=beq_iff_eq.mp z;refine Uk (h _ ki fa ?_ rfl);rw[hX,z,Yd,zbk,show p=na by lia,<- zi7];exact NA
 have z:=beq_eq_false_iff_ne.mp z;obtain⟨xa,ea,ga,rfl⟩:=NA.get (i:=sa+p+(na-p)-1) (by lia);refine Uj (za2 ea ?_);refine Uj (zz7 W hC ki NA w2 ga (by lia) (by lia) λq hq r1 r2=>?_);rw[show sa+p+(na-p)-1=sa+(na-1) by lia] at r1 r2
 have hZ:mg blt k ((N.drop (sa+p)).take (na-p)) ((N.drop (sa+na)).take nb)=mg blt k ((N.drop (sa+p)).take (na-p)) ((N.drop (sa+na)).take q)++(N.drop (sa+na+q)).take (nb-q):=by
  rw[zix N (sa+na) nb q hq,ziw];intro z hz x hx;obtain⟨j,j1,_,rfl⟩:=zev hz;obtain⟨i',i1,_,rfl⟩:=zev hx;have e1:=w1.le W (show p+i'<=na-1 by lia) (by lia);rw[show sa+(p+i')=sa+p+i' by lia] at e1;have e2:=r2 (q+j) (by lia) (by lia);rw[show sa+na+(q+j)=sa+na+q+j by lia] at e2;exact zco W e1 e2
 refine zbc (λz=>?_) λz'=>?_
 .have z:=beq_iff_eq.mp z;refine Uk (h _ ki fa ?_ rfl);rw[hX,hZ,z,Yd,zbh];have:=zi7 N sa na nb;rw[zix N sa na p hp,Qo] at this;simp only[JE,Yy,Qo] at this ⊢;rw[<- this];exact NA
 have z':=beq_eq_false_iff_ne.mp z'
 have A1:Nmd a₀ ((arrOf st).extract (sa+p) (sa+na)) ((N.drop (sa+p)).take (na-p)):=by
  have:=NA.cut (sa+p) (sa+na);rwa [show sa+na-(sa+p)=na-p by lia] at this
 have B1:Nmd a₀ ((arrOf st).extract (sa+na) (sa+na+q)) ((N.drop (sa+na)).take q):=by
  have:=NA.cut (sa+na) (sa+na+q);rwa [show sa+na+q-(sa+na)=q by lia] at this
 have sA:Srt blt k ((N.drop (sa+p)).take (na-p)):=(w1.cut (p:=p) (m:=na-p) (by lia)).seg (by lia)
 have sB:Srt blt k ((N.drop (sa+na)).take q):=by
  have:=w2.cut (p:=0) (m:=q) (by lia);rw[JE] at this;exact this.seg (by lia)
 have lA:((N.drop (sa+p)).take (na-p)).length=na-p:=zck (by lia);have lB:((N.drop (sa+na)).take q).length=q:=zck (by lia)
 have hf:blt (k (((N.drop (sa+na)).take q).getD 0 0)) (k (((N.drop (sa+p)).take (na-p)).getD 0 0))=true:=by
  rw[zb0 (by lia) (by lia),zb0 (by lia) (by lia)];exact q2 p (Qg _) (by lia)
 have hl:∀i,i<((N.drop (sa+na)).take q).length->blt (k (((N.drop (sa+na)).take q).getD i 0)) (k (((N.drop (sa+p)).take (na-p)).getD (((N.drop (sa+p)).take (na-p)).length-1) 0))=true:=λi hi=>by
  rw[lB] at hi;rw[lA,zb0 hi (by lia),zb0 (by lia) (by lia),show sa+p+(na-p-1)=sa+(na-1) by lia];exact r1 i hi
 have fin:∀r st',Mrg blt k a₀ ((N.drop (sa+p)).take (na-p)) ((N.drop (sa+na)).take q) r->arrOf st'=arrOf st->Nmd a₀ (r.toList.zipIdx.foldl (λa (p':U2×Nat)=>a.setIfInBounds (sa+p+p'.2) p'.1) (arrOf st')) (N.take sa++mg blt k ((N.drop sa).take na) ((N.drop (sa+na)).take nb)++N.drop (sa+na+nb)):=λr st' mr e=>by
  have ml:(mg blt k ((N.drop (sa+p)).take (na-p)) ((N.drop (sa+na)).take q)).length=na-p+q:=by rw[zpz,lA,lB]
  have:=(show Nmd a₀ (arrOf st') N by rw[e];exact NA).over (s:=sa+p) mr (by rw[ml];lia);rw[ml] at this;have e1:N.take (sa+p)=N.take sa++(N.drop sa).take p:=Vd
  have e2:N.drop (sa+p+(na-p+q))=(N.drop (sa+na+q)).take (nb-q)++N.drop (sa+na+nb):=by
   rw[show sa+p+(na-p+q)=sa+na+q by lia]
   conv=>lhs;rw[<- Zv (nb-q) (N.drop (sa+na+q)),Jf,show sa+na+q+(nb-q)=sa+na+nb by lia]
  rw[e1,e2] at this;rw[hX,hZ];simp only[Qo] at this ⊢;exact this
 by_cases c:na-p<=q
 .rw[GO c];refine Uj (zz8 W hC ki A1 B1 sA sB (by lia) (by lia) hf (λy hy=>?_) λr st' mr kp=>?_)
  .obtain⟨j,j1,j2,rfl⟩:=zcy (L:=(N.drop (sa+na)).take q) (i:=0) (p:=q) (by rw[Je,Zg (by lia)];exact hy);rw[JF] at j2 ⊢;exact hl j j2
  .refine Uj (U4 (Uj (UL ?_)));have f':UD st'=none:=kp.fa.trans fa;refine Uk ?_;change Q (UD st').isNone _;rw[f'];exact h _ (kp.ki.trans ki) f' (fin r st' mr kp.ar) kp.pe
 .rw[GP c];refine Uj (z0m W hC ki A1 B1 sA sB (by lia) (by lia) hf hl λr st' mr kp=>?_);refine Uj (U4 (Uj (UL ?_)));have f':UD st'=none:=kp.fa.trans fa;refine Uk ?_;change Q (UD st').isNone _;rw[f'];exact h _ (kp.ki.trans ki) f' (fin r st' mr kp.ar) kp.pe
end
section
variable {prog:Um}{w:Uq}{A:Us}{E:Uf->Ui->Prop}{s:Ui}{α:Type}{blt:α->α->Bool}{k:Nat->α}{a₀:Array U2}{kd:U6}{ix:Nat->Nat}{st:U0}{lo:Nat}{N:List Nat}{pd:Array (Nat×Nat×Nat)}
structure So(a₀:Array U2)(kd:U6)(pd:Array (Nat×Nat×Nat))(lo:Nat)(N:List Nat)(ix:Nat->Nat)(st:U0):Prop where
 sz:(arrOf st).size=a₀.size
 be:∀p,p<lo->(arrOf st)[p]? = a₀[N.getD p 0]?
 at_:∀i,lo+i<a₀.size->(arrOf st)[lo+i]? = a₀[lo+ix i]?
 bj:Bij ix (a₀.size-lo)
 fa:UD st=none
 pe:pendingOf st=pd
 ki:kindOf st=kd
theorem lt_o{i j:Nat}(hC:zbx prog w A s kd a₀ blt k)(b:So a₀ kd pd lo N ix st)(hi:lo+i<a₀.size)(hj:lo+j<a₀.size)(h:Q (some (blt (k (lo+ix i)) (k (lo+ix j)))) st):wpS (model prog w) A E s (ltAt' (lo+i) (lo+j)) Q st:=by
 have li:=b.bj.lt i (by lia);have lj:=b.bj.lt j (by lia);obtain⟨⟨x,p⟩,gi⟩:∃z,a₀[lo+ix i]? = some z:=⟨_,Zz (by lia)⟩;obtain⟨⟨y,q⟩,gj⟩:∃z,a₀[lo+ix j]? = some z:=⟨_,Zz (by lia)⟩;rw[ltAt'_eq];refine Uj (UL ?_);change wpS (model prog w) A E s (elem' (arrOf st) (lo+i) >>= λx=>elem' (arrOf st) (lo+j) >>= λy=>lt' x y) Q st;rw[elem'_eq,elem'_eq,b.at_ i hi,b.at_ j hj,gi,gj];refine Uj (Uk (Uj (Uk ?_)));rw[lt'_eq];refine Uj (UL ?_);rw[b.ki];refine Uj (Gb (G1 (hC _ _ _ _ _ _ _ _ gi gj ⟨rfl,?_⟩)));exact Uk h
theorem So.mix{i j:Nat}(b:So a₀ kd pd lo N ix st)(hj:lo+j<=a₀.size):So a₀ kd pd lo N (mixF ix i j) (setArr st (mirror (arrOf st) (lo+i) (lo+j) ((lo+j-(lo+i)) / 2))):=by
 refine⟨(mirror_size _ _ _ _).trans b.sz,λp hp=>?_,λp hp=>?_,b.bj.mix (by lia),b.fa,b.pe,b.ki⟩
 .show(mirror (arrOf st) (lo+i) (lo+j) ((lo+j-(lo+i)) / 2))[p]? = _;rw[getElem?_mirror_all (by rw[b.sz];exact hj),GP (by lia)];exact b.be p hp
 .show(mirror (arrOf st) (lo+i) (lo+j) ((lo+j-(lo+i)) / 2))[lo+p]? = _;rw[getElem?_mirror_all (by rw[b.sz];exact hj)];unfold mixF
  by_cases z:i<=p/\p<j
  .rw[GO (by lia),GO z,show lo+i+(lo+j)-1-(lo+p)=lo+(i+j-1-p) by lia];exact b.at_ _ (by lia)
  .rw[GP (by lia),GP z];exact b.at_ _ hp
theorem So.bub{q l:Nat}(b:So a₀ kd pd lo N ix st)(hq:lo+q<a₀.size)(hl:l<=q):So a₀ kd pd lo N (bubF ix q l) (setArr st (bubble (arrOf st) (lo+q) (lo+q-(lo+l)))):=by
 refine⟨(bubble_size _ _ _).trans b.sz,λp hp=>?_,λp hp=>?_,b.bj.bub (by lia) hl,b.fa,b.pe,b.ki⟩
 .show(bubble (arrOf st) (lo+q) (lo+q-(lo+l)))[p]? = _;rw[getElem?_bubble (by rw[b.sz];exact hq) _ (by lia),GP (by lia),GP (by lia)];exact b.be p hp
 .show(bubble (arrOf st) (lo+q) (lo+q-(lo+l)))[lo+p]? = _;rw[getElem?_bubble (by rw[b.sz];exact hq) _ (by lia)];unfold bubF
  by_cases z:p=l
  .rw[GO (by lia),GO z];exact b.at_ _ hq
  .rw[GP (by lia),GP z]
   by_cases y:l<p/\p<=q
   .rw[GO (by lia),GO y,show lo+p-1=lo+(p-1) by lia];exact b.at_ _ (by lia)
   .rw[GP (by lia),GP y];exact b.at_ _ hp
theorem zz5{n ok:Nat}(W:WO blt)(hC:zbx prog w A s kd a₀ blt k)(hn:lo+n<=a₀.size)(hok:ok<=n)(h1:1<=ok)(b:So a₀ kd pd lo N ix st)(up:Up blt (λi=>k (lo+i)) ix ok)(pr:Pre ix ok)
 (h:∀ix' st',So a₀ kd pd lo N ix' st'->Up blt (λi=>k (lo+i)) ix' n->Pre ix' n->Q true st'):wpS (model prog w) A E s (binarySort' lo n ok) Q st:=by
 rw[binarySort'_eq];rw[show max ok 1=ok by lia];refine Uj (U3 (Ut (I:=λq c st'=>c=(none,())/\∃ix',So a₀ kd pd lo N ix' st'/\Up blt (λi=>k (lo+i)) ix' q/\Pre ix' q) (Q:=λc st'=>c=(none,())/\∃ix',So a₀ kd pd lo N ix' st'/\Up blt (λi=>k (lo+i)) ix' n/\Pre ix' n) ?turn ?out ⟨rfl,ix,b,up,pr⟩) ?rest)
 case rest=>
  rintro c st' ⟨rfl,ix',b',u',p'⟩;exact Uk (h ix' st' b' u' p')
 case out=>
  rintro c st' ⟨hc,ix',b',u',p'⟩;rw[show max ok n=n by lia] at u' p';exact⟨hc,ix',b',u',p'⟩
 case turn=>
  rintro q c st' hq1 hq2 ⟨rfl,ix',b',u',p'⟩;have hq:lo+q<a₀.size:=by lia
  have eq:=p'.id q (Qg _)
  refine Uj (U3 (Ut (I:=λx c st2=>st2=st'/\∃l r,c=(none,l,r)/\l<=r/\r<=q/\r-l<=q-x/\(∀i,i<l->blt (k (lo+q)) (k (lo+ix' i))=false)/\∀i,r<=i->i<q->blt (k (lo+q)) (k (lo+ix' i))=true)
   (Q:=λc st2=>st2=st'/\∃l r,c=(none,l,r)/\l<=q/\(∀i,i<l->blt (k (lo+q)) (k (lo+ix' i))=false)/\∀i,l<=i->i<q->blt (k (lo+q)) (k (lo+ix' i))=true) ?tu ?ou ?bg) ?re)
  case bg=>exact⟨rfl,0,q,rfl,by lia,Qg _,by lia,λi z=>absurd z (by lia),λi z z'=>absurd z (by lia)⟩
  case ou=>
   rintro c st2 ⟨rfl,l,r,rfl,z1,z2,z3,z4,z5⟩;have:l=r:=by lia
   subst this;exact⟨rfl,l,l,rfl,z2,z4,z5⟩
  case tu=>
   rintro x c st2 _ hx ⟨rfl,l,r,rfl,z1,z2,z3,z4,z5⟩;dsimp only
   by_cases ge:l ≥ r
   .rw[GO ge];have:l=r:=by lia
    subst this;exact Uk ⟨rfl,l,l,rfl,z2,z4,z5⟩
   .rw[GP ge];refine Uj (lt_o hC b' hq (j:=(l+r) / 2) (by lia) ?_);rw[eq]
    cases le:blt (k (lo+q)) (k (lo+ix' ((l+r) / 2))) with
    | true=>
      refine Uk ⟨rfl,l,(l+r) / 2,rfl,by lia,by lia,by lia,z4,λi y1 y2=>?_⟩
      by_cases e:i=(l+r) / 2
      .subst e;exact le
      .exact ze6 W le ((u' _ _ (show(l+r) / 2<i by lia) y2).le W)
    | false=>
      refine Uk ⟨rfl,(l+r) / 2+1,r,rfl,by lia,by lia,by lia,λi y1=>?_,z5⟩
      by_cases e:i=(l+r) / 2
      .subst e;exact le
      .exact zco W ((u' i _ (show i<(l+r) / 2 by lia) (by lia)).le W) le
  case re=>
   rintro c st2 ⟨rfl,l,r,rfl,z2,z4,z5⟩;change wpS (model prog w) A E s (moveDown' (lo+q) (lo+l) >>= λ_=>pure (J1 (none,()))) _ st2;rw[moveDown'_eq];exact Uj (U4 (Uk ⟨rfl,bubF ix' q l,b'.bub hq z2,zx8 (k:=λi=>k (lo+i)) u' p' z2 z4 z5,p'.bub z2⟩))
end
section
variable {prog:Um}{w:Uq}{A:Us}{E:Uf->Ui->Prop}{s:Ui}{α:Type}{blt:α->α->Bool}{k:Nat->α}{a₀:Array U2}{kd:U6}{ix:Nat->Nat}{st:U0}{lo:Nat}{N:List Nat}{pd:Array (Nat×Nat×Nat)}
theorem zzk{n:Nat}(W:WO blt)(hC:zbx prog w A s kd a₀ blt k)(hn:lo+n<=a₀.size)(h1:1<=n)(b:So a₀ kd pd lo N (λi=>i) st)
 (h:∀m' ix' st',So a₀ kd pd lo N ix' st'->1<=m'->m'<=n->Up blt (λi=>k (lo+i)) ix' m'->Pre ix' m'->Q (some m') st'):wpS (model prog w) A E s (countRun' lo n) Q st:=by
 have one:∀m,1<=m->lo+m-1=lo+(m-1):=λm hm=>by lia
 rw[countRun'_eq];refine Uj (U3 (Ut (I:=λx c st'=>st'=st/\c=(none,x)/\Up blt (λi=>k (lo+i)) (λi=>i) x) (Q:=λc st'=>st'=st/\∃m,c=(none,m)/\1<=m/\m<=n/\Up blt (λi=>k (lo+i)) (λi=>i) m/\(m=n\/blt (k (lo+m)) (k (lo+(m-1)))=true)) ?t1 ?o1 ⟨rfl,rfl,λi j z z'=>absurd z (by lia)⟩) ?r1)
 case o1=>
  rintro c st' ⟨rfl,rfl,u⟩;rw[show max 1 n=n by lia] at u ⊢;exact⟨rfl,n,rfl,h1,Qg _,u,.inl rfl⟩
 case t1=>
  rintro x c st' x1 x2 ⟨rfl,rfl,u⟩;dsimp only;rw[one x x1];refine Uj (lt_o hC b (by lia) (by lia) ?_)
  cases le:blt (k (lo+x)) (k (lo+(x-1))) with
  | true=>
    exact Uk ⟨rfl,x,rfl,x1,by lia,u,.inr le⟩
  | false=>
    exact Uk ⟨rfl,rfl,zqj W u (by lia) (.inr ⟨le,by lia⟩)⟩
 case r1=>
  rintro c st' ⟨rfl,m,rfl,z1,z2,u,o⟩;dsimp only
  by_cases e:m=n
  .rw[GO (by simpa using e)];exact Uk (h m _ _ b z1 z2 u Pre.idf)
  rw[GP (by simpa using e)];have lt:=o.resolve_left e
  by_cases g:m > 1 <;> first
   | rw[GO g,one m z1]
     refine Uj ?_;refine lt_o hC b (i:=0) (j:=m-1) (by lia) (by lia) ?_;refine zbc (λro=>Uk (h m _ _ b z1 z2 u Pre.idf)) λro=>?_;refine Uj (Gw ?_);have b1:So a₀ kd pd lo N (mixF (λi=>i) 0 m) (setArr st' (mirror (arrOf st') lo (lo+m) ((lo+m-lo) / 2))):=b.mix (i:=0) (j:=m) (by lia);have pr1:Pre (mixF (λi=>i) 0 m) (m+1):=(Pre.idf.mix (Qg m)).more (by lia)
     have d1:Des blt (λi=>k (lo+i)) (mixF (λi=>i) 0 m) (m+1) 0:=by
      have al:∀i j,i<j->j<m->blt (k (lo+j)) (k (lo+i))=false/\blt (k (lo+i)) (k (lo+j))=false:=λi j y1 y2=>by
       refine⟨(u i j y1 y2).le W,?_⟩
       have a1:blt (k (lo+i)) (k (lo+0))=false:=by
        by_cases q:i=0
        .subst q;exact W.irr _
        .exact(u 0 i (by lia) (by lia)).le W
       have a2:blt (k (lo+(m-1))) (k (lo+j))=false:=by
        by_cases q:j=m-1
        .subst q;exact W.irr _
        .exact(u j (m-1) (by lia) (by lia)).le W
       exact zco W (zco W a2 ro) a1
      refine zf4 W (λi j y1 y2=>?_) (by lia) ?_
      .have e1:mixF (λi=>i) 0 m i=m-1-i:=by unfold mixF;rw[GO (by lia)];show 0+m-1-i=m-1-i;lia
       have e2:mixF (λi=>i) 0 m j=m-1-j:=by unfold mixF;rw[GO (by lia)];show 0+m-1-j=m-1-j;lia
       rw[e1,e2];exact .inr ⟨(al _ _ (by lia) (by lia)).1,by lia⟩
      .have e1:mixF (λi=>i) 0 m m=m:=by unfold mixF;rw[GP (by lia)]
       have e2:mixF (λi=>i) 0 m (m-1)=0:=by unfold mixF;rw[GO (by lia)];show 0+m-1-(m-1)=0;lia
       rw[e1,e2];exact ze6 W lt ro
   | rw[GP g]
     have me:m=1:=by lia
     have b1:=b;have pr1:Pre (λi=>i) (m+1):=Pre.idf
     have d1:Des blt (λi=>k (lo+i)) (λi=>i) (m+1) 0:=by
      subst me;exact zf4 W (λi j y1 y2=>absurd y1 (by lia)) (by lia) lt
  all_goals
   refine Uj (Gb (UQ ⟨rfl,?_⟩))
   refine Uj (U3 (Ut (I:=λx c st'=>∃q ix',c=(none,x,q)/\So a₀ kd pd lo N ix' st'/\Des blt (λi=>k (lo+i)) ix' x q/\Pre ix' x)
    (Q:=λc st'=>∃m' q ix',c=(none,m',q)/\So a₀ kd pd lo N ix' st'/\m+1<=m'/\m'<=n/\Des blt (λi=>k (lo+i)) ix' m' q/\Pre ix' m') ?t2 ?o2 ⟨0,_,rfl,b1,d1,pr1⟩) ?r2)
   case o2=>
    rintro c st' ⟨q,ix',rfl,b',d',p'⟩;rw[show max (m+1) n=n by lia] at d' p' ⊢;exact⟨n,q,ix',rfl,b',by lia,Qg _,d',p'⟩
   case t2=>
    rintro x c st' x1 x2 ⟨q,ix',rfl,b',d',p'⟩;dsimp only;have hq:=d'.le;rw[one x (by lia)];refine Uj (lt_o hC b' (by lia) (by lia) ?_)
    cases le:blt (k (lo+ix' x)) (k (lo+ix' (x-1))) with
    | true=>
      simp only[GZ]
      by_cases z:q > 0
      .rw[GO z,show lo+x-(q+1)=lo+(x-(q+1)) by lia];refine Uj (Gw (Uk ⟨0,_,rfl,b'.mix (by lia),?_,(p'.mix (Qg _)).more (by lia)⟩));refine zf4 W d'.turn (by lia) ?_;have e1:mixF ix' (x-(q+1)) x x=ix' x:=by unfold mixF;rw[GP (by lia)]
       have e2:mixF ix' (x-(q+1)) x (x-1)=ix' (x-(q+1)):=by unfold mixF;rw[GO (by lia)];congr 1;lia
       rw[e1,e2];have:=d'.al (x-(q+1)) (x-1) (by lia) (by lia) (by lia);exact ze6 W le this.1
      .rw[GP z];have:q=0:=by lia
       subst this;exact Uk ⟨0,ix',rfl,b',zf4 W d'.dn (by lia) le,p'.more (by lia)⟩
    | false=>
      refine Uj (lt_o hC b' (by lia) (by lia) ?_)
      cases gr:blt (k (lo+ix' (x-1))) (k (lo+ix' x)) with
      | true=>
        exact Uk ⟨x,q,ix',rfl,b',x1,by lia,d',p'⟩
      | false=>
        exact Uk ⟨q+1,ix',rfl,b',zws W d' p' le gr,p'.more (by lia)⟩
   case r2=>
    rintro c st2 ⟨m',q,ix',rfl,b',y1,y2,d',p'⟩;dsimp only;have hq:=d'.le
    by_cases z:q > 0 <;> first
     | rw[GO z,show lo+m'-(q+1)=lo+(m'-(q+1)) by lia]
       refine Uj (Gw ?_);have b2:=b'.mix (i:=m'-(q+1)) (j:=m') (by lia);have d2:=d'.turn;have p2:=p'.mix (i:=m'-(q+1)) (Qg m')
     | rw[GP z]
       have qe:q=0:=by lia
       subst qe;have b2:=b';have d2:=d'.dn;have p2:=p'
    all_goals
     refine Uj (Gw ?_);have b3:=b2.mix (i:=0) (j:=m') (by lia);have u3:=zza d2;have p3:=p2.mix (i:=0) (Qg m');refine Uj (U3 (Ut (I:=λx c st'=>∃ix3,So a₀ kd pd lo N ix3 st'/\c=(none,x)/\Up blt (λi=>k (lo+i)) ix3 x/\Pre ix3 x) (Q:=λc st'=>∃ix3 m3,So a₀ kd pd lo N ix3 st'/\c=(none,m3)/\1<=m3/\m3<=n/\Up blt (λi=>k (lo+i)) ix3 m3/\Pre ix3 m3) ?t3 ?o3 ⟨_,b3,rfl,u3,p3⟩) ?r3)
     case o3=>
      rintro c st' ⟨ix3,b4,rfl,u,p4⟩;rw[show max m' n=n by lia] at u p4 ⊢;exact⟨ix3,n,b4,rfl,h1,Qg _,u,p4⟩
     case r3=>
      rintro c st' ⟨ix3,m3,b4,rfl,w1,w2,u,p4⟩;exact Uk (h m3 ix3 st' b4 w1 w2 u p4)
     case t3=>
      rintro x c st' x1 x2 ⟨ix3,b4,rfl,u,p4⟩;dsimp only;rw[one x (by lia)];refine Uj (lt_o hC b4 (by lia) (by lia) ?_)
      cases le:blt (k (lo+ix3 x)) (k (lo+ix3 (x-1))) with
      | true=>
        exact Uk ⟨ix3,x,b4,rfl,by lia,by lia,u,p4⟩
      | false=>
        refine Uk ⟨ix3,b4,rfl,zqj W u (by lia) (.inr ⟨le,?_⟩),p4.more (by lia)⟩;rw[p4.id x (Qg _)];exact p4.lt _ (by lia)
end
section
variable {α:Type}{blt:α->α->Bool}{k:Nat->α}{N N':List Nat}
def SegOk(blt:α->α->Bool)(k:Nat->α)(N:List Nat)(s n:Nat):Prop:=((N.drop s).take n).Pairwise (Rk blt k)/\∀x∈(N.drop s).take n,s<=x/\x<s+n
def Segs(blt:α->α->Bool)(k:Nat->α)(N:List Nat):List (Nat×Nat×Nat)->Nat->Nat->Prop
 | [],s,e=>s=e
 | (a,n,_)::r,s,e=>a=s/\0<n/\SegOk blt k N s n/\Segs blt k N r (s+n) e
theorem zf9:∀{l:List (Nat×Nat×Nat)} {s e:Nat},Segs blt k N l s e->s+l.length<=e
 | [],s,e,h=>by have h:s=e:=h;simp[h]
 | (a,n,p)::r,s,e,h=>by
   have:=zf9 h.2.2.2;have:=h.2.1;rw[Qi];lia
theorem segs_app:∀{l r:List (Nat×Nat×Nat)} {s e:Nat},Segs blt k N (l++r) s e↔∃m,Segs blt k N l s m/\Segs blt k N r m e
 | [],r,s,e=>⟨λh=>⟨s,rfl,h⟩,λ⟨m,h1,h2⟩=>by have h1:s=m:=h1;rw[h1];exact h2⟩
 | (a,n,p)::l,r,s,e=>by
   constructor
   .rintro⟨h1,h2,h3,h4⟩;obtain⟨m,h5,h6⟩:=segs_app.mp h4;exact⟨m,⟨h1,h2,h3,h5⟩,h6⟩
   .rintro⟨m,⟨h1,h2,h3,h5⟩,h6⟩;exact⟨h1,h2,h3,segs_app.mpr ⟨m,h5,h6⟩⟩
theorem zm7{s n:Nat}(hl:N'.length=N.length)(h:∀p,s<=p->p<s+n->N'.getD p 0=N.getD p 0):(N'.drop s).take n=(N.drop s).take n:=by
 refine Js (by simp[hl]) λi h1 h2=>?_;rw[Q8,Zd] at h1 h2;have:=h (s+i) (by lia) (by lia);simp only[Zf,Qb (show s+i<N'.length by lia),Qb (show s+i<N.length by lia),V5] at this;simpa using this
theorem zdj(hl:N'.length=N.length):∀{l:List (Nat×Nat×Nat)} {s e:Nat},Segs blt k N l s e->(∀p,s<=p->p<e->N'.getD p 0=N.getD p 0)->Segs blt k N' l s e
 | [],s,e,h,_=>h
 | (a,n,p)::r,s,e,h,g=>by
   have le:=zf9 h.2.2.2;refine⟨h.1,h.2.1,?_,zdj hl h.2.2.2 λq q1 q2=>g q (by lia) q2⟩;unfold SegOk;rw[zm7 hl λq q1 q2=>g q q1 (by lia)];exact h.2.2.1
theorem zk6(hf:∀a b c,(f (a,b,c)).1=a/\(f (a,b,c)).2.1=b):∀{l:List (Nat×Nat×Nat)} {i s e:Nat},Segs blt k N l s e->Segs blt k N (l.modify i f) s e
 | [],i,s,e,h=>by simpa using h
 | (a,n,p)::r,0,s,e,h=>by
   rw[List.modify_zero_cons];obtain⟨z1,z2⟩:=hf a n p;have:f (a,n,p)=(a,n,(f (a,n,p)).2.2):=VN z1 (VN z2 rfl);rw[this];exact h
 | (a,n,p)::r,i+1,s,e,h=>by
   rw[List.modify_succ_cons];exact⟨h.1,h.2.1,h.2.2.1,zk6 hf h.2.2.2⟩
theorem SegOk.srt(W:WO blt){s n:Nat}(h:SegOk blt k N s n)(hn:s+n<=N.length):SrtW blt k N s n:=λi j hij hj=>by
 have:=ZB.mp h.1 i j (by rw[zck hn];lia) (by rw[zck hn];exact hj) hij
 have e:∀t,t<n->∀ht,((N.drop s).take n)[t]'ht=N.getD (s+t) 0:=λt ht hh=>by
  rw[<- zb0 ht hn];unfold Zf;rw[Qb hh];rfl
 rw[e i (by lia),e j hj] at this;exact this.le W
theorem SegOk.merge(W:WO blt){s n m:Nat}(h1:SegOk blt k N s n)(h2:SegOk blt k N (s+n) m)(hN:s+n+m<=N.length)(N':List Nat)(e:N'=N.take s++mg blt k ((N.drop s).take n) ((N.drop (s+n)).take m)++N.drop (s+n+m)):
 N'.length=N.length/\SegOk blt k N' s (n+m)/\(∀p,p<s->N'.getD p 0=N.getD p 0)/\∀p,s+n+m<=p->N'.getD p 0=N.getD p 0:=by
 have lm:(mg blt k ((N.drop s).take n) ((N.drop (s+n)).take m)).length=n+m:=by rw[zpz,zck (by lia),zck (by lia)]
 have lt:(N.take s).length=s:=by rw[Q8];lia
 have lN:N'.length=N.length:=by rw[e,Qf,Qf,lm,lt,Zd];lia
 have seg:(N'.drop s).take (n+m)=mg blt k ((N.drop s).take n) ((N.drop (s+n)).take m):=by
  rw[e,Qo]
  have:(N.take s++(mg blt k ((N.drop s).take n) ((N.drop (s+n)).take m)++N.drop (s+n+m))).drop s=mg blt k ((N.drop s).take n) ((N.drop (s+n)).take m)++N.drop (s+n+m):=by
   conv=>lhs;arg 1;rw[<- lt]
   exact List.drop_left
  rw[this,<- lm,List.take_left]
 refine⟨lN,⟨?_,λx hx=>?_⟩,λp hp=>?_,λp hp=>?_⟩
 .rw[seg];exact zpg W h1.1 h2.1 λx hx y hy=>by have:=h1.2 x hx;have:=h2.2 y hy;lia
 .rw[seg] at hx;rcases mg_mem.mp hx with z|z
  .have:=h1.2 x z;lia
  .have:=h2.2 x z;lia
 .rw[e,Qo];simp only[Zf];rw[Q6 (by lia),Ye,GO hp]
 .rw[e];simp only[Zf];rw[QB (by rw[Qf,lm,lt];lia),Qf,lm,lt,Z7,show s+n+m+(p-(s+(n+m)))=p by lia]
end
theorem zqh:∀{zs ys:List Nat},zs.Nodup->(∀z∈zs,z∈ys)->zs.length<=ys.length
 | [],ys,_,_=>QK _
 | z::zs,ys,nd,h=>by
   have n:=QW.mp nd;have hz:=h z (by simp);have:=zqh (zs:=zs) (ys:=ys.erase z) n.2 λx hx=>(JN (show x≠z from λe=>n.1 (by rw[<- e];exact hx))).mpr (h x (by simp[hx]));rw[Jy hz] at this;have:=Y1 hz;rw[Qi];lia
section
variable {prog:Um}{w:Uq}{A:Us}{E:Uf->Ui->Prop}{s:Ui}{α:Type}{blt:α->α->Bool}{k:Nat->α}{a₀:Array U2}{kd:U6}{ix:Nat->Nat}{st:U0}{lo:Nat}{N:List Nat}{pd:Array (Nat×Nat×Nat)}{T:Nat->Nat}
structure RI(blt:α->α->Bool)(k:Nat->α)(a₀:Array U2)(kd:U6)(T:Nat->Nat)(lo:Nat)(st:U0):Prop where
 ki:kindOf st=kd
 fa:UD st=none
 le:lo<=a₀.size
 ex:∃N:List Nat,N.length=a₀.size/\Nmd a₀ (arrOf st) N/\(∀p,lo<=p->p<a₀.size->N.getD p 0=T p)/\Segs blt k N (pendingOf st).toList 0 lo
theorem zye{β:Type}{l:List β}{i:Nat}(h:i+1<l.length):∃a b,l=l.take i++a::b::l.drop (i+2)/\l[i]? = some a/\l[i+1]? = some b:=by
 refine⟨l[i],l[i+1],?_,Qb (by lia),Qb h⟩
 conv=>lhs;rw[<- Zv i l,QJ (show i<l.length by lia),QJ (show i+1<l.length by lia)]
theorem zl5{i:Nat}(W:WO blt)(hC:zbx prog w A s kd a₀ blt k)(r:RI blt k a₀ kd T lo st)(hi:i+1<(pendingOf st).size)(h:∀st',RI blt k a₀ kd T lo st'->(pendingOf st').size+1=(pendingOf st).size->Q true st'):wpS (model prog w) A E s (mergeAt' i) Q st:=by
 obtain⟨N,hl,NA,idn,sg⟩:=r.ex;have rle:=r.le;obtain⟨⟨sA,nA,pA⟩,⟨sB,nB,pB⟩,el,e1,e2⟩:=zye (l:=(pendingOf st).toList) (i:=i) (by rw[Zb];exact hi);have li:((pendingOf st).toList.take i).length=i:=by rw[Q8,Zb];lia
 generalize hl1:(pendingOf st).toList.take i=l1 at el li;generalize hl2:(pendingOf st).toList.drop (i+2)=l2 at el;rw[el] at sg;obtain⟨m,g1,g2⟩:=segs_app.mp sg;obtain⟨rfl,hA,okA,g3⟩:=g2;obtain⟨rfl,hB,okB,g4⟩:=g3;have le4:=zf9 g4;refine zzs (i:=i) (sa:=sA) (na:=nA) (nb:=nB) W hC r.ki r.fa NA (by rw[<- Z3];exact e1) (by rw[<- Z3];exact e2) hA hB (by lia) (okA.srt W (by lia)) (okB.srt W (by lia)) λst' k1 k2 k3 k4=>?_;obtain⟨lN,ok,q1,q2⟩:=okA.merge W okB (by lia) _ rfl
 have tl:(pendingOf st').toList=l1++(sA,nA+nB,pA)::l2:=by
  rw[k4,Array.toList_eraseIdxIfInBounds,Yf,el,<- li,YD _ _ (Qg _),Nat.sub_self,List.set_cons_zero,List.eraseIdx_append_of_length_le (by lia),show l1.length+1-l1.length=1 by lia];rfl
 refine h st' ⟨k1,k2,rle,_,by rw[lN];exact hl,k3,λp p1 p2=>?_,?_⟩ ?_
 .rw[q2 p (by lia)];exact idn p p1 p2
 .rw[tl];refine segs_app.mpr ⟨sA,zdj lN g1 λp _ p2=>q1 p p2,rfl,by lia,ok,?_⟩;rw[show sA+(nA+nB)=sA+nA+nB by lia];exact zdj lN g4 λp p1 _=>q2 p (by lia)
 .rw[<- Zb,<- Zb,tl,el];simp;lia
theorem z0p(NA:Nmd a₀ (arrOf st) N)(hl:N.length=a₀.size)(idn:∀p,lo<=p->p<a₀.size->N.getD p 0=p)(ki:kindOf st=kd)(fa:UD st=none)(le:lo<=a₀.size):So a₀ kd (pendingOf st) lo N (λi=>i) st:=by
 have z:=NA.size;refine⟨by rw[z,hl],λp hp=>?_,λi hi=>?_,Bij.idf,fa,rfl,ki⟩
 .obtain⟨x,e1,e2,_⟩:=NA.get (i:=p) (by lia);rw[e1,e2]
 .obtain⟨x,e1,e2,_⟩:=NA.get (i:=lo+i) (by lia);rw[idn (lo+i) (by lia) hi] at e2;rw[e1,e2]
theorem zx1{m:Nat}(b:So a₀ kd pd lo N ix st)(hN:∀n∈N,n<a₀.size)(hl:N.length=a₀.size)(le:lo<=a₀.size)(hm:lo+m<=a₀.size)(up:Up blt (λi=>k (lo+i)) ix m)(pr:Pre ix m):
 ∃N':List Nat,N'.length=a₀.size/\Nmd a₀ (arrOf st) N'/\(∀p,p<lo->N'.getD p 0=N.getD p 0)/\SegOk blt k N' lo m/\∀p,lo+m<=p->p<a₀.size->N'.getD p 0=p:=by
 have lt:(N.take lo).length=lo:=by rw[Q8];lia
 have gl:∀p,p<lo->(N.take lo++(Q7 (a₀.size-lo)).map λi=>lo+ix i).getD p 0=N.getD p 0:=λp hp=>by
  simp only[Zf];rw[Q6 (by lia),Ye,GO hp]
 have gr:∀i,lo+i<a₀.size->(N.take lo++(Q7 (a₀.size-lo)).map λi=>lo+ix i).getD (lo+i) 0=lo+ix i:=λi hi=>by
  simp only[Zf];rw[QB (by lia),lt,show lo+i-lo=i by lia,Qm,Zk (by lia)];rfl
 have lN:(N.take lo++(Q7 (a₀.size-lo)).map λi=>lo+ix i).length=a₀.size:=by rw[Qf,lt,Qe,Z1];lia
 have inr:∀n∈(N.take lo++(Q7 (a₀.size-lo)).map λi=>lo+ix i),n<a₀.size:=λn hn=>by
  rcases Qu.mp hn with z|z
  .exact hN n (QO z)
  .obtain⟨i,hi,rfl⟩:=QD.mp z;have:=b.bj.lt i (Z4.mp hi);lia
 generalize hN':(N.take lo++(Q7 (a₀.size-lo)).map λi=>lo+ix i)=N' at gl gr lN inr;refine⟨N',lN,⟨?_,inr⟩,gl,?_,λp p1 p2=>?_⟩
 .refine Zw λp=>?_;rw[Z3,Qm];rcases Zp p a₀.size with hp|hp
  .have ge:N'[p]? = some (N'.getD p 0):=by
    unfold Zf;rw[Qb (by lia)];rfl
   have mem:N'.getD p 0<a₀.size:=inr _ (Q5 ge);rw[ge,ZV,<- zi1 mem];rcases Zp p lo with z|z
   .rw[gl p z];exact b.be p z
   .obtain⟨i,rfl⟩:∃i,p=lo+i:=⟨p-lo,by lia⟩;rw[gr i hp];exact b.at_ i hp
  .rw[Y2 (by rw[b.sz];exact hp),Qz (by lia)];rfl
 .have seg:∀i j,i<j->j<m->Rk blt k (N'.getD (lo+i) 0) (N'.getD (lo+j) 0):=λi j hij hj=>by
   rw[gr i (by lia),gr j (by lia)];rcases up i j hij hj with z|⟨z,z'⟩
   .exact .inl z
   .exact .inr ⟨z,by lia⟩
  refine⟨ZB.mpr λi j h1 h2 hij=>?_,λx hx=>?_⟩
  .have l:=zck (N:=N') (lo:=lo) (n:=m) (by lia)
   have e:∀t,t<m->∀ht,((N'.drop lo).take m)[t]'ht=N'.getD (lo+t) 0:=λt ht hh=>by
    rw[<- zb0 ht (by lia)];unfold Zf;rw[Qb hh];rfl
   rw[e i (by lia),e j (by lia)];exact seg i j hij (by lia)
  .obtain⟨j,j1,j2,rfl⟩:=zev hx;rw[gr j (by lia)];have:=pr.lt j j1;lia
 .obtain⟨i,rfl⟩:∃i,p=lo+i:=⟨p-lo,by lia⟩;rw[gr i p2,pr.id i (by lia)]
end
section
variable {prog:Um}{w:Uq}{A:Us}{E:Uf->Ui->Prop}{s:Ui}{α:Type}{blt:α->α->Bool}{k:Nat->α}{a₀:Array U2}{kd:U6}{st:U0}
theorem zxf(b:Sb a₀ kd (λi=>i) st):Nmd a₀ (arrOf st) (Q7 a₀.size):=by
 refine⟨Zw λp=>?_,λn hn=>Z4.mp hn⟩;rw[Z3,Qm];rcases Zp p a₀.size with hp|hp
 .rw[Zk hp,ZV,<- zi1 hp];exact b.at_ p hp
 .rw[Y2 (by rw[b.sz];exact hp),Qz (by rw[Z1];exact hp)];rfl
theorem zsz(W:WO blt)(hC:zbx prog w A s kd a₀ blt k)(b:Sb a₀ kd (λi=>i) st)(h2:2<=a₀.size)
 (h:∀ix' st',(arrOf st').size=a₀.size->(∀i,i<a₀.size->(arrOf st')[i]? = a₀[ix' i]?)->Bij ix' a₀.size->UD st'=none->Up blt k ix' a₀.size->Q () st'):wpS (model prog w) A E s sortRuns' Q st:=by
 rw[sortRuns'_eq];refine Uj (UL ?_);dsimp only;simp only[b.sz];have r0:RI blt k a₀ kd (λp=>p) 0 st:=⟨b.ki,b.fa,QK _,Q7 a₀.size,Z1,zxf b,λp _ hp=>by simp[Zf,hp],by rw[b.pe];rfl⟩;refine Uj (U3 (Ut (I:=λx c st'=>∃lo,c=(none,lo)/\RI blt k a₀ kd (λp=>p) lo st'/\(x<=lo\/lo=a₀.size)) (Q:=λc st'=>c=(none,a₀.size)/\RI blt k a₀ kd (λp=>p) a₀.size st') ?turn ?out ⟨0,rfl,r0,.inl (Qg _)⟩) ?rest)
 case out=>
  rintro c st' ⟨lo,rfl,r,o⟩;have:=r.le;have:lo=a₀.size:=by rcases o with o|o <;> lia
  subst this;exact⟨rfl,r⟩
 case turn=>
  rintro x c st' _ hx ⟨lo,rfl,r,o⟩;have rle:=r.le
  by_cases ge:lo ≥ a₀.size
  .rw[GO ge];have:lo=a₀.size:=by lia
   subst this;exact Uk ⟨rfl,r⟩
  rw[GP ge];obtain⟨N,hl,NA,idn,sg⟩:=r.ex;refine Uj (zzk W hC (n:=a₀.size-lo) (by lia) (by lia) (z0p NA hl idn r.ki r.fa rle) λm ix1 st1 b1 m1 m2 u1 p1=>?_);dsimp only
  have fin:∀(nn:Nat) (ix2:Nat->Nat) (st2:U0),So a₀ kd (pendingOf st') lo N ix2 st2->1<=nn->lo+nn<=a₀.size->Up blt (λi=>k (lo+i)) ix2 nn->Pre ix2 nn->∃N':List Nat,N'.length=a₀.size/\RI blt k a₀ kd (λp=>N'.getD p 0) lo st2/\(∀st3,RI blt k a₀ kd (λp=>N'.getD p 0) lo st3->RI blt k a₀ kd (λp=>p) (lo+nn) (setPending st3 ((pendingOf st3).push (lo,nn,0)))):=by
   intro nn ix2 st2 b2 n1 n2 u2 p2;obtain⟨N',l',A',e1,e2,e3⟩:=zx1 b2 NA.2 hl rle n2 u2 p2;refine⟨N',l',⟨b2.ki,b2.fa,rle,N',l',A',λp _ _=>rfl,?_⟩,λst3 r3=>?_⟩
   .rw[b2.pe];exact zdj (by lia) sg λp _ hp=>e1 p hp
   .obtain⟨N3,l3,A3,t3,g3⟩:=r3.ex;refine⟨r3.ki,r3.fa,n2,N3,l3,A3,λp p1 p2=>?_,?_⟩
    .rw[t3 p (by lia) p2];exact e3 p p1 p2
    .show Segs blt k N3 ((pendingOf st3).push (lo,nn,0)).toList 0 (lo+nn);rw[Vv];refine segs_app.mpr ⟨lo,g3,rfl,n1,?_,rfl⟩;unfold SegOk;rw[zm7 (N:=N') (by lia) λp p1 p2=>t3 p p1 (by lia)];exact e2
  have md:∀(T:Nat->Nat) (pw:Nat) (st3:U0),RI blt k a₀ kd T lo st3->RI blt k a₀ kd T lo (setPending st3 ((pendingOf st3).modify ((pendingOf st3).size-1) λx=>(x.1,x.2.1,pw))):=by
   intro T pw st3 r3;obtain⟨N3,l3,A3,t3,g3⟩:=r3.ex;refine⟨r3.ki,r3.fa,r3.le,N3,l3,A3,t3,?_⟩;rw[Array.toList_modify];exact zk6 (λ_ _ _=>⟨rfl,rfl⟩) g3
  by_cases lt:m<minRun' a₀.size a₀.size 0
  .rw[GO lt];refine Uj (Gb (UQ ⟨rfl,?_⟩));generalize hnn:min (a₀.size-lo) (minRun' a₀.size a₀.size 0)=nn;have n1:1<=nn:=by lia
   have n2:lo+nn<=a₀.size:=by lia
   refine Uj (zz5 W hC n2 (by lia) m1 b1 u1 p1 λix2 st2 b2 u2 p2=>?_);clear hnn lt;obtain⟨N',l',r2,push⟩:=fin nn ix2 st2 b2 n1 n2 u2 p2;clear fin;refine Uj (UL ?_)
   cases hb:(pendingOf st2).back? with
   | none=>
     exact Uj (U4 (Uk ⟨lo+nn,rfl,push _ r2,by lia⟩))
   | some e=>
     obtain⟨s1,l1,w1⟩:=e;dsimp only;generalize power' a₀.size (2 * s1+l1) (2 * s1+l1+l1+nn) a₀.size=pw;refine Uj (U3 (Ut (I:=λ_ c st3=>c=(none,())/\RI blt k a₀ kd (λp=>N'.getD p 0) lo st3) (Q:=λc st3=>c=(none,())/\RI blt k a₀ kd (λp=>N'.getD p 0) lo st3) ?_ (λ_ _ y=>y) ⟨rfl,r2⟩) ?_)
     .rintro y c st3 _ _ ⟨rfl,r3⟩;refine Uj (UL ?_)
      by_cases big:(pendingOf st3).size > 1
      .rw[GO big]
       cases hq:(pendingOf st3)[(pendingOf st3).size-2]? with
       | none=>exact Uk ⟨rfl,r3⟩
       | some e=>
         obtain⟨e1,e2,older⟩:=e;dsimp only
         by_cases le:older<=pw
         .rw[GO le];exact Uk ⟨rfl,r3⟩
         .rw[GP le];refine Uj (zl5 W hC r3 (by lia) λst4 r4 _=>?_);exact Uk ⟨rfl,r4⟩
      .rw[GP big];exact Uk ⟨rfl,r3⟩
     .rintro c st3 ⟨rfl,r3⟩;exact Uj (U4 (Uj (U4 (Uk ⟨lo+nn,rfl,push _ (md _ pw _ r3),by lia⟩))))
  .rw[GP lt];have n2:lo+m<=a₀.size:=by lia
   obtain⟨N',l',r2,push⟩:=fin m ix1 st1 b1 m1 n2 u1 p1;clear fin lt;generalize m=nn at *;generalize st1=st2 at *;refine Uj (UL ?_)
   cases hb:(pendingOf st2).back? with
   | none=>
     exact Uj (U4 (Uk ⟨lo+nn,rfl,push _ r2,by lia⟩))
   | some e=>
     obtain⟨s1,l1,w1⟩:=e;dsimp only;generalize power' a₀.size (2 * s1+l1) (2 * s1+l1+l1+nn) a₀.size=pw;refine Uj (U3 (Ut (I:=λ_ c st3=>c=(none,())/\RI blt k a₀ kd (λp=>N'.getD p 0) lo st3) (Q:=λc st3=>c=(none,())/\RI blt k a₀ kd (λp=>N'.getD p 0) lo st3) ?_ (λ_ _ y=>y) ⟨rfl,r2⟩) ?_)
     .rintro y c st3 _ _ ⟨rfl,r3⟩;refine Uj (UL ?_)
      by_cases big:(pendingOf st3).size > 1
      .rw[GO big]
       cases hq:(pendingOf st3)[(pendingOf st3).size-2]? with
       | none=>exact Uk ⟨rfl,r3⟩
       | some e=>
         obtain⟨e1,e2,older⟩:=e;dsimp only
         by_cases le:older<=pw
         .rw[GO le];exact Uk ⟨rfl,r3⟩
         .rw[GP le];refine Uj (zl5 W hC r3 (by lia) λst4 r4 _=>?_);exact Uk ⟨rfl,r4⟩
      .rw[GP big];exact Uk ⟨rfl,r3⟩
     .rintro c st3 ⟨rfl,r3⟩;exact Uj (U4 (Uj (U4 (Uk ⟨lo+nn,rfl,push _ (md _ pw _ r3),by lia⟩))))
 case rest=>
  rintro c st' ⟨rfl,r⟩
  have pl:(pendingOf st').size<=a₀.size:=by
   obtain⟨N,hl,NA,_,sg⟩:=r.ex;have:=zf9 sg;rw[Zb] at this;lia
  refine Uj (U3 (Ut (I:=λx c st2=>c=(none,())/\RI blt k a₀ kd (λp=>p) a₀.size st2/\(pendingOf st2).size+x<=a₀.size) (Q:=λc st2=>c=(none,())/\RI blt k a₀ kd (λp=>p) a₀.size st2/\(pendingOf st2).size<=1) ?_ ?_ ⟨rfl,r,pl⟩) ?_)
  .rintro x c st2 _ hx ⟨rfl,r2,z⟩;refine Uj (UL ?_)
   by_cases le:(pendingOf st2).size<=1
   .rw[GO le];exact Uk ⟨rfl,r2,le⟩
   .rw[GP le];refine Uj (zl5 W hC r2 ?_ λst4 r4 q4=>?_)
    .by_cases c:(Option.any (λx=>decide (x<(pendingOf st2)[(pendingOf st2).size-2+1]?.elim 0 λx=>x.snd.fst)) (if(pendingOf st2).size-2 > 0 then Option.map (λx=>x.snd.fst) (pendingOf st2)[(pendingOf st2).size-2-1]? else none))=true
     .rw[GO c];lia
     .rw[GP c];lia
    .simp only[Bool.not_true,Zi,GX];exact Uk ⟨rfl,r4,by lia⟩
  .rintro c st2 ⟨rfl,r2,z⟩;exact⟨rfl,r2,by lia⟩
  .rintro c st2 ⟨rfl,r2,z⟩;refine Uk ?_;obtain⟨N,hl,NA,_,sg⟩:=r2.ex;rw[<- Zb] at z;generalize (pendingOf st2).toList=l at sg z
   match l,sg,z with
   | [],sg,_=>exact absurd (show 0=a₀.size from sg) (by lia)
   | [(_,n,_)],sg,_=>
     obtain⟨_,_,ok,e⟩:=sg;have e:0+n=a₀.size:=e;obtain rfl:n=a₀.size:=by lia
     have ee:(N.drop 0).take a₀.size=N:=by rw[Je,Zg (by lia)]
     have pw:=ok.1;rw[ee] at pw
     have rk:∀i j,i<j->j<a₀.size->Rk blt k (N.getD i 0) (N.getD j 0):=λi j hij hj=>by
      have:=ZB.mp pw i j (by lia) (by lia) hij;simpa[Zf,Qb (show i<N.length by lia),Qb (show j<N.length by lia)] using this
     have irr:∀a,¬Rk blt k a a:=λa h=>by
      rcases h with h|⟨_,h⟩
      .rw[W.irr] at h;cases h
      .lia
     have nd:N.Nodup:=List.Pairwise.imp (S:=λx y=>x≠y) (λ{x y} h (e:x=y)=>irr x (by rw[<- e] at h;exact h)) pw
     have gt:∀i,i<a₀.size->N[i]? = some (N.getD i 0):=λi hi=>by
      unfold Zf;rw[Qb (by lia)];rfl
     have lt:∀i,i<a₀.size->N.getD i 0<a₀.size:=λi hi=>NA.2 _ (Q5 (gt i hi));refine h (λi=>N.getD i 0) st2 (by rw[NA.size,hl]) (λi hi=>?_) ⟨lt,λi j hi hj e=>?_,λp hp=>?_⟩ r2.fa rk
     .obtain⟨x,e1,e2,_⟩:=NA.get (i:=i) (by lia);rw[e1,e2]
     .rcases Vw i j with t|t|t
      .exact absurd (rk i j t hj) (by rw[show N.getD i 0=N.getD j 0 from e];exact irr _)
      .exact t
      .exact absurd (rk j i t hi) (by rw[show N.getD i 0=N.getD j 0 from e];exact irr _)
     .by_cases mem:p∈N
      .obtain⟨i,hi,e⟩:=ZM mem;refine⟨i,by lia,?_⟩;unfold Zf;rw[Qb hi,e];rfl
      .have:=zqh (zs:=p::N) (ys:=Q7 a₀.size) (QW.mpr ⟨mem,nd⟩) λz hz=>Z4.mpr (by
        rcases Q0.mp hz with rfl|hz
        .exact hp
        .exact NA.2 z hz)
       rw[Qi,Z1,hl] at this;lia
end
end L6
namespace HK
open PySem PySem.Spec PyProof.Rows PySem.W
mutual
def dlt:Ug->Ug->Bool
 | .int i,.int j=>decide (i<j)
 | .str x,.str y=>decide (x.cps.toList<y.cps.toList)
 | .tuple xs,.tuple ys=>dlts xs ys
 | _,_=>false
def dlts:List Ug->List Ug->Bool
 | [],[]=>false
 | [],_::_=>true
 | _::_,[]=>false
 | x::xs,y::ys=>if QH x y then dlts xs ys else dlt x y
end
end HK
namespace L6
open PySem PyProof.Rows
section
variable {prog:Um}{w:Uq}{A:Us}{E:Uf->Ui->Prop}{s:Ui}
theorem zs6{α:Type}{blt:α->α->Bool}{k:Nat->α}{e ea:Nat}(hl:ks.length=vs.length)(h64:vs.length<=1000000)
 (hk:s.heap.get? kS=some (seqObj "list" ks.toArray e)) (ha:s.heap.get? a=some (seqObj "list" #[] ea)) (hne:kS≠a) (K:KeysOk prog w A s ks vs blt k)
 (h:∀ix,Ord blt k vs.length ix->P (.done (.ret .none)) { s with heap:=(s.heap.update kS (QS λ_=>#[])).update a (QS λ_=>(zcb vs ix).toArray) }) :
 wpAny (model prog w) A (ksk_end a false vs.toArray ea (.ref kS) ks.toArray) P E s:=by
 have hz:(ks.toArray.zip vs.toArray).size=vs.length:=by simp[hl]
 have ha2:(s.heap.update kS (QS λ_=>#[])).get? a=some (seqObj "list" #[] ea):=by
  have:=UA hk (λ_=>#[]);rw[QI _ _ _ _ (Zr hne)];exact ha
 have fin:∀(st':U0) ix,(arrOf st').size=vs.length->(∀i,i<vs.length->(arrOf st')[i]? = (ks.toArray.zip vs.toArray)[ix i]?)->UD st'=none->Ord blt k vs.length ix ->
  wpAny (model prog w) A (ksk_tail a false ea (.ref kS) st') P E s:=λst' ix z1 z2 z3 o=>by
  have ep:=zu2 hl o.bj z1 z2;unfold ksk_tail;dsimp only;refine Uh (UV hk rfl ?_ (by rw[Ur];simp;lia));refine Uh (wpAny_letGo ?_);refine Uh (GG ha2 rfl ?_)
  refine Uh (UV ha2 rfl ?_ (hsz2:=by
   rw[Ur];simp only[Zi,GX];rw[ep];simp[zcb]
   lia))
  rw[z3];simp only[bne_self_eq_false,Zi,GX];rw[ep];exact Uo (h ix o)
 unfold ksk_end;dsimp only;simp only[Zi,GX]
 by_cases h2:vs.toArray.size<2
 .rw[GO h2,GO h2];refine Uh (Uo ?_);rw[StateT.run_pure];refine Uh (Uo ?_);have h2':vs.length<2:=by simpa using h2
  refine fin _ (λi=>i) hz (λi _=>rfl) rfl ⟨Bij.idf,λi j z1 z2=>by lia⟩
 .rw[GP h2,GP h2];have h2':2<=vs.length:=by simpa using h2
  obtain⟨kd,kk,cm⟩:=K.kd h2';refine Uh (kk _ _ ?_)
  refine Uh (Uv (zsz (kd:=kd) (st:=SortSt.mk' kd (ks.toArray.zip vs.toArray) #[] 7 none) (Q:=λ_ st'=>∃ix,(arrOf st').size=vs.length/\(∀i,i<vs.length->(arrOf st')[i]? = (ks.toArray.zip vs.toArray)[ix i]?)/\UD st'=none/\Ord blt k vs.length ix)
   K.wo cm ⟨rfl,λi _=>rfl,Bij.idf,rfl,rfl,rfl⟩ (by lia) λix st' z1 z2 z3 z4 z5=>?_) ?_ λ_ _ e=>e)
  .rw[hz] at z1 z2 z3 z5;exact⟨ix,z1,z2,z4,z3,z5⟩
  .rintro⟨⟨⟩,st'⟩ s' ⟨rfl,ix,z1,z2,z3,z4⟩;exact fin st' ix z1 z2 z3 z4
theorem zje{ea:Nat}(J:Nat->List Uf->Ui->Prop)(h64:vs.length<=1000000)(h0:J 0 [] s)
 (step:∀(i:Nat) (x:Uf) (ks:List Uf) (s':Ui),vs[i]? = some x->ks.length=i->J i ks s'->wpAny (model prog w) A (call f [x]) (λkv s2=>(∃e,s2.heap.get? kS=some (seqObj "list" ks.toArray e))/\J (i+1) (ks ++ [kv]) { s2 with heap:=s2.heap.update kS (QS (·.push kv)) }) (λ_ _=>False) s')
 (fin:∀(ks:List Uf) (s':Ui),ks.length=vs.length->J vs.length ks s'->∃(α:Type) (blt:α->α->Bool) (k:Nat->α) (e:Nat),s'.heap.get? kS=some (seqObj "list" ks.toArray e)/\s'.heap.get? a=some (seqObj "list" #[] ea)/\kS≠a/\KeysOk prog w A s' ks vs blt k /\
  ∀ix,Ord blt k vs.length ix->P (.done (.ret .none)) { s' with heap:=(s'.heap.update kS (QS λ_=>#[])).update a (QS λ_=>(zcb vs ix).toArray) }) :
 wpAny (model prog w) A (ksk_rest a f false vs.toArray ea (.ref kS)) P E s:=by
 unfold ksk_rest;refine Uh (UQ ?_);refine Uh ?_;rw[<- Array.forIn_toList];refine ksk_fold (λi s'=>∃ks,ks.length=i/\J i ks s') vs 0 s ⟨[],rfl,h0⟩ (λj x s' hx zz=>?_) λs' zz=>?_
 .obtain⟨ks,hk,hJ⟩:=zz;rw[JF] at hk hJ ⊢;have hj:j<vs.length:=(Qk.mp hx).1;refine Uh (G1 (Uv (step j x ks s' hx hk hJ) (λkv s2 ⟨⟨e,h1⟩,h2⟩=>?_) λ_ _ z=>z.elim));dsimp only;refine Uh (UV h1 rfl ?_ (by rw[Ur];simp;lia) (by rw[Ur];simp;lia));exact Uo ⟨rfl,ks ++ [kv],by simp[hk],h2⟩
 .obtain⟨ks,hk,hJ⟩:=zz;rw[JF] at hk hJ;obtain⟨α,blt,k,e,h1,h2,h3,h4,h5⟩:=fin ks s' hk hJ;refine Uh (GA h1 rfl ?_);exact zs6 hk h64 h1 h2 h3 h4 h5
end
end L6
namespace L3
open PySem PySem.Spec
open PyProof.Rows hiding St
open L2 L6
def zb3(ws:List (List Nat)):List (List Nat):=ws.mergeSort λa b=>!wlt b a
theorem zj3{α β:Type}{r:α->α->Bool}{s:β->β->Bool}{f:α->β}{l:List α}(hr:∀a∈l,∀b∈l,r a b=s (f a) (f b)):(l.mergeSort r).map f=(l.map f).mergeSort s:=List.map_mergeSort hr
theorem zmm(hk:∀w∈ws,kf (tS w)=(((w.length:Nat):Int),tx w)):zc5 kf (ws.map tS)=(zb3 ws).map tS:=by
 unfold zc5 zb3;refine(zj3 λa ha b hb=>?_).symm;have h1:kfl kf (tS a)=(((a.length:Nat):Int),a):=by unfold kfl;rw[hk a ha];show(_,(tx a).cps.toList)=_;rw[zbs]
 have h2:kfl kf (tS b)=(((b.length:Nat):Int),b):=by unfold kfl;rw[hk b hb];show(_,(tx b).cps.toList)=_;rw[zbs]
 rw[h1,h2,zv0]
def wkey:Ug->Int×Str
 | .str x=>((x.length:Nat),x)
 | _=>(0,Z2)
theorem zi3(w:List Nat):wkey (tS w)=(((w.length:Nat):Int),tx w):=by
 show((((tx w).length:Nat):Int),tx w)=_;rw[zdz]
theorem zgm(ws:List (List Nat)):zc5 wkey (ws.map tS)=(zb3 ws).map tS:=zmm λw _=>zi3 w
theorem sortW_mem: w∈zb3 ws↔w∈ws:=List.mem_mergeSort
theorem zjs: (zb3 ws).length=ws.length:=List.length_mergeSort ws
theorem zrn(ws:List (List Nat)):(zb3 ws).Pairwise λa b=>wlt b a=false:=by
 have:=Ys (le:=λa b=>!wlt b a) (λa b c h1 h2=>?_) (λa b=>?_) ws
 .exact this.imp λh=>by simpa using h
 .have h1:wlt b a=false:=by simpa using h1
  have h2:wlt c b=false:=by simpa using h2
  show(!wlt c a)=true
  cases h:wlt c a with
  | false=>rfl
  | true=>
    rcases zwp c b a h with z|z
    .rw[z] at h2;cases h2
    .rw[z] at h1;cases h1
 .show(!wlt b a || !wlt a b)=true;cases h1:wlt b a <;> cases h2:wlt a b <;> try rfl
  have:=zle _ _ _ h1 h2;rw[zgc] at this;cases this
theorem zh8{α:Type}[DecidableEq α]:∀{xs ys:List α},xs.Nodup->(∀k∈xs,k∈ys)->xs.length<=ys.length
 | [],_,_,_=>QK _
 | x::xs,ys,h,hs=>by
   have hx:=hs x (by simp);obtain⟨h1,h2⟩:=QW.mp h
   have:=zh8 (xs:=xs) (ys:=ys.erase x) h2 λk hk=>by
    refine(JN λe:k=x=>h1 (e ▸ hk)).mpr (hs k (Qc _ hk))
   rw[Jy hx] at this;have:=Y1 hx;rw[Qi];lia
def zh6:List Ug->(R->Prop)->Prop:=λds Q=>∃w:List Nat,ds = [tS w]/\w.length<=100/\∀r:R,r.d = .tuple [.int (w.length:Nat),tS w]->Q r
section
variable {K:Qa}{O:Ob}
def augS(i:Nat)(f:DE):DS:=λDd ρ=>∃a:Int,ρ[i]? = some (some (.im (.int a)))/\f ρ λr=>∃b:Int,r.d = .int b/\Dd.nx (ρ.set i (some (.im (.int (a+b)))))
theorem zwu{i:Nat}(h:ED K O t f):SD K O (tAug i t (ipI λi j=>i+j)) (augS i f):=λH₀ A σ H ρ D Dd r q P=>by
 obtain⟨a,e,q⟩:=q;obtain⟨v,hv,iv⟩:=r.at_ i _ e;have iv':Is K (unO O A) H v (.int a):=iv;cases iv';refine⟨_,hv,?_⟩;refine h σ H ρ _ _ r.seen q λw H1 x s1 o1 zz=>?_;obtain⟨b,eb,q1⟩:=zz;have i1:=o1.is r.ok r.p;rw[eb] at i1;cases i1;exact⟨a,b,rfl,rfl,P.nx _ _ H1 _ ((r.stp s1).setIm (.int (a+b))) (.setIm s1) q1⟩
end
section
variable {ι κ:Type}{P:Um}{w:Uq}{K:Qa}{mg:Str->Option Uf}{base:Heap}{k:Nat}{X:ι->Cx}{O:κ->Ob}{a b:Expr}{fa fb:DE}{pos p1 p2 p3 p4:Pos}
theorem z0w(n:Nat)(ha:E3 K X O a fa)(hN:∀i,(X i).N.Nodup:=by intro i;exact GQ (by kernel_rfl))(hi:∀i,(X i).N[n]? = some x:=by intro i;rfl)(hx:∀i,Loc (X i).env.scope x:=by intro i;first|exact Or.inl rfl|exact Or.inr rfl)
 (hf:∀i,(X i).fn x=true\/(X i).env.scope.names.lookup x=some .local:=by intro i;first|exact .inl rfl|exact .inr rfl):S3 K X O (.AugAssign (.Name x px) .Add a pos) (augS n fa) :=
 let ⟨_,q,d⟩:=ha;⟨_,λi=>zyk (hN i) (hi i) (hx i) (q i) zx2 (hf i),λj=>zwu (d j)⟩
end
theorem ziv(w:List Nat)(v:Nat):(tx w).cps.getD v 0=w.getD v 0:=by
 simp[tx,Array.getD,Zf]
 split
 .rename_i h
  rw[Qb h];rfl
 .rename_i h
  rw[Qz (by lia)];rfl
theorem zkz(n s:Nat)(h:s<=n):fromIndex n (s:Int)=s:=by
 unfold fromIndex
 first|lia|(simp;lia)|(split <;> lia)
def zf2(c:Nat)(more:List Nat)(start:Nat):Int:=match zbm c more start with|none=>-1|some p=>(p:Int)
theorem zuk{more:List Nat}{c start:Nat}(h:start<=more.length):Ua (tx more) (sg c) (start:Int)=zf2 c more start:=by
 unfold zf2;have hl:(tx more).length=more.length:=zdz more;rcases StrLaws.find3_spec (tx more) c (start:Int) with ⟨h1,h2⟩|⟨k,h1,h2,h3,h4,h5⟩
 .rw[show sg c=⟨#[c]⟩ from rfl,h1]
  cases hf:zbm c more start with
  | none=>rfl
  | some p=>
    obtain⟨a,b,_⟩:=zd3 hf;obtain⟨b1,b2⟩:=Qk.mp b;have:=h2 p (by rw[hl,zkz _ _ h];exact a) (by rw[hl];exact b1);rw[ziv,Zf,b] at this;exact absurd rfl this
 .rw[show sg c=⟨#[c]⟩ from rfl,h1];rw[hl,zkz _ _ h] at h2 h5;rw[hl] at h3
  have hk:more[k]? = some c:=by
   rw[ziv,Zf,Qb h3] at h4;rw[Qb h3];exact GV some h4
  cases hf:zbm c more start with
  | none=>exact absurd hk (zi9 hf k h2)
  | some p=>
    obtain⟨a,b,d⟩:=zd3 hf
    have e:k=p:=by
     rcases Vw k p with z|z|z
     .exact absurd hk (d k h2 z)
     .exact z
     .have:=h5 p a z;rw[ziv,Zf,b] at this;exact absurd rfl this
    rw[e]
def znq:List Ug->(R->Prop)->Prop:=λds Q=>∃less more:List Nat,ds = [tS less,tS more]/\Sml less/\Sml more/\((plc less more 0 []=none->Q (.o .none))/\∀ps:List Nat,plc less more 0 []=some ps->Q (.n (ps.map λp=>.int (p:Nat))))
def zh0:List Ug->(R->Prop)->Prop:=λds Q=>∃less more:List Nat,ds = [tS less,tS more]/\Sml less/\Sml more/\Q (.o (.bool (under less more)))
end L3
namespace L6
open PySem PySem.Spec
open PyProof.Rows hiding St
open L2 L3
section
variable {X:Cx}{pins:List (Addr×Obj)}{σ:St}{H:Hp}{s:Ui}
def ziz(K:Qa)(sp:Sp)(ta:TE):TE:=λσ H Q=>ta σ H λv H1=>∃p xs,v = .ref p/\H1 p=some (.lst xs)/\xs.length<=1000000 /\
 zfb sp (λks H2=>∃(α:Type) (blt:α->α->Bool) (k:Nat->α),KeysV K H2 ks α blt k/\∀ix l,Ord blt k xs.length ix->H2 l=none->Q (.ref l) (upd H2 l (.lst (zcq .non xs ix)))) xs [] H1
theorem zq9{k:Nat}(F:FnOk X.prog X.w X.K X.mg X.base CX0 k f fd [y] sp)(hr:Room (k+1) X.A)(hb:Binds X.K fd [y] [])(hg:Gl X "sorted")(hm:X.mg "sorted" = none)
 (hgx:Gl X x) (hmx:X.mg x=some (.ref f)) (ha:PE X a ta) (hdx:(x == ("__debug__" : Str))=false:=by decide) (hs:Ul [a] X.env = [(false,eval a X.env)]:=by rfl) :
 PE X (.Call (.Name "sorted" p) [a] [⟨some "key",.Name x px,kp⟩] pos) (ziz X.K sp ta):=by
 intro pins s σ H Q I h;refine Uy (zcs I hg hm zfw ?_);refine callWith_kw ?_ (by rw[hs];rfl) (by rw[hs];rfl) rfl rfl;rw[hs];refine ZE (thn (ha pins s σ H _ I h) λu s1 zz=>?_);obtain⟨v,H1,I1,r1,q,xs,ev,hq,h64,go⟩:=zz;subst ev;obtain rfl:u=ZD q:=r1;refine ZW ?_;refine kws_cons (zih I1 hgx hmx (kws_nil ?_) hdx);show wpAny (model X.prog X.w) X.A (call (.builtin "sorted") [.ref q] [(JU "key",.ref f)]) _ _ s1;obtain⟨hz,vs,n,rv,hlv,e1⟩:=I1.lstM hq;have hv64:vs.length<=1000000:=by lia
 refine Gm kind_sorted plain_sorted entry_sorted (YW _ _) ?_;unfold Builtin.«sorted»;refine Uh (m:=checkCount "sorted" 1 1 _) (Uo ?_);refine Uh (collect_list ⟨_,e1,rfl,n,rfl⟩ ?_ (by rw[Ur];lia));refine Uh (Gg ?_);generalize eh0:(s1.heap.push (seqObj "list" #[] 0)).update s1.heap.objs.size (QS (· ++ vs.toArray))=h0;have sz0:h0.objs.size=s1.heap.objs.size+1:=by rw[<- eh0,JL,Ga]
 have k0:∀b u,s1.heap.get? b=some u->h0.get? b=some u:=λb u e=>by
  rw[<- eh0,QI _ _ _ _ (QN (Qv e))];exact Qj _ e
 have hoL:(h0.push (seqObj "list" vs.toArray 0)).get? h0.objs.size=some (seqObj "list" vs.toArray 0):=Q1 _ rfl;show wpAny (model X.prog X.w) X.A.in1 _ _ _ { s1 with heap:=h0.push (seqObj "list" vs.toArray 0) };refine Uh (U5 (wpAny_call_entry_kw slot_list_sort ⟨_,hoL,rfl⟩ entry_list_sort ?_ (YX _ _)));rw[YY];unfold YE;refine Uh (GA hoL rfl ?_);refine Uh (UV hoL rfl ?_ (by rw[Ur];simp;lia));obtain⟨ea,ho1⟩:∃ea,((h0.push (seqObj "list" vs.toArray 0)).update h0.objs.size (QS λ_=>#[])).get? h0.objs.size=some (seqObj "list" #[] ea):=⟨_,UA hoL (λ_=>#[])⟩;refine Uh (GG ho1 rfl ?_);refine Uh (wpAny_newTuple ?_);refine Uh (Gg ?_);refine U5 ?_;generalize eh2:(h0.push (seqObj "list" vs.toArray 0)).update h0.objs.size (QS λ_=>#[])=h2 at ho1;have sz2:h2.objs.size=h0.objs.size+1:=by rw[<- eh2,JL,Ga]
 have k2:∀b u,s1.heap.get? b=some u->h2.get? b=some u:=λb u e=>by
  have:=k0 b u e;rw[<- eh2,QI _ _ _ _ (QN (Qv this))];exact Qj _ this
 -- the list that is sorted,the keys' list
 generalize eq2:h0.objs.size=q2 at ho1 hoL sz2 sz0;generalize eh3:h2.push (seqObj "tuple" vs.toArray 0)=h3;have sz3:h3.objs.size=q2+2:=by rw[<- eh3,Ga,sz2]
 have k3:∀b u,h2.get? b=some u->(h3.push (seqObj "list" #[] 0)).get? b=some u:=λb u e=>by
  refine Qj _ ?_;rw[<- eh3];exact Qj _ e
 show wpAny (model X.prog X.w) X.A.in1.in1 (YF q2 (.ref f) false vs.toArray ea (.ref h3.objs.size)) _ _ { s1 with heap:=h3.push (seqObj "list" #[] 0) };have fq:FpOk X pins H1 q2:=I1.fpOk (by lia) (I1.hok.fresh (by lia));have fk:FpOk X pins H1 h3.objs.size:=I1.fpOk (by lia) (I1.hok.fresh (by lia));have hne:h3.objs.size≠q2:=by lia
 have I2:Inv X pins σ H1 { s1 with heap:=h3.push (seqObj "list" #[] 0) }:=I1.kept (t':=s1.toks) λb u e=>k3 b u (k2 b u e);have oq:=k3 _ _ ho1;have ok:(h3.push (seqObj "list" #[] 0)).get? h3.objs.size=some (seqObj "list" #[] 0):=Q1 _ rfl;generalize h3.push (seqObj "list" #[] 0)=h4 at I2 oq ok ⊢;generalize h3.objs.size=kS at fk hne ok ⊢
 refine zje (λi ks s'=>∃(H':Hp) (kvs:List V) (e:Nat),Inv X pins σ H' s'/\H' q2=none/\H' kS=none/\s'.heap.get? q2=some (seqObj "list" #[] ea)/\s'.heap.get? kS=some (seqObj "list" ks.toArray e)/\Vals kvs ks /\
  zfb sp (λks H2=>∃(α:Type) (blt:α->α->Bool) (k:Nat->α),KeysV X.K H2 ks α blt k/\∀ix l,Ord blt k xs.length ix->H2 l=none->Q (.ref l) (upd H2 l (.lst (zcq .non xs ix)))) (xs.drop i) kvs H') hv64
  ⟨H1,[],0,I2,fq.1,fk.1,oq,ok,.nil,go⟩ (λi x ks s' hx hk ⟨H',kvs,e,I',n1,n2,o1,o2,rk,g⟩=>?_) λks s' hl ⟨H',kvs,e,I',n1,n2,o1,o2,rk,g⟩=>?_
 .have hi:i<vs.length:=(Qk.mp hx).1;have hi':i<xs.length:=by lia
  obtain⟨u,hu,ru⟩:=Vals.get rv (Qb hi');rw[hx] at hu;cases hu;rw[QJ hi'] at g
  have I3:Inv X (pins ++ [(q2,seqObj "list" #[] ea),(kS,seqObj "list" ks.toArray e)]) σ H' s':=I'.pins_of λp hp=>by
   rcases Qu.mp hp with hp|hp
   .exact I'.pin p (Qw _ hp)
   .rcases Q0.mp hp with rfl|hp
    .exact⟨o1,n1,fq.2.1,fq.2.2.1,λv z=>by cases z⟩
    .rw[Qn.mp hp];exact⟨o2,n2,fk.2.1,fk.2.2.1,λv z=>by cases z⟩
  refine Uv (zu4 F hr hb I3 (.cons ru .nil) g) (λkv s2 zz=>?_) λ_ _ z=>z;obtain⟨v,H'',I4,r4,g4⟩:=zz;have p1:=I4.pin (q2,seqObj "list" #[] ea) (by simp);have p2:=I4.pin (kS,seqObj "list" ks.toArray e) (by simp);have I5:Inv X pins σ H'' s2:=I4.pins_of λp hp=>I4.pin p (by simp[hp])
  obtain⟨e',eu⟩:∃e',(s2.heap.update kS (QS (·.push kv))).get? kS=some (seqObj "list" (ks ++ [kv]).toArray e'):=by
   have z:=UA p2.1 (λxs=>xs.push kv);have z2:ks.toArray.push kv=(ks ++ [kv]).toArray:=by simp
   exact⟨_,z.trans (GV (λa=>some (seqObj "list" a _)) z2)⟩
  refine⟨⟨e,p2.1⟩,H'',kvs ++ [v],e',I5.turned (it:=kS) (t':=s2.toks) (λb o hb z=>by rw[QI _ _ _ _ hb];exact z) p2.2.1 fk.2.1 fk.2.2.2.1 fk.2.2.2.2.1 fk.2.2.2.2.2,p1.2.1,p2.2.1,?_,eu,Vals.append rk (.cons r4 .nil),g4⟩;show(s2.heap.update kS _).get? q2=_;rw[QI _ _ _ _ (Zr hne)];exact p1.1
 .rw[<- hlv,Zx (Qg _)] at g;obtain⟨α,blt,k,kv,q⟩:=g;refine⟨α,blt,k,e,o2,o1,hne,zls I' kv rk hl,λix o=>⟨_,rfl,Uo ⟨_,rfl,?_⟩⟩⟩;have IA:=I'.turned (it:=kS) (t':=s'.toks) (h':=s'.heap.update kS (QS λ_=>#[])) (λb o hb z=>by rw[QI _ _ _ _ hb];exact z) n2 fk.2.1 fk.2.2.2.1 fk.2.2.2.2.1 fk.2.2.2.2.2
  have oA:(s'.heap.update kS (QS λ_=>#[])).get? q2=some (seqObj "list" #[] ea):=by
   rw[QI _ _ _ _ (Zr hne)];exact o1
  refine⟨.ref q2,upd H' q2 (.lst (zcq .non xs ix)),IA.adopt (t':=s'.toks) ⟨n1,fq.2⟩ (λb u hb z=>by rw[QI _ _ _ _ hb];exact z) ?_,rfl,q ix q2 (by rw[hlv];exact o) n1⟩;refine⟨by unfold zcq;rw[Qe,Z1];exact hz,zcb vs ix,_,Vals.pick rv o.bj,UA oA _⟩
end
end L6
namespace L3
open PySem PySem.Spec
open PyProof.Rows hiding St
open L2 L6
section
variable {K:Qa}{O:Ob}
def zge(F:List Ug->(R->Prop)->Prop)(f:DE):DE:=λρ Q=>f ρ λr=>∃(ds:List Ug) (kf:Ug->Int×Str),r.d = .list ds/\ds.length<=1000000/\(∀d∈ds,F [d] λr=>r.d = .tuple [.int (kf d).1,.str (kf d).2])/\Q (.n (zc5 kf ds))
theorem zp0(hφ:φ O)(h:ED K O te f):ED K O (ziz K (spO K φ 1 F) te) (zge F f):=λσ H ρ Q Qd S hf k=>by
 refine h σ H ρ _ _ S hf λv H1 r s1 o1 zz=>?_;obtain⟨ds,kf,e,hl,hF,q⟩:=zz;have i:=o1.is S.ok S.p;have p1:=s1.p S.p;rw[e] at i
 cases i with
 | list f1 a1 b1=>
   rename_i a xs
   have hlx:=b1.length;refine⟨a,xs,rfl,a1,by rw[hlx];exact hl,?_⟩;refine zqx (kf:=kf) S.ok hφ ds xs [] [] H1 p1 b1 ⟨rfl,λi v p e1 _=>by simp at e1⟩ hF λks H2 st2 hk=>?_;refine⟨_,_,_,.pair (ds.map kf) ks hk.1 hk.2,λix l od hn=>?_⟩;have isAll2:IsAll K (unM O) H2 xs ds:=b1.stp st2 (λ_ f=>f) (λ_ f=>f);have hb:∀i,i<xs.length->ix i<ds.length:=λi hi=>by rw[<- hlx];exact od.bj.lt i hi
   have pk:=zh2 isAll2 (n:=xs.length) hb
   have es:((Q7 xs.length).map λi=>ds.getD (ix i) .none)=zc5 kf ds:=by
    have up:Up plt (λi=>kfl kf (ds.getD i .none)) ix xs.length:=by
     intro i j hij hj;have:=od.up i j hij hj;have h1:=hb i (by lia);have h2:=hb j hj
     have key:∀m,m<ds.length->kfl kf (ds.getD m .none)=(((ds.map kf).getD m (0,Z2)).1,((ds.map kf).getD m (0,Z2)).2.cps.toList):=λm hm=>by
      simp[kfl,Qs,hm]
     unfold Rk at this ⊢;dsimp only at this ⊢;rw[key _ h1,key _ h2];exact this
    have:=zg7 (key:=kfl kf) (g:=λi=>ds.getD i .none) zmc up od.bj;rw[this];unfold zc5
    congr 1
    rw[hlx];refine Zw λi=>?_
    by_cases hi:i<ds.length
    .simp[hi]
    .rw[Qz (by simp;lia),Qz (by lia)]
   have e2:zcq .non xs ix=(Q7 xs.length).map λi=>xs.getD (ix i) .non:=rfl;rw[es] at pk;obtain⟨c1,c2⟩:=zce (K:=K) S.ok hn pk;exact k _ _ _ ((s1.trans st2).trans c1) (c2.ahead S.ok S.p (s1.trans st2)) q
end
theorem zth{ι κ:Type}{P:Um}{w:Uq}{K:Qa}{mg:Str->Option Uf}{base:Heap}{k:Nat}{X:ι->Cx}{O:κ->Ob}{a:Expr}{fa:DE}{pos p px kp:Pos}{k':Nat}{x y:Str}{φ:Ob->Prop}{F:List Ug->(R->Prop)->Prop}(C:Ctx3 P w K mg base k X)(B:Blt mg)(D:Def3 P w K mg base k' x [y] (spO K φ 1 F))(hφ:∀j,φ (O j))(ha:E3 K X O a fa)(hk:k'+1<=k:=by decide)
 (hg:∀i,Gl (X i) "sorted" := by intro i;rfl) (hgx:∀i,Gl (X i) x:=by intro i;rfl) (hdx:(x == ("__debug__" : Str))=false:=by decide) (hs:∀i,Ul [a] (X i).env = [(false,eval a (X i).env)]:=by intro i;rfl) :
 E3 K X O (.Call (.Name "sorted" p) [a] [⟨some "key",.Name x px,kp⟩] pos) (zge F fa):=by
 obtain⟨f,fd,G,m,kp',bn⟩:=D.ex;obtain⟨t,q,d⟩:=ha;refine⟨ziz K (spO K φ 1 F) t,λi=>?_,λj=>zp0 (hφ j) (d j)⟩;obtain⟨j,rfl⟩:∃j,k=j+1:=⟨k-1,by lia⟩;have G':=G.mono (show k'<=j by lia);have h:=zq9 (X:=X i) (k:=j) (f:=f) (fd:=fd) (y:=y) (x:=x) (sp:=spO K φ 1 F) (ta:=t) (a:=a) (p:=p) (px:=px) (kp:=kp) (pos:=pos) (by rw[C.hP,C.hw,C.hK,C.hmg,C.hb];exact G') (C.room i) (by rw[C.hK];exact bn) (hg i) (by rw[C.hmg];exact B.sorted) (hgx i) (by rw[C.hmg];exact m) (q i) hdx (hs i);rw[C.hK] at h;exact h
theorem zch{β:Type}{l:List β}{i:Nat}{x:β}(h:l[i]? = some x):l.take (i+1)=l.take i ++ [x]:=by rw[Vs,h];rfl
abbrev Ws:=List (List (List Nat))
def Ws.at_(ws:Ws)(n:Nat):List (List Nat):=ws.getD n []
def tot(ws:Ws):Nat:=(ws.map J4).sum
def wD1(l:List (List Nat)):Ug:=.list (l.map λw=>.str (tx w))
def wsD(ws:Ws):Ug:=.list (ws.map wD1)
theorem zei{ws:Ws}{n:Nat}(h:n<ws.length):ws[n]? = some (ws.at_ n):=by
 unfold Ws.at_;rw[Qs,Qb h];rfl
theorem zh9{n:Nat}(h:n<ws.length):idxF (wsD ws) (.int (n:Nat))=some (.o (wD1 (ws.at_ n))):=znl (by rw[Qm,zei h];rfl)
section
variable {K:Qa}{O:Ob}
def imJ(i:Nat)(fk:DE):DJ:=λρ Q=>∃ds,ρ[i]? = some (some (.im (.list ds)))/\fk ρ λr=>∃(k:Nat) (es:List Ug),r.d = .int (k:Nat)/\ds[k]? = some (.list es)/\Q es
theorem zwj{i:Nat}(hk:ED K O tk fk):SrcR K O (zb2 K (tOp (rIx K) (tVar i) tk)) (imJ i fk):=λH₀ A σ H ρ R Qd r q kk=>by
 obtain⟨ds,e,q⟩:=q;obtain⟨v,hv,z⟩:=r.at_ i _ e;refine⟨v,hv,?_⟩;refine hk σ H ρ _ _ r.seen q λy H1 r1 s1 o1 zz=>?_;obtain⟨k,es,er,ek,q1⟩:=zz;have iy:=o1.is r.ok r.p;rw[er] at iy;cases iy;have oo:Is K (unO O A) H1 v (.list ds):=Is.stp s1 (λ_ z=>z) (λ_ z=>z.1) z
 cases oo with
 | @list a xs _ fa ha hs0=>
   obtain⟨u,g1,g2⟩:=hs0.get ek
   cases g2 with
   | @list b ys _ fb qb rb=>
     have ln:k<xs.length:=(Qk.mp g1).1;refine .inl ⟨a,xs,_,_,rfl,rfl,.of ha,?_,b,rfl,⟨ys,.of qb⟩,?_⟩
     .unfold atI;rw[show ixN xs.length (k:Int)=some k by unfold ixN;rw[GO (by lia),GO (by lia)];rfl];exact g1
     .have hs:IsAll K (unM O) H1 ys es:=rb.weak λb u=>u.1;refine kk (Itl K b) H1 es (λc=>c=b) ⟨s1,λc hc=>by subst hc;exact⟨fb.1,_,qb⟩,λH2 j kb _ hj=>?_,λH2 j d kb t2 hd c=>?_⟩ (λc hc=>by subst hc;exact fb) q1
      .exact⟨ys,.of (kb b _ rfl qb),by rw[hs.length];exact hj⟩
      .obtain⟨w,hw',iw⟩:=zgh (O:=O) hs hd t2 c;have q2:SqL K H2 b ys:=.of (kb b _ rfl qb);refine⟨⟨ys,w,q2,hw'⟩,λx H3 zz=>?_⟩;obtain⟨e3,y⟩:=zz;subst e3;have:=y ys q2;rw[hw'] at this;cases this;exact⟨Same.refl _,iw⟩
end
section
variable {ι κ:Type}{P:Um}{w:Uq}{K:Qa}{mg:Str->Option Uf}{base:Heap}{k:Nat}{X:ι->Cx}{O:κ->Ob}{pos px p1:Pos}{x:Str}{c a b tg:Expr}{fb:DE}{fc:DT}
theorem zzl(n:Nat)(C:Ctx3 P w K mg base k X)(hc:T3 K X O c fc)(hb:E3 K X O b fb)(ha:E3 K X O a f1)(hN:∀i,(X i).N[n]? = some x:=by intro i;rfl)(hv:∀i,Vis (X i).env.scope x:=by intro i;first|exact Or.inl rfl|exact Or.inr (Or.inl rfl)|exact Or.inr (Or.inr rfl))
 (hd:(x == ("__debug__" : Str))=false:=by decide) (hcd:(x == ("__classdict__" : Str))=false:=by decide) (hs:zep b:=by intro _ _;rfl):J3 K X O tg (.IfExp c (.Subscript (.Name x px) b p1) a pos) (ifJ fc (imJ n fb) (newJ (srcL f1))) :=
 let ⟨tc,q,d⟩:=hc;let ⟨t1,q1,d1⟩:=ha;let ⟨t2,q2,d2⟩:=hb
 ⟨zb2 K (tIf tc (tOp (rIx K) (tVar n) t2) t1),λi=>by
  have z:=zkt (pos:=p1) (zhf (X:=X i)) (zaf (pos:=px) (hN i) (hv i) hd hcd) (q2 i) hs;rw[C.hK] at z;have h:=zdn (tg:=tg) (zlc (pos:=pos) (q i) z (q1 i));rw[C.hK] at h
  exact h,λj=>zuy (d j) (zwj (d2 j)) (znp (zmb (d1 j)))⟩
end
theorem zk5{α:Type}{P:α->Prop}{xs:List α}{a:α}(h:∀x∈xs,P x)(ha:P a):∀x∈xs ++ [a],P x:=λx hx=>by
 rcases Qu.mp hx with hx|hx
 .exact h x hx
 .rw[Qn.mp hx];exact ha
end L3
namespace L3
open PySem PySem.Spec
open PyProof.Rows hiding St
open L2 L6 HK
def zfc:List Ug->(R->Prop)->Prop:=λds Q=>∃(ws:List (List Nat)) (w:List Nat),ds = [.list (ws.map tS),tS w]/\(∀v∈ws,Sml v)/\Sml w/\Q (.o (.bool (ws.any λv=>under v w)))
theorem zgw{kept:List (List Nat)}:∀{ws:List (List Nat)} (w),w∈ws.foldl zan kept->w∈kept\/w∈ws
 | [],w,h=>.inl h
 | v::ws,w,h=>by
   rcases zgw (kept:=zan kept v) (ws:=ws) w h with h|h
   .unfold zan at h
    split at h
    .exact .inl h
    .rcases Qu.mp h with h|h
     .exact .inl h
     .rw[Qn.mp h];exact .inr (by simp)
   .exact .inr (Qc _ h)
theorem zgr{kept:List (List Nat)}:∀{ws:List (List Nat)},(ws.foldl zan kept).length<=kept.length+ws.length
 | []=>Qg _
 | v::ws=>by
   have:=zgr (kept:=zan kept v) (ws:=ws)
   have h2:(zan kept v).length<=kept.length+1:=by
    unfold zan
    split
    .lia
    .rw[Qf,ZC];exact Qg _
   rw[JP,Qi];lia
section
variable {K:Qa}{O:Ob}
theorem zul{n k:Nat}(h:k<n):ixN n (k:Int)=some k:=by
 unfold ixN;simp;lia
end
mutual
def solL:Ug->Bool
 | .none=>true
 | .int _=>true
 | .str _=>true
 | .tuple ds=>zd8 ds
 | .list ds=>zd8 ds
 | _=>false
def zd8:List Ug->Bool
 | []=>true
 | d::ds=>solL d && zd8 ds
end
mutual
theorem zl1:∀d e:Ug,solL d=true->solL e=true->(QH d e=true↔d=e)
 | .none,e,_,h=>by cases e <;> simp[QH,solL] at *
 | .int i,e,_,h=>by cases e <;> simp[QH,solL] at *
 | .str x,e,_,h=>by cases e <;> simp[QH,solL] at *
 | .tuple ds,e,h0,h=>by
   cases e with
   | tuple es=>
     have:=zfi ds es (by simpa[solL] using h0) (by simpa[solL] using h);simp only[QH];rw[this];exact⟨λz=>by rw[z],λz=>by cases z;rfl⟩
   | none=>simp[QH]
   | int _=>simp[QH]
   | str _=>simp[QH]
   | bool _=>simp[solL] at h
   | list _=>simp[QH]
   | dict _=>simp[solL] at h
 | .list ds,e,h0,h=>by
   cases e with
   | list es=>
     have:=zfi ds es (by simpa[solL] using h0) (by simpa[solL] using h);simp only[QH];rw[this];exact⟨λz=>by rw[z],λz=>by cases z;rfl⟩
   | none=>simp[QH]
   | int _=>simp[QH]
   | str _=>simp[QH]
   | bool _=>simp[solL] at h
   | tuple _=>simp[QH]
   | dict _=>simp[solL] at h
 | .bool _,_,h,_=>by simp[solL] at h
 | .dict _,_,h,_=>by simp[solL] at h
theorem zfi:∀ds es:List Ug,zd8 ds=true->zd8 es=true->(ZH ds es=true↔ds=es)
 | [],[],_,_=>by simp[ZH]
 | [],_::_,_,_=>by simp[ZH]
 | _::_,[],_,_=>by simp[ZH]
 | d::ds,e::es,h,h'=>by
   simp only[zd8,QR] at h h';simp only[ZH,QR];rw[zl1 d e h.1 h'.1,zfi ds es h.2 h'.2];simp
end
structure Sl(n:Nat)(d:Ug):Prop where
 lay:d.canLay0=true
 dep:d.depth<=n
 sol:solL d=true
theorem zpt:Sl 0 .none:=⟨rfl,Qg _,rfl⟩
theorem zxw(h:Ji x=true):Sl 0 (.str x):=⟨h,Qg _,rfl⟩
theorem zjx{α:Type}{f:α->Ug}:∀{l:List α},(∀a∈l,solL (f a)=true)->zd8 (l.map f)=true
 | [],_=>rfl
 | a::l,h=>by rw[QL,zd8,h a Ql,zjx λx hx=>h x (Qc _ hx)];rfl
theorem zpw{α:Type}{f:α->Ug}{l:List α}{n:Nat}(h:∀a∈l,Sl n (f a)):Sl (n+1) (.tuple (l.map f)):=by
 refine⟨zde λa ha=>(h a ha).lay,?_,?_⟩
 .rw[JW];have:=zdv (f:=f) (n:=n) (l:=l) λa ha=>(h a ha).dep;lia
 .rw[solL];exact zjx λa ha=>(h a ha).sol
theorem Sl.list{n:Nat}(h:Sl n (.tuple ds)):Sl n (.list ds):=by
 obtain⟨a,b,c⟩:=h;exact⟨by simpa[YJ] using a,by simpa[JW] using b,by simpa[solL] using c⟩
theorem Sl.okD{n:Nat}{d:Ug}(h:Sl n d)(hn:n<=60:=by decide):L3.okD d=true:=by
 unfold L3.okD;rw[h.lay];have:=h.dep;simp;lia
theorem zkd{n n':Nat}{neg:Bool}{d:Ug}(h:Sl n d)(h':Sl n' e)(hn:n<=60:=by decide){q:Bool}(hq:q=true↔d=e):eqF neg d e=some (.o (.bool (if neg then !q else q))):=by
 unfold eqF;rw[GO (by rw[h.okD hn,h'.lay];rfl)]
 have e1:QH d e=q:=by
  have:=(zl1 d e h.sol h'.sol).trans hq.symm;cases h1:QH d e <;> cases q <;> simp_all
 rw[e1]
theorem iteB{b:Bool}{A B:Prop}(ht:b=true->A)(hf:b=false->B):if b=true then A else B:=by
 cases b with
 | true=>exact iteT (ht rfl)
 | false=>exact iteF (hf rfl)
theorem eqI{i j:Int}:eqF false (.int i) (.int j)=some (.o (.bool (decide (i=j)))):=by rw[znw,GP Q3]
theorem dr{m:Int}{P:Int->Prop}(h0:0<m)(h1:m<1073741824)(q:∀k:Nat,(k:Int)<m->P (k:Int)):0<m/\m<1073741824/\∀k:Int,0<=k->k<m->P k :=
 ⟨h0,h1,λk k0 k1=>by obtain⟨n,rfl⟩:=Int.eq_ofNat_of_zero_le k0;exact q n k1⟩
inductive GThg where
 | nm (i:Int)
 | lt (w:List Nat)
def za6:GThg->Ug
 | .nm i=>.int i
 | .lt w=>.str (tx w)
structure RuG where
 n:Int
 b:List GThg
def zeb(r:RuG):Ug:=.tuple [.int r.n,.tuple (r.b.map za6)]
structure GraZ where
 n:Int
 rs:List RuG
def za8(g:GraZ):Ug:=.tuple [.int g.n,.tuple (g.rs.map zeb)]
def GThg.isN:GThg->Bool
 | .nm _=>true
 | .lt _=>false
theorem zvs(t:GThg):flat (za6 t)=true:=by cases t <;> rfl
theorem zf6(r:RuG):flat (zeb r)=true:=by
 show(true && (flats (r.b.map za6) && true))=true;rw[za1 zvs];rfl
theorem zm5(g:GraZ):flat (za8 g)=true:=by
 show(true && (flats (g.rs.map zeb) && true))=true;rw[za1 zf6];rfl
def zfv(ls:List Nat)(n:Nat):GThg->Prop
 | .nm i=>0<=i/\i<n
 | .lt w=>∃c∈ls,w = [c]
def zk7(m:Nat):List Ug->(R->Prop)->Prop:=λds Q=>∃ls:List Nat,ds = [.list (ls.map λc=>.str (sg c))]/\1<=ls.length/\ls.length<=26/\(∀c∈ls,zd4 c) /\
 ∀g:GraZ,1<=g.n->g.n<=3->g.rs.length<m->(∀r∈g.rs,0<=r.n/\r.n<g.n/\r.b.length<=3/\(r.b.filter GThg.isN).length<=2/\∀t∈r.b,zfv ls g.n.toNat t)->Q (.o (za8 g))
def nmI:GThg->Int
 | .nm i=>i
 | .lt _=>0
def nms(b:List GThg):List Int:=(b.filter GThg.isN).map nmI
inductive Bd(g:GraZ):List GThg->List Nat->Prop
 | nil:Bd g [] []
 | lt {u v:List Nat} {b:List GThg} (h:Bd g b v):Bd g (.lt u::b) (u++v)
 | nm {i:Int} {u v:List Nat} {b:List GThg} (r:RuG) (hr:r∈g.rs) (hn:r.n=i) (hu:Bd g r.b u) (h:Bd g b v):Bd g (.nm i::b) (u++v)
def Wd(g:GraZ)(i:Int)(w:List Nat):Prop:=∃r∈g.rs,r.n=i/\Bd g r.b w
inductive Of(F:Int->List Nat->Prop):List GThg->List Nat->Prop
 | nil:Of F [] []
 | lt {u v:List Nat} {b:List GThg} (h:Of F b v):Of F (.lt u::b) (u++v)
 | nm {i:Int} {u v:List Nat} {b:List GThg} (hu:F i u) (h:Of F b v):Of F (.nm i::b) (u++v)
theorem Of.mono(h:∀i w,F i w->G i w)(o:Of F b w):Of G b w:=by
 induction o with
 | nil=>exact .nil
 | lt _ ih=>exact .lt ih
 | nm hu _ ih=>exact .nm (h _ _ hu) ih
def zas(ws:Ws):GThg->List (List Nat)
 | .nm i=>ws.at_ i.toNat
 | .lt u=>[u]
def lgrW(bs es:List (List Nat)):List (List Nat):=es.flatMap λe=>bs.map (· ++ e)
def zay(kf:List (List Nat)->List (List Nat))(ws:Ws)(b:List GThg):List (List Nat):=b.foldl (λbs t=>kf (lgrW bs (zas ws t))) [[]]
def zbe(kf:List (List Nat)->List (List Nat))(ws:Ws)(rs:List RuG)(i:Nat):List (List Nat):=(rs.filter λr=>decide (r.n=(i:Int))).flatMap λr=>zay kf ws r.b
def zed(kf:List (List Nat)->List (List Nat))(g:GraZ)(ws:Ws):Ws:=(Q7 g.n.toNat).map λi=>kf (zbe kf ws g.rs i)
def itW(kf:List (List Nat)->List (List Nat))(g:GraZ):Nat->Ws
 | 0=>Qp g.n.toNat []
 | k+1=>zed kf g (itW kf g k)
def TOk(w:List Nat):Prop:=w.length<=1000/\∀c∈w,c<1000
def LOk(l:List (List Nat)):Prop:=l.length<=1000/\∀w∈l,TOk w
def ThW(ws:Ws):GThg->Prop
 | .nm i=>0<=i/\i.toNat<ws.length
 | .lt u=>TOk u
def KOk(F:List DV->(R->Prop)->Prop)(fs:List Ug)(kf:List (List Nat)->List (List Nat))(Dm:List (List Nat)->Prop):Prop:=∀l,Dm l->∀Q:R->Prop,Q (.n ((kf l).map tS))->F ([.im (.list (l.map tS))]++fs.map .im) Q
structure BdyOk(kf:List (List Nat)->List (List Nat))(Dm:List (List Nat)->Prop)(ws:Ws)(b:List GThg):Prop where
 th:∀t∈b,ThW ws t
 sz:∀i,LOk (ws.at_ i)
 bg:∀j,LOk (zay kf ws (b.take j))
 dm:∀(j:Nat) t,b[j]? = some t->Dm (lgrW (zay kf ws (b.take j)) (zas ws t))
structure TurnW(kf:List (List Nat)->List (List Nat))(Dm:List (List Nat)->Prop)(g:GraZ)(ws:Ws):Prop where
 len:ws.length=g.n.toNat
 bd:∀r∈g.rs,BdyOk kf Dm ws r.b
 sz:∀i,LOk (ws.at_ i)
 md:∀i,i<g.n.toNat->Dm (zbe kf ws g.rs i)
structure GrOk(g:GraZ):Prop where
 n0:0<=g.n
 n3:g.n<=100
 many:g.rs.length<=100
 nm:∀r∈g.rs,0<=r.n/\r.n<g.n
section
variable (P:Um)(w:Uq)(mg:Str->Option Uf)(base:Heap)(kk:Nat)
def zdf(F:List DV->(R->Prop)->Prop)(fs:List Ug):Thg:=zhw P w mg base kk 1 (λK=>spG K (λ_=>True) (1+fs.length) F) fs
def wobF:List DV->(R->Prop)->Prop:=λrs Q=>∃(ws:Ws) (b:List GThg) (F:List DV->(R->Prop)->Prop) (fs:List Ug) (kf:List (List Nat)->List (List Nat)) (Dm:List (List Nat)->Prop),rs = [.im (.tuple (b.map za6)),.im (wsD ws),.thr (zdf P w mg base kk F fs)]/\KOk F fs kf Dm/\BdyOk kf Dm ws b/\Q (.n ((zay kf ws b).map tS))
def wbrF:List DV->(Ug->Prop)->Prop:=λrs Q=>∃(g:GraZ) (F:List DV->(R->Prop)->Prop) (fs:List Ug) (kf:List (List Nat)->List (List Nat)) (Dm:List (List Nat)->Prop) (N:Nat),rs = [.im (za8 g),.thr (zdf P w mg base kk F fs)]/\GrOk g/\KOk F fs kf Dm/\(∀k,k<=N->TurnW kf Dm g (itW kf g k))/\itW kf g (N+1)=itW kf g N/\Q (wsD (itW kf g N))
end
theorem zov{kf:List (List Nat)->List (List Nat)}{ws:Ws}{b:List GThg}{j:Nat}{t:GThg}(h:b[j]? = some t):zay kf ws (b.take (j+1))=kf (lgrW (zay kf ws (b.take j)) (zas ws t)):=by
 have e:b.take (j+1)=b.take j ++ [t]:=by
  obtain⟨h1,h2⟩:=Qk.mp h;rw[Zh h1,h2]
 unfold zay;rw[e,ZL];rfl
theorem zri{bs es:List (List Nat)}{k:Nat}{e:List Nat}(h:es[k]? = some e):lgrW bs (es.take (k+1))=lgrW bs (es.take k)++bs.map (· ++ e):=by
 have e':es.take (k+1)=es.take k ++ [e]:=by
  obtain⟨h1,h2⟩:=Qk.mp h;rw[Zh h1,h2]
 unfold lgrW;rw[e',JS,ZZ,VA,Qx]
theorem zg0(bs es:List (List Nat)):(lgrW bs es).length=es.length * bs.length:=by
 unfold lgrW
 induction es with
 | nil=>simp
 | cons e es ih=>rw[ZZ,Qf,Qe,ih,Qi,J8];lia
theorem zhj{ws:Ws}{n:Nat}(h:n<ws.length):(ws.map wD1)[n]? = some (.list ((ws.at_ n).map tS)):=by
 rw[Qm,zei h];rfl
theorem zr5(ok:BdyOk kf Dm ws b)(h:t∈b):LOk (zas ws t):=by
 cases t with
 | nm i=>exact ok.sz _
 | lt u=>exact⟨by simp[zas],λw hw=>by rw[Qn.mp hw];exact ok.th _ h⟩
theorem zy5(h:wD1 a=wD1 b):a=b:=by
 unfold wD1 at h;injection h with h;exact Vn (λv w e=>zxc e) |>.mp h
theorem zrj(h:wsD a=wsD b):a=b:=by
 unfold wsD at h;injection h with h;exact Vn (λv w e=>zy5 e) |>.mp h
theorem zgb(h:∀l∈ws,LOk l):Sl 2 (wsD ws) :=
 (zpw (f:=wD1) λl hl=>(zpw (f:=tS) λv hv=>zxw (x:=tx v) (by
  rw[strOk_iff];intro c hc;rw[zbs] at hc;have:=((h l hl).2 v hv).2 c hc
  lia)).list).list
theorem zrb{ws:Ws}{l:List (List Nat)}(h:l∈ws):∃i,ws.at_ i=l:=by
 obtain⟨i,hi,e⟩:=ZM h;refine⟨i,?_⟩;unfold Ws.at_;rw[Qs,Qb hi,e];rfl
theorem zeh(kf:List (List Nat)->List (List Nat))(g:GraZ):∀k,(itW kf g k).length=g.n.toNat
 | 0=>by simp[itW]
 | k+1=>by simp[itW,zed]
theorem zys{i:Nat}(h:itW kf g (i+1)=itW kf g i):∀j,i<=j->itW kf g j=itW kf g i:=by
 intro j hj
 induction j with
 | zero=>rw[show i=0 by lia]
 | succ j ih=>
   by_cases e:i=j+1
   .rw[e]
   .have:=ih (by lia);show zed kf g (itW kf g j)=_;rw[this];exact h
def prvD(kf:List (List Nat)->List (List Nat))(g:GraZ):Nat->Ug
 | 0=>.none
 | j+1=>wsD (itW kf g j)
def mdW(kf:List (List Nat)->List (List Nat))(ws:Ws)(n:Nat)(rs:List RuG):Ws:=(Q7 n).map λi=>zbe kf ws rs i
theorem zqs{n:Nat}{i:Nat}(h:i<n):(mdW kf ws n rs).at_ i=zbe kf ws rs i:=by
 unfold mdW Ws.at_;rw[Qs,Qm,Zk h];rfl
theorem zs7{kf:List (List Nat)->List (List Nat)}{ws:Ws}{n j:Nat}{rs:List RuG}{r:RuG}(h:rs[j]? = some r)(h0:0<=r.n):mdW kf ws n (rs.take (j+1))=(mdW kf ws n (rs.take j)).set r.n.toNat ((mdW kf ws n (rs.take j)).at_ r.n.toNat++zay kf ws r.b):=by
 have e:rs.take (j+1)=rs.take j ++ [r]:=by
  obtain⟨h1,h2⟩:=Qk.mp h;rw[Zh h1,h2]
 apply Zw;intro i
 by_cases hi:i<n
 .have l1:(mdW kf ws n (rs.take j)).length=n:=by simp[mdW]
  have m1:zbe kf ws (rs.take (j+1)) i=zbe kf ws (rs.take j) i++(if r.n=(i:Int) then zay kf ws r.b else[]):=by
   unfold zbe;rw[e,ZS,JS]
   by_cases c:r.n=(i:Int)
   .simp[c]
   .simp[c]
  have g1:∀rs',(mdW kf ws n rs')[i]? = some (zbe kf ws rs' i):=λrs'=>by unfold mdW;rw[Qm,Zk hi];rfl
  rw[g1,m1]
  by_cases c:r.n.toNat=i
  .subst c;rw[Q4 (by rw[l1];exact hi),zqs hi,GO (by lia)]
  .rw[QC c,g1,GP (by lia),Qx]
 .rw[Qz (by simp[mdW];lia),Qz (by simp[mdW];lia)]
theorem zno{α:Type}{enc e:α->Ug}{i h:Nat}{as:List α}(step:∀a∈as,∀P:Ug->Prop,P (e a)->fo ((Qp h none++ρ).set i (some (.im (enc a)))) P)(hz:as.length<=10000)(q:Q (.list (as.map e))):goOw h (gN i) fo ρ Q (as.map enc) []:=by
 have sz:=Ur
 have key:∀(l:List α) (acc:List Ug),(∀a∈l,a∈as)->acc.length+l.length=as.length->(acc++l.map e=as.map e)->goOw h (gN i) fo ρ Q (l.map enc) acc:=by
  intro l
  induction l with
  | nil=>intro acc _ _ h;rw[Yx,Qx] at h;show Q (.list acc);rw[h];exact q
  | cons a l ih=>
    intro acc hm hl he;refine step a (hm a Ql) _ ⟨by rw[Qi] at hl;lia,?_⟩;exact ih _ (λx hx=>hm x (Qc _ hx)) (by rw[Qf,ZC];rw[Qi] at hl;lia) (by rw[Qo];exact he)
 exact key as [] (λ_ h=>h) (by simp) rfl
theorem zus: zed kf g ws=(mdW kf ws g.n.toNat g.rs).map kf:=by
 unfold zed mdW;rw[ZG];rfl
theorem zxi{n:Nat}(h:l∈mdW kf ws n rs):∃i,i<n/\l=zbe kf ws rs i:=by
 obtain⟨i,hi,rfl⟩:=QD.mp h;exact⟨i,Z4.mp hi,rfl⟩
theorem zr3{k:Nat}(h:k<ws.length):dset (wsD ws) [k] (.list (es.map tS))=wsD (ws.set k es):=by
 unfold wsD;rw[dset,zhj h];show JO ((ws.map wD1).set k (.list (es.map tS))) = .list ((ws.set k es).map wD1);rw[List.map_set];rfl
theorem zme(ok:BdyOk kf Dm ws b):LOk (zay kf ws b):=by
 have:=ok.bg b.length;rw[QT] at this;exact this
theorem zlv{i:Nat}:∀{rs:List RuG},(∀r∈rs,(zay kf ws r.b).length<=1000)->(zbe kf ws rs i).length<=rs.length * 1000
 | [],_=>by simp[zbe]
 | r::rs,h=>by
   have ih:=zlv (i:=i) (rs:=rs) λx hx=>h x (Qc _ hx);have h1:=h r Ql;unfold zbe at ih ⊢;rw[Zs]
   split
   .rw[ZZ,Qf,Qi];lia
   .rw[Qi];lia
def ThA(al:List Nat)(n:Int):GThg->Prop
 | .nm i=>0<=i/\i<n
 | .lt u=>∃c∈al,u = [c]
structure GAl(g:GraZ)(al:List Nat):Prop where
 n1:1<=g.n
 n3:g.n<=3
 many:g.rs.length<=6
 al3:al.length<=3
 low:∀c∈al,zd4 c
 each:∀r∈g.rs,(0<=r.n/\r.n<g.n)/\r.b.length<=3/\∀t∈r.b,ThA al g.n t
theorem GAl.gr(h:GAl g al):GrOk g:=⟨by have:=h.n1;lia,by have:=h.n3;lia,by have:=h.many;lia,λr hr=>(h.each r hr).1⟩
section
variable {g:GraZ}{al:List Nat}{m:Nat}{ws:Ws}
theorem z0u(ga:GAl g al)(hr:r∈g.rs):r.n.toNat<g.n.toNat:=by have:=(ga.each r hr).1;lia
end
theorem mem_made{i:Nat}: w∈zbe kf ws rs i↔∃r∈rs,r.n=(i:Int)/\w∈zay kf ws r.b:=by
 unfold zbe;rw[Zy];constructor
 .rintro⟨r,hr,hw⟩;obtain⟨h1,h2⟩:=Z6.mp hr;exact⟨r,h1,GQ h2,hw⟩
 .rintro⟨r,hr,e,hw⟩;exact⟨r,Z6.mpr ⟨hr,GU e⟩,hw⟩
theorem zwn{i:Nat}:(zed kf g ws).at_ i=if i<g.n.toNat then kf (zbe kf ws g.rs i) else[]:=by
 unfold zed Ws.at_;rw[Qs,Qm]
 by_cases h:i<g.n.toNat
 .rw[Zk h,GO h];rfl
 .rw[Qz (by simp;lia),GP h];rfl
section
variable {g:GraZ}{al:List Nat}{m:Nat}{ws:Ws}
theorem zps:∀{a b:Ws},a.length=b.length->(∀i,(a.at_ i).length<=(b.at_ i).length)->L3.tot a<=L3.tot b/\(L3.tot a=L3.tot b->∀i,(a.at_ i).length=(b.at_ i).length)
 | [],[],_,_=>⟨Qg _,λ_ _=>rfl⟩
 | [],_::_,h,_=>by simp at h
 | _::_,[],h,_=>by simp at h
 | x::a,y::b,h,p=>by
   have h0:x.length<=y.length:=p 0;obtain⟨i1,i2⟩:=zps (a:=a) (b:=b) (by simpa using h) λi=>p (i+1);unfold L3.tot at i1 i2 ⊢;simp only[QL,List.sum_cons];refine⟨by lia,λe i=>?_⟩
   cases i with
   | zero=>show x.length=y.length;lia
   | succ i=>exact i2 (by lia) i
theorem zjm{i B:Nat}:∀{rs:List RuG},(∀r∈rs,(zay kf ws r.b).length<=B)->(zbe kf ws rs i).length<=rs.length * B
 | [],_=>by simp[zbe]
 | r::rs,h=>by
   have ih:=zjm (i:=i) (rs:=rs) λx hx=>h x (Qc _ hx);have h1:=h r Ql;unfold zbe at ih ⊢;rw[Zs]
   split
   .rw[ZZ,Qf,Qi,J8];lia
   .rw[Qi,J8];lia
end
def zaj(l:List (List Nat)):List (List Nat):=zeo (zb3 l)
theorem zak(l:List (List Nat)):Kept l (zaj l) :=
 have h:=zn0 (zrn l)
 ⟨h.asc,λw hw=>sortW_mem.mp (h.of w hw),λw hw=>h.bel w (sortW_mem.mpr hw),λv hv w hw hu=>h.min v hv w (sortW_mem.mpr hw) hu⟩
theorem zli{l:List (List Nat)}(h:l.Pairwise λa b=>wlt a b=true):l.Nodup:=h.imp λ{a b} z e=>by subst e;rw[zgc] at z;cases z
theorem zhi(l:List (List Nat)):(zaj l).length<=l.length:=zh8 (zli (zak l).asc) (zak l).of
inductive Bk(rs:List RuG):Nat->List GThg->List Nat->Prop
 | nil {k:Nat}:Bk rs k [] []
 | lt {k:Nat} {u v:List Nat} {b:List GThg} (h:Bk rs k b v):Bk rs k (.lt u::b) (u++v)
 | nm {k:Nat} {i:Int} {u v:List Nat} {b:List GThg} (r:RuG) (hr:r∈rs) (hn:r.n=i) (hu:Bk rs k r.b u) (h:Bk rs (k+1) b v):Bk rs (k+1) (.nm i::b) (u++v)
def Wk(rs:List RuG)(k:Nat)(i:Int)(w:List Nat):Prop:=∃r∈rs,r.n=i/\Bk rs k r.b w
theorem Bk.up{k:Nat}(h:Bk rs k b w):Bk rs (k+1) b w:=by
 induction h with
 | nil=>exact .nil
 | lt _ ih=>exact .lt ih
 | nm r hr hn _ _ ih1 ih2=>exact .nm r hr hn ih1 ih2
theorem Bk.ups{k:Nat}(h:Bk rs k b w):∀{m:Nat},k<=m->Bk rs m b w:=λ{m} hm=>by
 obtain⟨j,rfl⟩:∃j,m=k+j:=⟨m-k,by lia⟩;clear hm
 induction j with
 | zero=>exact h
 | succ j ih=>exact ih.up
theorem Bk.sub(hs:∀r∈rs,r∈ss){k:Nat}(h:Bk rs k b w):Bk ss k b w:=by
 induction h with
 | nil=>exact .nil
 | lt _ ih=>exact .lt ih
 | nm r hr hn _ _ ih1 ih2=>exact .nm r (hs r hr) hn ih1 ih2
theorem Bk.bd{k:Nat}(h:Bk g.rs k b w):Bd g b w:=by
 induction h with
 | nil=>exact .nil
 | lt _ ih=>exact .lt ih
 | nm r hr hn _ _ ih1 ih2=>exact .nm r hr hn ih1 ih2
theorem Bd.bk(h:Bd g b w):∃k,Bk g.rs k b w:=by
 induction h with
 | nil=>exact⟨0,.nil⟩
 | lt _ ih=>obtain⟨k,h⟩:=ih;exact⟨k,.lt h⟩
 | nm r hr hn _ _ ih1 ih2=>
   obtain⟨k1,h1⟩:=ih1;obtain⟨k2,h2⟩:=ih2;exact⟨max k1 k2+1,.nm r hr hn (h1.ups (by lia)) (h2.ups (by lia))⟩
theorem Wk.wd{k:Nat}{i:Int}(h:Wk g.rs k i w):Wd g i w:=let ⟨r,a,b,c⟩:=h;⟨r,a,b,c.bd⟩
theorem Wd.wk{i:Int}(h:Wd g i w):∃k,Wk g.rs k i w:=let ⟨r,a,b,c⟩:=h;let ⟨k,d⟩:=c.bk;⟨k,r,a,b,d⟩
def cutR(i:Int)(rs:List RuG):List RuG:=rs.filter λr=>!decide (r.n=i) && !decide (i∈nms r.b)
def ruI(i:Int)(rs:List RuG):List RuG:=rs.filter λr=>decide (r.n=i) && !decide (i∈nms r.b)
theorem mem_cutR{i:Int}: r∈cutR i rs↔r∈rs/\r.n≠i/\i ∉ nms r.b:=by simp[cutR]
theorem mem_ruI{i:Int}: r∈ruI i rs↔r∈rs/\r.n=i/\i ∉ nms r.b:=by simp[ruI]
theorem zk3(i:Int)(b:List GThg):nms (.nm i::b)=i::nms b:=rfl
theorem zpu(u:List Nat)(b:List GThg):nms (.lt u::b)=nms b:=rfl
theorem zw3(i:Int){k:Nat}(h:Bk rs k b w):(i ∉ nms b/\Bk (cutR i rs) k b w)\/∃r∈rs,r.n=i/\i ∉ nms r.b/\∃k' v,k'+1<=k/\Bk (cutR i rs) k' r.b v/\v.Sublist w:=by
 induction h with
 | nil=>exact .inl ⟨by simp[nms],.nil⟩
 | lt _ ih=>
   rcases ih with ⟨a,b⟩|⟨r,a,b,c,k',v,d,e,f⟩
   .exact .inl ⟨a,.lt b⟩
   .exact .inr ⟨r,a,b,c,k',v,d,e,f.trans (Z0 _ _)⟩
 | @nm k j u v b r hr hn _ _ ih1 ih2=>
   rcases ih1 with ⟨a1,b1⟩|⟨r',a,b,c,k',v',d,e,f⟩
   .by_cases hj:j=i
    .exact .inr ⟨r,hr,hn.trans hj,a1,k,u,Qg _,b1,ZI _ _⟩
    .rcases ih2 with ⟨a2,b2⟩|⟨r',a,b,c,k',v',d,e,f⟩
     .refine .inl ⟨?_,.nm r (mem_cutR.mpr ⟨hr,by rw[hn];exact hj,a1⟩) hn b1 b2⟩;rw[zk3,Q0];exact λz=>z.elim (λe=>hj e.symm) a2
     .exact .inr ⟨r',a,b,c,k',v',d,e,f.trans (Z0 _ _)⟩
   .exact .inr ⟨r',a,b,c,k',v',by lia,e,f.trans (ZI _ _)⟩
theorem zyo{i:Int}{k:Nat}(h:Wk rs k i w):∃r∈rs,r.n=i/\i ∉ nms r.b/\∃k' v,k'<=k/\Bk (cutR i rs) k' r.b v/\v.Sublist w:=by
 obtain⟨r,hr,hn,hb⟩:=h;rcases zw3 i hb with ⟨a,b⟩|⟨r,a,b,c,k',v,d,e,f⟩
 .exact⟨r,hr,hn,a,k,w,Qg _,b,.refl _⟩
 .exact⟨r,a,b,c,k',v,by lia,e,f⟩
def zcd(F:Int->List (List Nat)):List GThg->List (List Nat)
 | []=>[[]]
 | .lt u::b=>(zcd F b).map (u ++ ·)
 | .nm i::b=>(F i).flatMap λu=>(zcd F b).map (u ++ ·)
theorem prod_mem: ∀{b:List GThg} {w:List Nat},w∈zcd F b↔Of (λi u=>u∈F i) b w
 | [],w=>by
   show w∈[[]]↔_;rw[Qn];exact⟨λe=>e ▸ .nil,λh=>by cases h;rfl⟩
 | .lt u::b,w=>by
   show w∈(zcd F b).map (u ++ ·)↔_;rw[QD];exact⟨λ⟨v,hv,e⟩=>e ▸ .lt (prod_mem.mp hv),λh=>by cases h with|lt h=>exact⟨_,prod_mem.mpr h,rfl⟩⟩
 | .nm i::b,w=>by
   show w∈(F i).flatMap (λu=>(zcd F b).map (u ++ ·))↔_;rw[Zy];constructor
   .rintro⟨u,hu,hw⟩;obtain⟨v,hv,rfl⟩:=QD.mp hw;exact .nm hu (prod_mem.mp hv)
   .intro h
    cases h with
    | nm hu h=>exact⟨_,hu,QD.mpr ⟨_,prod_mem.mpr h,rfl⟩⟩
def nrW:Nat->List RuG->Int->List (List Nat)
 | 0,_,_=>[]
 | d+1,rs,i=>(ruI i rs).flatMap λr=>zcd (nrW d (cutR i rs)) r.b
def CovR(d:Nat)(rs:List RuG):Prop:=∃ns:List Int,ns.length<=d/\∀r∈rs,r.n∈ns
theorem CovR.cut{d:Nat}(h:CovR (d+1) rs)(hr:r∈rs):CovR d (cutR r.n rs):=by
 obtain⟨ns,hl,hm⟩:=h;have m:=hm r hr;refine⟨ns.erase r.n,by rw[Jy m];lia,λr' hr'=>?_⟩;obtain⟨h1,h2,_⟩:=mem_cutR.mp hr';exact(JN h2).mpr (hm r' h1)
theorem pump:∀(d:Nat) {rs:List RuG} {k:Nat} {i:Int} {w:List Nat},CovR d rs->Wk rs k i w->∃v∈nrW d rs i,v.Sublist w/\Wk rs k i v
 | 0,rs,k,i,w,⟨ns,hl,hm⟩,⟨r,hr,_⟩=>by
   have:=hm r hr;rw[QV.mp (VB.mp hl)] at this;cases this
 | d+1,rs,k,i,w,c,h=>by
   obtain⟨r,hr,hn,hi,k',v,hk,hb,hs⟩:=zyo h;have c':CovR d (cutR i rs):=hn ▸ c.cut hr
   have key:∀{k:Nat} {b:List GThg} {v:List Nat},Bk (cutR i rs) k b v->∃v'∈zcd (nrW d (cutR i rs)) b,v'.Sublist v/\Bk (cutR i rs) k b v':=by
    intro k b v h
    induction h with
    | nil=>exact⟨[],Qn.mpr rfl,.refl _,.nil⟩
    | lt _ ih=>
      obtain⟨v',a,b,c⟩:=ih;exact⟨_,QD.mpr ⟨v',a,rfl⟩,(Vt _).append b,.lt c⟩
    | nm r hr hn hu _ _ ih2=>
      obtain⟨u',a1,b1,r',hr',hn',c1⟩:=pump d c' ⟨r,hr,hn,hu⟩;obtain⟨v',a2,b2,c2⟩:=ih2;exact⟨_,Zy.mpr ⟨u',a1,QD.mpr ⟨v',a2,rfl⟩⟩,b1.append b2,.nm r' hr' hn' c1 c2⟩
   obtain⟨v',a,b,e⟩:=key hb;exact⟨v',Zy.mpr ⟨r,mem_ruI.mpr ⟨hr,hn,hi⟩,a⟩,b.trans hs,r,hr,hn,(e.ups hk).sub λr h=>(mem_cutR.mp h).1⟩
theorem zof:∀(d:Nat) {rs:List RuG} {i:Int} {w:List Nat},w∈nrW (d+1) rs i->Wk rs d i w:=by
 intro d
 induction d with
 | zero=>
   intro rs i w h;obtain⟨r,hr,hw⟩:=Zy.mp h;obtain⟨h1,h2,h3⟩:=mem_ruI.mp hr;refine⟨r,h1,h2,?_⟩;have o:=prod_mem.mp hw;clear hw h;generalize r.b=b at o
   induction o with
   | nil=>exact .nil
   | lt _ ih=>exact .lt ih
   | nm hu _ _=>cases hu
 | succ d IH=>
   intro rs i w h;obtain⟨r,hr,hw⟩:=Zy.mp h;obtain⟨h1,h2,h3⟩:=mem_ruI.mp hr;refine⟨r,h1,h2,?_⟩;have o:=prod_mem.mp hw;clear hw h;generalize r.b=b at o
   induction o with
   | nil=>exact .nil
   | lt _ ih=>exact .lt ih
   | nm hu _ ih=>
     obtain⟨r',a,b,c⟩:=IH hu;exact .nm r' (mem_cutR.mp a).1 b (c.sub λr h=>(mem_cutR.mp h).1) ih
def Fb:Nat->Nat->Nat
 | 0,_=>0
 | d+1,m=>(Q7 (m+1)).foldl (λa r=>max a (r * (max 1 (Fb d (m-r)) * max 1 (Fb d (m-r))))) 0
theorem zis:∀d,d<4->∀m,m<6->∀n,n<6->m<=n->Fb d m<=Fb d n:=by decide +kernel
theorem zuq:∀d,d<3->∀m,m<6->∀r,r<6->r+m<6->r * (max 1 (Fb d m) * max 1 (Fb d m))<=Fb (d+1) (r+m):=by decide +kernel
theorem zc4{α β:Type}{f:α->List β}{B:Nat}:∀{l:List α},(∀x∈l,(f x).length<=B)->(l.flatMap f).length<=l.length * B
 | [],_=>by simp
 | x::l,h=>by
   have ih:=zc4 (f:=f) (B:=B) (l:=l) λy hy=>h y (Qc _ hy);have h1:=h x Ql;rw[ZZ,Qf,Qi,J8,YO];lia
theorem zg1{M:Nat}(hM:∀i,(F i).length<=M):∀{b:List GThg},(zcd F b).length<=M ^ (nms b).length
 | []=>by simp[zcd,nms]
 | .lt u::b=>by
   show((zcd F b).map _).length<=_;rw[Qe,zpu];exact zg1 hM
 | .nm i::b=>by
   show((F i).flatMap λu=>(zcd F b).map (u ++ ·)).length<=_;rw[zk3,Qi,Nat.pow_succ,Vx];refine Qy (zc4 (B:=M ^ (nms b).length) λu _=>?_) (ZJ _ (hM i));rw[Qe];exact zg1 hM
theorem pow2{M n:Nat}(h1:1<=M)(hn:n<=2):M ^ n<=M * M:=by
 rw[<- Nat.pow_two];exact Nat.pow_le_pow_right h1 hn
theorem zpo{M:Nat}(hM:∀i,(F i).length<=M)(hb:(nms b).length<=2):(zcd F b).length<=max 1 M * max 1 M :=
 Qy (zg1 (M:=max 1 M) λi=>Qy (hM i) (Nat.le_max_right _ _)) (pow2 (Nat.le_max_left _ _) hb)
theorem zen{i:Int}:∀{rs:List RuG},(ruI i rs).length+(cutR i rs).length<=rs.length
 | []=>by simp[ruI,cutR]
 | r::rs=>by
   have ih:=zen (i:=i) (rs:=rs);unfold ruI cutR at ih ⊢;rw[Zs,Zs,Qi]
   by_cases h1:r.n=i <;> by_cases h2:i∈nms r.b <;> simp[h1,h2] <;> lia
theorem zut{i:Int}(hr:r∈rs)(hi:i∈nms r.b):(ruI i rs).length+(cutR i rs).length+1<=rs.length:=by
 obtain⟨a,c,rfl⟩:=List.append_of_mem hr;have h1:=zen (i:=i) (rs:=a);have h2:=zen (i:=i) (rs:=c);have e1:ruI i (a++r::c)=ruI i a++ruI i c:=by unfold ruI;rw[ZS,Zs];simp[hi]
 have e2:cutR i (a++r::c)=cutR i a++cutR i c:=by unfold cutR;rw[ZS,Zs];simp[hi]
 rw[e1,e2,Qf,Qf,Qf,Qi];lia
theorem zku:∀(d:Nat),d<=3->∀{rs:List RuG} {i:Int},rs.length<=5->(∀r∈rs,(nms r.b).length<=2)->(nrW d rs i).length<=Fb d ((ruI i rs).length+(cutR i rs).length)
 | 0,_,_,_,_,_=>QK _
 | d+1,hd,rs,i,h5,h2=>by
   have hc:=zen (i:=i) (rs:=rs)
   have hM:∀j,(nrW d (cutR i rs) j).length<=Fb d (cutR i rs).length:=λj=>
    Qy (zku d (by lia) (rs:=cutR i rs) (by lia) λr hr=>h2 r (mem_cutR.mp hr).1) (by
     have:=zen (i:=j) (rs:=cutR i rs)
     exact zis d (by lia) _ (by lia) _ (by lia) this)
   refine Qy (zc4 (B:=max 1 (Fb d (cutR i rs).length) * max 1 (Fb d (cutR i rs).length)) λr hr=>zpo hM (h2 r (mem_ruI.mp hr).1)) ?_;exact zuq d (by lia) _ (by lia) _ (by lia) (by lia)
theorem ztq{i:Int}(h5:rs.length<=5)(h2:∀r∈rs,(nms r.b).length<=2):(nrW 3 rs i).length<=81:=by
 have h:=zku 3 (by lia) (i:=i) h5 h2;have hc:=zen (i:=i) (rs:=rs);exact Qy h (Qy (zis 3 (by lia) _ (by lia) 5 (by lia) (by lia)) (by decide +kernel))
theorem zz3{i:Int}(h5:rs.length<=5)(h2:∀r∈rs,(nms r.b).length<=2)(hr:r∈rs)(hi:i∈nms r.b):(nrW 3 rs i).length<=16:=by
 have h:=zku 3 (by lia) (i:=i) h5 h2;have hc:=zut hr hi;exact Qy h (Qy (zis 3 (by lia) _ (by lia) 4 (by lia) (by lia)) (by decide +kernel))
theorem zqm{L:Nat}(hL:1<=L)(o:Of F b w)(hF:∀i u,F i u->u.length<=L)(hb:∀t∈b,∀u,t = .lt u->u.length<=1):w.length<=b.length * L:=by
 induction o with
 | nil=>simp
 | lt _ ih=>
   have h1:=hb _ Ql _ rfl;have h2:=ih λt ht=>hb t (Qc _ ht);rw[Qf,Qi,J8,YO];lia
 | nm hu _ ih=>
   have h1:=hF _ _ hu;have h2:=ih λt ht=>hb t (Qc _ ht);rw[Qf,Qi,J8,YO];lia
structure GL(g:GraZ)(al:List Nat):Prop where
 ga:GAl g al
 many:g.rs.length<=5
 two:∀r∈g.rs,(nms r.b).length<=2
theorem zmd(ga:GAl g al):∀(d:Nat) {rs:List RuG} {i:Int} {w:List Nat},(∀r∈rs,r∈g.rs)->w∈nrW d rs i->w.length<=3 ^ d
 | 0,_,_,_,_,h=>by cases h
 | d+1,rs,i,w,hs,h=>by
   obtain⟨r,hr,hw⟩:=Zy.mp h;obtain⟨h1,h2,h3⟩:=mem_ruI.mp hr;have e:=ga.each r (hs r h1)
   have:=zqm (L:=3 ^ d) (Nat.one_le_pow _ _ (by decide)) (prod_mem.mp hw) (λi u hu=>zmd ga d (λr hr=>hs r (mem_cutR.mp hr).1) hu) λt ht u et=>by
    have:=e.2.2 t ht;subst et;obtain⟨c,_,rfl⟩:=this;exact Qg _
   rw[Nat.pow_succ,Vx];exact Qy this (ZJ _ e.2.1)
theorem z0d{g:GraZ}{al:List Nat}{F:Int->List Nat->Prop}{b:List GThg}{w:List Nat}(o:Of F b w)(h:∀i u,F i u->∀c∈u,c∈al)(hb:∀t∈b,ThA al g.n t):∀c∈w,c∈al:=by
 induction o with
 | nil=>intro c hc;cases hc
 | lt _ ih=>
   intro c hc;rcases Qu.mp hc with z|z
   .obtain⟨d,hd,rfl⟩:=hb _ Ql;rw[Qn.mp z];exact hd
   .exact ih (λt ht=>hb t (Qc _ ht)) c z
 | nm hu _ ih=>
   intro c hc;rcases Qu.mp hc with z|z
   .exact h _ _ hu c z
   .exact ih (λt ht=>hb t (Qc _ ht)) c z
theorem zzu(ga:GAl g al){k:Nat}(h:Bk g.rs k b w)(hb:∀t∈b,ThA al g.n t):∀c∈w,c∈al:=by
 induction h with
 | nil=>intro c hc;cases hc
 | lt _ ih=>
   intro c hc;rcases Qu.mp hc with z|z
   .obtain⟨d,hd,rfl⟩:=hb _ Ql;rw[Qn.mp z];exact hd
   .exact ih (λt ht=>hb t (Qc _ ht)) c z
 | nm r hr hn _ _ ih1 ih2=>
   intro c hc;rcases Qu.mp hc with z|z
   .exact ih1 (ga.each r hr).2.2 c z
   .exact ih2 (λt ht=>hb t (Qc _ ht)) c z
theorem zl2(ga:GAl g al):CovR 3 g.rs:=⟨[0,1,2],Qg _,λr hr=>by
 have h:=(ga.each r hr).1;have n3:=ga.n3;simp only[Q0,Zt,or_false]
 lia⟩
theorem zgp{a b:List Nat}(h:a.Sublist b)(h':b.Sublist a):a=b:=h.eq_of_length_le h'.length_le
def FW(ws:Ws)(j:Int)(u:List Nat):Prop:=u∈ws.at_ j.toNat
theorem Of.app3(h:Of F b u)(h':Of F c v):Of F (b++c) (u++v):=by
 induction h with
 | nil=>exact h'
 | lt _ ih=>rw[Qo];exact .lt ih
 | nm hu _ ih=>rw[Qo];exact .nm hu ih
theorem Of.split3: ∀{b c:List GThg} {w:List Nat},Of F (b++c) w->∃u v,w=u++v/\Of F b u/\Of F c v
 | [],c,w,h=>⟨[],w,rfl,.nil,h⟩
 | .lt x::b,c,_,.lt h=>by
   obtain⟨u,v,rfl,h1,h2⟩:=Of.split3 (b:=b) h;exact⟨x++u,v,(Qo _ _ _).symm,.lt h1,h2⟩
 | .nm i::b,c,_,.nm hu h=>by
   obtain⟨u,v,rfl,h1,h2⟩:=Of.split3 (b:=b) h;exact⟨_,v,(Qo _ _ _).symm,.nm hu h1,h2⟩
theorem of_one: Of (FW ws) [t] u↔u∈zas ws t:=by
 cases t with
 | nm i=>exact⟨λh=>by cases h with|nm hu h=>cases h;rw[Qx];exact hu,λh=>by have:Of (FW ws) [.nm i] (u ++ []):=.nm h .nil;rwa [Qx] at this⟩
 | lt x=>exact⟨λh=>by cases h with|lt h=>cases h;rw[Qx];exact Qn.mpr rfl,λh=>by rw[Qn.mp h];have:Of (FW ws) [.lt x] (x ++ []):=.lt .nil;rwa [Qx] at this⟩
theorem lgr_mem{bs:List (List Nat)}: w∈lgrW bs es↔∃u∈bs,∃v∈es,w=u++v:=by
 unfold lgrW;rw[Zy];constructor
 .rintro⟨v,hv,h⟩;obtain⟨u,hu,rfl⟩:=QD.mp h;exact⟨u,hu,v,hv,rfl⟩
 .rintro⟨u,hu,v,hv,rfl⟩;exact⟨v,hv,QD.mpr ⟨u,hu,rfl⟩⟩
theorem zfy(kf:List (List Nat)->List (List Nat))(ws:Ws)(b:List GThg)(t:GThg):zay kf ws (b ++ [t])=kf (lgrW (zay kf ws b) (zas ws t)):=by
 unfold zay;rw[ZL];rfl
theorem zej: ∀(n:Nat) {b:List GThg},b.length=n->∀{w:List Nat},w∈zay zaj ws b->Of (FW ws) b w
 | 0,b,hn,w,h=>by
   obtain rfl:=QV.mp hn;rw[Qn.mp (show w∈[[]] from h)];exact .nil
 | n+1,b,hn,w,h=>by
   obtain⟨c,t,rfl⟩:∃c t,b=c ++ [t]:=⟨b.dropLast,b.getLast (by intro e;rw[e] at hn;cases hn),(Ze _).symm⟩;rw[zfy] at h;obtain⟨u,hu,v,hv,rfl⟩:=lgr_mem.mp ((zak _).of w h);exact(zej n (by rw[Qf] at hn;simpa using hn) hu).app3 (of_one.mpr hv)
theorem zxg(h:w∈lgrW (zay zaj ws b) (zas ws t)):Of (FW ws) (b ++ [t]) w:=by
 obtain⟨u,hu,v,hv,rfl⟩:=lgr_mem.mp h;exact(zej _ rfl hu).app3 (of_one.mpr hv)
theorem zci{a b c d:List Nat}(h:under a b=true)(h':under c d=true):under (a++c) (b++d)=true:=under_iff.mpr ((under_iff.mp h).append (under_iff.mp h'))
theorem zk1: ∀(n:Nat) {b:List GThg},b.length=n->∀{w:List Nat},Of (FW ws) b w->∃v∈zay zaj ws b,under v w=true
 | 0,b,hn,w,h=>by
   obtain rfl:=QV.mp hn;cases h;exact⟨[],Qn.mpr rfl,zaw _⟩
 | n+1,b,hn,w,h=>by
   obtain⟨c,t,rfl⟩:∃c t,b=c ++ [t]:=⟨b.dropLast,b.getLast (by intro e;rw[e] at hn;cases hn),(Ze _).symm⟩;obtain⟨u,v,rfl,h1,h2⟩:=h.split3;obtain⟨u',hu',d⟩:=zk1 n (by rw[Qf] at hn;simpa using hn) h1;have hv:=of_one.mp h2;rw[zfy];obtain⟨x,hx,dx⟩:=(zak (lgrW (zay zaj ws c) (zas ws t))).bel (u'++v) (lgr_mem.mpr ⟨u',hu',v,hv,rfl⟩);exact⟨x,hx,zao dx (zci d (zaw v))⟩
theorem Of.dom(o:Of F b w)(h:∀j u,F j u->∃v,G j v/\under v u=true):∃v,Of G b v/\under v w=true:=by
 induction o with
 | nil=>exact⟨[],.nil,zaw _⟩
 | lt _ ih=>obtain⟨v,a,b⟩:=ih;exact⟨_,.lt a,zci (zaw _) b⟩
 | nm hu _ ih=>
   obtain⟨u',a1,b1⟩:=h _ _ hu;obtain⟨v,a,b⟩:=ih;exact⟨_,.nm a1 a,zci b1 b⟩
theorem zjh{M:Nat}(h:∀i,t = .nm i->(ws.at_ i.toNat).length<=M):(zas ws t).length<=M ^ (nms [t]).length:=by
 cases t with
 | nm i=>have:=h i rfl;show _<=M ^ 1;rw[Nat.pow_one];exact this
 | lt u=>simp[zas,nms,GThg.isN]
theorem zgi(b c:List GThg):nms (b++c)=nms b++nms c:=by unfold nms;rw[ZS,QE]
theorem zlo{M:Nat}:∀(n:Nat) {b:List GThg},b.length=n->(∀i,GThg.nm i∈b->(ws.at_ i.toNat).length<=M)->(zay zaj ws b).length<=M ^ (nms b).length
 | 0,b,hn,_=>by
   obtain rfl:=QV.mp hn;simp[zay,nms]
 | n+1,b,hn,h=>by
   obtain⟨c,t,rfl⟩:∃c t,b=c ++ [t]:=⟨b.dropLast,b.getLast (by intro e;rw[e] at hn;cases hn),(Ze _).symm⟩;rw[zfy,zgi,Qf,Nat.pow_add];refine Qy (zhi _) ?_;rw[zg0,Vx];exact Jp (zlo n (by rw[Qf] at hn;simpa using hn) λi hi=>h i (Q9 _ hi)) (zjh λi e=>h i (by rw[e];simp))
theorem zzz{g:GraZ}{k:Nat}{ws:Ws}(hS:∀(i:Nat) u,u∈ws.at_ i->∃k',k=k'+1/\Wk g.rs k' (i:Int) u){b:List GThg}{w:List Nat}(h:Of (FW ws) b w)(hn:∀i,GThg.nm i∈b->0<=i):Bk g.rs k b w:=by
 induction h with
 | nil=>exact .nil
 | lt _ ih=>exact .lt (ih λi hi=>hn i (Qc _ hi))
 | @nm j u v b hu _ ih=>
   obtain⟨k',rfl,r,h1,h2,h3⟩:=hS _ _ hu;have:=hn j Ql;exact .nm r h1 (by lia) h3 (ih λi hi=>hn i (Qc _ hi))
theorem z0g{g:GraZ}{k:Nat}{b:List GThg}{w:List Nat}(h:Bk g.rs k b w):Of (λj u=>∃k',k=k'+1/\Wk g.rs k' j u) b w:=by
 induction h with
 | nil=>exact .nil
 | lt _ ih=>exact .lt ih
 | nm r hr hn hu _ _ ih=>exact .nm ⟨_,rfl,r,hr,hn,hu⟩ ih
structure ItS(g:GraZ)(k:Nat)(ws:Ws):Prop where
 len:ws.length=g.n.toNat
 snd:∀(i:Nat) u,u∈ws.at_ i->∃k',k=k'+1/\Wk g.rs k' (i:Int) u
 dom:∀(i:Nat) k' w,k=k'+1->Wk g.rs k' (i:Int) w->∃v∈ws.at_ i,under v w=true
 asc:∀i,(ws.at_ i).Pairwise λa b=>wlt a b=true
 anti:∀i,∀v∈ws.at_ i,∀w∈ws.at_ i,under w v=true->w=v
section
variable {g:GraZ}{al:List Nat}
theorem it_s(ga:GAl g al):∀k,ItS g k (itW zaj g k)
 | 0=>by
   have e:∀i,(itW zaj g 0).at_ i = []:=λi=>by
    show(Qp g.n.toNat ([]:List (List Nat))).getD i [] = [];rw[Qs,QP]
    split <;> rfl
   exact⟨zeh _ _ _,λi u h=>(by rw[e] at h;cases h),λi k' w z=>(nomatch z),λi=>(by rw[e];exact .nil),λi v h=>(by rw[e] at h;cases h)⟩
 | k+1=>by
   have S:=it_s ga k;have hp:∀r∈g.rs,∀i,GThg.nm i∈r.b->0<=i:=λr hr i hi=>((ga.each r hr).2.2 _ hi).1;have e:∀i,(itW zaj g (k+1)).at_ i=if i<g.n.toNat then zaj (zbe zaj (itW zaj g k) g.rs i) else[]:=λi=>zwn;refine⟨zeh _ _ _,λi u h=>?_,λi k' w z h=>?_,λi=>?_,λi v hv w hw=>?_⟩
   .rw[e] at h
    split at h
    .obtain⟨r,hr,hn,hb⟩:=mem_made.mp ((zak _).of u h);exact⟨k,rfl,r,hr,hn,zzz S.snd (zej _ rfl hb) (hp r hr)⟩
    .cases h
   .obtain rfl:k=k':=by lia
    obtain⟨r,hr,hn,hb⟩:=h;have hin:i<g.n.toNat:=by have:=(ga.each r hr).1;lia
    obtain⟨v,hv,d⟩:=(z0g hb).dom (G:=λj u=>FW (itW zaj g k) j u/\True) λj u ⟨k',e',h⟩=>by
     have hj:0<=j:=by obtain⟨r',a,b,_⟩:=h;have:=(ga.each r' a).1;lia
     obtain⟨v,hv,d⟩:=S.dom j.toNat k' u e' (by rw[ZN hj];exact h);exact⟨v,⟨hv,trivial⟩,d⟩
    obtain⟨x,hx,dx⟩:=zk1 _ rfl (hv.mono λ_ _ z=>z.1);rw[e,GO hin];obtain⟨y,hy,dy⟩:=(zak (zbe zaj (itW zaj g k) g.rs i)).bel x (mem_made.mpr ⟨r,hr,hn,hx⟩);exact⟨y,hy,zao dy (zao dx d)⟩
   .rw[e];split
    .exact(zak _).asc
    .exact .nil
   .rw[e] at hv hw
    split at hv
    .rename_i c
     rw[GO c] at hw;exact(zak _).min v hv w ((zak _).of w hw)
    .cases hv
theorem ItS.nr{k:Nat}(S:ItS g k ws)(ga:GAl g al){i:Nat}(h:u∈ws.at_ i):u∈nrW 3 g.rs i:=by
 obtain⟨k',rfl,hk⟩:=S.snd i u h;obtain⟨v,hv,hs,hk2⟩:=pump 3 (zl2 ga) hk;obtain⟨x,hx,dx⟩:=S.dom i k' v rfl hk2;have e:=S.anti i u h x hx (zao dx (under_iff.mpr hs));subst e;have:x=v:=zgp (under_iff.mp dx) hs;rw[this];exact hv
structure AnsW(g:GraZ)(i:Int)(l:List (List Nat)):Prop where
 asc:l.Pairwise λa b=>wlt a b=true
 snd:∀w∈l,Wd g i w
 dom:∀w,Wd g i w->∃v∈l,under v w=true
 anti:∀v∈l,∀w∈l,under w v=true->w=v
theorem AnsW.uniq{i:Int}(h:AnsW g i l)(h':AnsW g i m):l=m:=by
 have key:∀{l m:List (List Nat)},AnsW g i l->AnsW g i m->∀x∈l,x∈m:=λ{l m} h h' x hx=>by
  obtain⟨v,hv,d⟩:=h'.dom x (h.snd x hx);obtain⟨y,hy,dy⟩:=h.dom v (h'.snd v hv);have e:=h.anti x hx y hy (zao dy d);subst e;have:v=y:=zgp (under_iff.mp d) (under_iff.mp dy);exact this ▸ hv
 exact zjy h.asc h'.asc λx=>⟨key h h' x,key h' h x⟩
theorem zlt(ga:GAl g al){k:Nat}(hk:3<=k)(i:Nat):AnsW g i ((itW zaj g k).at_ i):=by
 have S:=it_s ga k;refine⟨S.asc i,λw hw=>?_,λw hw=>?_,S.anti i⟩
 .obtain⟨k',_,h⟩:=S.snd i w hw;exact h.wd
 .obtain⟨k2,h2⟩:=hw.wk;obtain⟨v,hv,hs,_⟩:=pump 3 (zl2 ga) h2;obtain⟨r,a,b,c⟩:=zof 2 hv;obtain⟨x,hx,dx⟩:=S.dom i (k-1) v (by lia) ⟨r,a,b,c.ups (by lia)⟩;exact⟨x,hx,zao dx (under_iff.mpr hs)⟩
theorem zve(ga:GAl g al):itW zaj g (3+1)=itW zaj g 3:=by
 apply Js (by rw[zeh,zeh]);intro i h1 h2;have e:=(zlt ga (k:=4) (by decide) i).uniq (zlt ga (k:=3) (by decide) i);have g1:=zei h1;have g2:=zei h2;rw[Qb h1] at g1;rw[Qb h2] at g2;injection g1 with g1;injection g2 with g2;rw[g1,g2];exact e
structure DmL(l:List (List Nat)):Prop where
 len:l.length<=1000000
 ok:∀w∈l,Sml w
theorem zem(gl:GL g al){i:Int}(h:w∈nrW 3 g.rs i):w.length<=27/\∀c∈w,c∈al:=by
 refine⟨zmd gl.ga 3 (λ_ h=>h) h,?_⟩;obtain⟨r,a,b,c⟩:=zof 2 h;exact zzu gl.ga c (gl.ga.each r a).2.2
theorem zho(gl:GL g al)(hn:∀(i:Nat) u,u∈ws.at_ i->u∈nrW 3 g.rs i)(hb:∀t∈b,ThA al g.n t)(hl:b.length<=3)(o:Of (FW ws) b w):w.length<=81/\∀c∈w,c∈al:=by
 refine⟨Qy (zqm (L:=27) (by decide) o (λi u hu=>(zem gl (hn _ _ hu)).1) λt ht u e=>?_) (by lia),z0d o (λi u hu=>(zem gl (hn _ _ hu)).2) hb⟩;have:=hb t ht;subst e;obtain⟨c,_,rfl⟩:=this;exact Qg _
theorem GL.sml(gl:GL g al)(h:w.length<=81/\∀c∈w,c∈al):Sml w:=⟨by lia,λc hc=>by have:97<=c/\c<123:=gl.ga.low c (h.2 c hc);lia⟩
theorem GL.tok(gl:GL g al)(h:w.length<=81/\∀c∈w,c∈al):TOk w:=⟨by lia,λc hc=>by have:97<=c/\c<123:=gl.ga.low c (h.2 c hc);lia⟩
theorem zkb(gl:GL g al){ws:Ws}(asc:∀i,(ws.at_ i).Pairwise λa b=>wlt a b=true)(hn:∀(i:Nat) u,u∈ws.at_ i->u∈nrW 3 g.rs i)(i:Nat):(ws.at_ i).length<=81:=Qy (zh8 (zli (asc i)) (hn i)) (ztq gl.many gl.two)
theorem zt2(gl:GL g al){ws:Ws}(asc:∀i,(ws.at_ i).Pairwise λa b=>wlt a b=true)(hn:∀(i:Nat) u,u∈ws.at_ i->u∈nrW 3 g.rs i){r:RuG}(hr:r∈g.rs){j:Int}(hj:GThg.nm j∈r.b):(ws.at_ j.toNat).length<=16:=by
 have h0:=((gl.ga.each r hr).2.2 _ hj).1;have:=zz3 (i:=j) gl.many gl.two hr (QD.mpr ⟨.nm j,Z6.mpr ⟨hj,rfl⟩,rfl⟩);have e:((j.toNat:Nat):Int)=j:=ZN h0;refine Qy (zh8 (zli (asc _)) λu hu=>?_) this;have:=hn _ u hu;rw[e] at this;exact this
theorem zxh(gl:GL g al)(k:Nat):TurnW zaj DmL g (itW zaj g k):=by
 have S:=it_s gl.ga k;have hn:∀(i:Nat) u,u∈(itW zaj g k).at_ i->u∈nrW 3 g.rs i:=λi u h=>S.nr gl.ga h;generalize itW zaj g k=ws at S hn;have l81:=zkb gl S.asc hn;have sz:∀i,LOk (ws.at_ i):=λi=>⟨by have:=l81 i;lia,λw hw=>gl.tok (by have:=zem gl (hn i w hw);exact⟨by lia,this.2⟩)⟩;have tk:∀r∈g.rs,∀j,(∀t∈r.b.take j,ThA al g.n t)/\(r.b.take j).length<=3:=λr hr j=>⟨λt ht=>(gl.ga.each r hr).2.2 t (QO ht),by have:=(gl.ga.each r hr).2.1;rw[Q8];lia⟩
 have b256:∀r∈g.rs,∀j,(zay zaj ws (r.b.take j)).length<=256:=λr hr j=>by
  refine Qy (zlo (M:=16) _ rfl λi hi=>zt2 gl S.asc hn hr (QO hi)) (Qy (pow2 (by decide) ?_) (by decide));have h2:=gl.two r hr;have:nms r.b=nms (r.b.take j)++nms (r.b.drop j):=by rw[<- zgi,Zv]
  rw[this,Qf] at h2;lia
 refine⟨S.len,λr hr=>⟨λt ht=>?_,sz,λj=>⟨by have:=b256 r hr j;lia,λw hw=>gl.tok (zho gl hn (tk r hr j).1 (tk r hr j).2 (zej _ rfl hw))⟩,λj t ht=>⟨?_,λw hw=>?_⟩⟩,sz,λi _=>⟨?_,λw hw=>?_⟩⟩
 .have:=(gl.ga.each r hr).2.2 t ht
  cases t with
  | nm i=>
    obtain⟨h1,h2⟩:=this;exact⟨h1,by rw[S.len];lia⟩
  | lt u=>
    obtain⟨c,hc,rfl⟩:=this;exact gl.tok ⟨by show 1<=81;decide,λd hd=>by rw[Qn.mp hd];exact hc⟩
 .rw[zg0]
  have h1:(zas ws t).length<=81:=by
   cases t with
   | nm i=>exact l81 _
   | lt u=>show 1<=81;decide
  exact Qy (Jp h1 (b256 r hr j)) (by decide)
 .have e:r.b.take (j+1)=r.b.take j ++ [t]:=by
   obtain⟨h1,h2⟩:=Qk.mp ht;rw[Zh h1,h2]
  have o:=zxg hw;rw[<- e] at o;exact gl.sml (zho gl hn (tk r hr (j+1)).1 (tk r hr (j+1)).2 o)
 .have:=zjm (kf:=zaj) (ws:=ws) (i:=i) (rs:=g.rs) (B:=256) λr hr=>by have:=b256 r hr r.b.length;rwa [QT] at this
  have h5:=gl.many;have:g.rs.length * 256<=5 * 256:=ZJ _ h5;lia
 .obtain⟨r,hr,_,hb⟩:=mem_made.mp hw;exact gl.sml (zho gl hn (gl.ga.each r hr).2.2 (gl.ga.each r hr).2.1 (zej _ rfl hb))
end
def zam(l:List (List Nat))(w:List Nat):Bool:=l.any λv=>under v w
theorem over_iff: zam l w=true↔∃v∈l,under v w=true:=by unfold zam;rw[Jd]
theorem zdo(h:zam l v=true)(d:under v w=true):zam l w=true:=by
 obtain⟨x,hx,dx⟩:=over_iff.mp h;exact over_iff.mpr ⟨x,hx,zao dx d⟩
def lngM(bs es:List (List Nat)):List (List Nat):=bs.flatMap λu=>es.map (u ++ ·)
def zn7(o bs es:List (List Nat)):List (List Nat):=zaj ((lngM bs es).filter λw=>!zam o w)
def zav(ws:Ws)(i:Nat)(b:List GThg):List (List Nat):=b.foldl (λbs t=>zn7 (ws.at_ i) bs (zas ws t)) [[]]
def ruM(ws:Ws)(r:RuG):Ws:=ws.set r.n.toNat (zaj (ws.at_ r.n.toNat++zav ws r.n.toNat r.b))
def zby(g:GraZ)(ws:Ws):Ws:=g.rs.foldl ruM ws
theorem lng_mem{bs:List (List Nat)}: w∈lngM bs es↔∃u∈bs,∃v∈es,w=u++v:=by
 unfold lngM;rw[Zy];constructor
 .rintro⟨u,hu,h⟩;obtain⟨v,hv,rfl⟩:=QD.mp h;exact⟨u,hu,v,hv,rfl⟩
 .rintro⟨u,hu,v,hv,rfl⟩;exact⟨u,hu,QD.mpr ⟨v,hv,rfl⟩⟩
theorem zcn(ws:Ws)(i:Nat)(b:List GThg)(t:GThg):zav ws i (b ++ [t])=zn7 (ws.at_ i) (zav ws i b) (zas ws t):=by
 unfold zav;rw[ZL];rfl
theorem zd6{i:Nat}:∀(n:Nat) {b:List GThg},b.length=n->∀{w:List Nat},w∈zav ws i b->Of (FW ws) b w
 | 0,b,hn,w,h=>by
   obtain rfl:=QV.mp hn;rw[Qn.mp (show w∈[[]] from h)];exact .nil
 | n+1,b,hn,w,h=>by
   obtain⟨c,t,rfl⟩:∃c t,b=c ++ [t]:=⟨b.dropLast,b.getLast (by intro e;rw[e] at hn;cases hn),(Ze _).symm⟩;rw[zcn] at h;obtain⟨u,hu,v,hv,rfl⟩:=lng_mem.mp (Z6.mp ((zak _).of w h)).1;exact(zd6 n (by rw[Qf] at hn;simpa using hn) hu).app3 (of_one.mpr hv)
theorem zpa{i:Nat}(h:w∈zav ws i b):w∈ws.at_ i\/zam (ws.at_ i) w=false:=by
 rcases List.eq_nil_or_concat b with rfl|⟨c,t,e⟩
 .have hw:w = []:=Qn.mp h;subst hw
  cases ho:zam (ws.at_ i) [] with
  | false=>exact .inr rfl
  | true=>
    obtain⟨v,hv,d⟩:=over_iff.mp ho;have:v = []:=QV.mp (VB.mp (zft d));exact .inl (this ▸ hv)
 .rw[List.concat_eq_append] at e;subst e;rw[zcn] at h;have:=(Z6.mp ((zak _).of w h)).2;exact .inr (by simpa using this)
theorem zh5{i:Nat}:∀(n:Nat) {b:List GThg},b.length=n->∀{w:List Nat},Of (FW ws) b w->(∃v∈zav ws i b,under v w=true)\/zam (ws.at_ i) w=true
 | 0,b,hn,w,h=>by
   obtain rfl:=QV.mp hn;cases h;exact .inl ⟨[],Qn.mpr rfl,zaw _⟩
 | n+1,b,hn,w,h=>by
   obtain⟨c,t,rfl⟩:∃c t,b=c ++ [t]:=⟨b.dropLast,b.getLast (by intro e;rw[e] at hn;cases hn),(Ze _).symm⟩;obtain⟨u,v,rfl,h1,h2⟩:=h.split3;have pre:under u (u++v)=true:=under_iff.mpr (ZI _ _);rcases zh5 n (by rw[Qf] at hn;simpa using hn) h1 with ⟨u',hu',d⟩|o
   .have hv:=of_one.mp h2;have d2:=zci d (zaw v)
    cases ho:zam (ws.at_ i) (u'++v) with
    | true=>exact .inr (zdo ho d2)
    | false=>
      rw[zcn];obtain⟨x,hx,dx⟩:=(zak ((lngM (zav ws i c) (zas ws t)).filter λw=>!zam (ws.at_ i) w)).bel (u'++v) (Z6.mpr ⟨lng_mem.mpr ⟨u',hu',v,hv,rfl⟩,by rw[ho];rfl⟩);exact .inl ⟨x,hx,zao dx d2⟩
   .exact .inr (zdo o pre)
theorem zg2(bs es:List (List Nat)):(lngM bs es).length<=bs.length * es.length:=zc4 λu _=>by rw[Qe];exact Qg _
theorem zh3{i M:Nat}:∀(n:Nat) {b:List GThg},b.length=n->(∀j,GThg.nm j∈b->(ws.at_ j.toNat).length<=M)->(zav ws i b).length<=M ^ (nms b).length
 | 0,b,hn,_=>by
   obtain rfl:=QV.mp hn;simp[zav,nms]
 | n+1,b,hn,h=>by
   obtain⟨c,t,rfl⟩:∃c t,b=c ++ [t]:=⟨b.dropLast,b.getLast (by intro e;rw[e] at hn;cases hn),(Ze _).symm⟩;rw[zcn,zgi,Qf,Nat.pow_add];refine Qy (zhi _) (Qy (Jm _ _) (Qy (zg2 _ _) ?_));exact Jp (zh3 n (by rw[Qf] at hn;simpa using hn) λi hi=>h i (Q9 _ hi)) (zjh λi e=>h i (by rw[e];simp))
theorem Of.imp(o:Of F b w)(h:∀j u,GThg.nm j∈b->under u w=true->F j u->G j u):Of G b w:=by
 induction o with
 | nil=>exact .nil
 | lt _ ih=>exact .lt (ih λj u hj hu f=>h j u (Qc _ hj) (under_iff.mpr ((under_iff.mp hu).trans (Z0 _ _))) f)
 | nm hu _ ih=>exact .nm (h _ _ Ql (under_iff.mpr (ZI _ _)) hu) (ih λj u hj hu f=>h j u (Qc _ hj) (under_iff.mpr ((under_iff.mp hu).trans (Z0 _ _))) f)
theorem nms_mem{i:Int}: i∈nms b↔GThg.nm i∈b:=by
 induction b with
 | nil=>simp[nms]
 | cons t b ih=>
   cases t with
   | nm j=>rw[zk3,Q0,Q0,ih];simp
   | lt u=>rw[zpu,Q0,ih];simp
theorem Of.part(o:Of F b w){i:Int}(hi:GThg.nm i∈b):∃u,F i u/\under u w=true:=by
 induction o with
 | nil=>cases hi
 | lt _ ih=>
   rcases Q0.mp hi with e|hi
   .cases e
   .obtain⟨u,a,b⟩:=ih hi;exact⟨u,a,under_iff.mpr ((under_iff.mp b).trans (Z0 _ _))⟩
 | nm hu _ ih=>
   rcases Q0.mp hi with e|hi
   .cases e;exact⟨_,hu,under_iff.mpr (ZI _ _)⟩
   .obtain⟨u,a,b⟩:=ih hi;exact⟨u,a,under_iff.mpr ((under_iff.mp b).trans (Z0 _ _))⟩
def useR:List Int->List RuG->List RuG
 | [],rs=>rs
 | s::S,rs=>cutR s (useR S rs)
theorem mem_useR: ∀{S:List Int},r∈useR S rs↔r∈rs/\∀s∈S,r.n≠s/\s ∉ nms r.b
 | []=>by simp[useR]
 | s::S=>by
   show r∈cutR s (useR S rs)↔_;rw[mem_cutR,mem_useR];constructor
   .rintro⟨⟨a,b⟩,c⟩;exact⟨a,λx hx=>(Q0.mp hx).elim (λe=>e ▸ c) (b x)⟩
   .rintro⟨a,b⟩;exact⟨⟨a,λx hx=>b x (Qc _ hx)⟩,b s Ql⟩
structure InvM(g:GraZ)(ws:Ws):Prop where
 len:ws.length=g.n.toNat
 asc:∀i,(ws.at_ i).Pairwise λa b=>wlt a b=true
 anti:∀i,∀v∈ws.at_ i,∀w∈ws.at_ i,under w v=true->w=v
 good:∀(j:Nat) u,u∈ws.at_ j->∀(S:List Int) d,CovR d (useR S g.rs)->(∀s∈S,zam (ws.at_ s.toNat) u=false)->u∈nrW d (useR S g.rs) (j:Int)
section
variable {g:GraZ}{al:List Nat}{ws:Ws}
theorem InvM.nr(h:InvM g ws)(ga:GAl g al){j:Nat}(hu:u∈ws.at_ j):u∈nrW 3 g.rs (j:Int):=h.good j u hu [] 3 (zl2 ga) λ_ z=>nomatch z
theorem InvM.same(h:InvM g ws)(h':InvM g vs)(e:∀i w,zam (ws.at_ i) w=true↔zam (vs.at_ i) w=true):ws=vs:=by
 have key:∀{ws vs:Ws},InvM g ws->InvM g vs->(∀i w,zam (ws.at_ i) w=true↔zam (vs.at_ i) w=true)->∀i,∀x∈ws.at_ i,x∈vs.at_ i:=λ{ws vs} h h' e i x hx=>by
  obtain⟨v,hv,d⟩:=over_iff.mp ((e i x).mp (over_iff.mpr ⟨x,hx,zaw x⟩));obtain⟨y,hy,dy⟩:=over_iff.mp ((e i v).mpr (over_iff.mpr ⟨v,hv,zaw v⟩));have q:=h.anti i x hx y hy (zao dy d);subst q;have:v=y:=zgp (under_iff.mp d) (under_iff.mp dy);exact this ▸ hv
 apply Js (by rw[h.len,h'.len]);intro i h1 h2;have q:ws.at_ i=vs.at_ i:=zjy (h.asc i) (h'.asc i) λx=>⟨key h h' e i x,key h' h (λi w=>(e i w).symm) i x⟩;have g1:=zei h1;have g2:=zei h2;rw[Qb h1] at g1;rw[Qb h2] at g2;injection g1 with g1;injection g2 with g2;rw[g1,g2];exact q
theorem zlq(h:InvM g ws)(ga:GAl g al)(hr:r∈g.rs)(j:Nat):(ruM ws r).at_ j=if j=r.n.toNat then zaj (ws.at_ r.n.toNat++zav ws r.n.toNat r.b) else ws.at_ j:=by
 have hl:r.n.toNat<ws.length:=by rw[h.len];exact z0u ga hr
 unfold ruM Ws.at_;rw[Qs]
 by_cases c:j=r.n.toNat
 .subst c;rw[Q4 hl,GO rfl];rfl
 .rw[QC (Zr c),GP c,Qs]
theorem zmg(h:InvM g ws)(ga:GAl g al)(hr:r∈g.rs){j:Nat}(o:zam (ws.at_ j) w=true):zam ((ruM ws r).at_ j) w=true:=by
 rw[zlq h ga hr]
 split
 .rename_i c
  subst c;obtain⟨v,hv,d⟩:=over_iff.mp o;obtain⟨x,hx,dx⟩:=(zak (ws.at_ r.n.toNat++zav ws r.n.toNat r.b)).bel v (Q9 _ hv);exact over_iff.mpr ⟨x,hx,zao dx d⟩
 .exact o
theorem znj(h:InvM g ws)(ga:GAl g al)(hr:r∈g.rs):InvM g (ruM ws r):=by
 have hat:=zlq h ga hr;have r0:((r.n.toNat:Nat):Int)=r.n:=ZN (ga.each r hr).1.1;refine⟨by unfold ruM;rw[QX];exact h.len,λi=>?_,λi v hv w hw=>?_,λj u hu S d cv hS=>?_⟩
 .rw[hat];split
  .exact(zak _).asc
  .exact h.asc i
 .rw[hat] at hv hw
  split at hv
  .rename_i c
   rw[GO c] at hw;exact(zak _).min v hv w ((zak _).of w hw)
  .rename_i c
   rw[GP c] at hw;exact h.anti i v hv w hw
 .have down:∀{s:Nat} {x y:List Nat},under x y=true->zam ((ruM ws r).at_ s) y=false->zam (ws.at_ s) x=false:=λ{s x y} d o=>by
   cases e:zam (ws.at_ s) x with
   | false=>rfl
   | true=>rw[zdo (zmg h ga hr e) d] at o;cases o
  have old:u∈ws.at_ j->u∈nrW d (useR S g.rs) (j:Int):=λhu=>h.good j u hu S d cv λs hs=>down (zaw u) (hS s hs)
  by_cases c:j=r.n.toNat
  .have hu':=hu;rw[hat,GO c] at hu;rcases Qu.mp ((zak _).of u hu) with z|z
   .exact old (c ▸ z)
   .rcases zpa z with y|y
    .exact old (c ▸ y)
    .have o:=zd6 _ rfl z
     have notS:∀s∈S,r.n≠s/\s ∉ nms r.b:=λs hs=>by
      constructor
      .intro e;have:=hS s hs;rw[<- e,<- c,over_iff.mpr ⟨u,hu',zaw u⟩] at this;cases this
      .intro hm;obtain⟨x,hx,dx⟩:=o.part (nms_mem.mp hm);have:=down dx (hS s hs);rw[over_iff.mpr ⟨x,hx,zaw x⟩] at this;cases this
     have notI:r.n ∉ nms r.b:=λhm=>by
      obtain⟨x,hx,dx⟩:=o.part (nms_mem.mp hm);rw[over_iff.mpr ⟨x,hx,dx⟩] at y;cases y
     have hu2:r∈useR S g.rs:=mem_useR.mpr ⟨hr,notS⟩
     obtain⟨d',rfl⟩:∃d',d=d'+1:=by
      cases d with
      | zero=>
        obtain⟨ns,hl,hm⟩:=cv;have:=hm r hu2;rw[QV.mp (VB.mp hl)] at this;cases this
      | succ d=>exact⟨d,rfl⟩
     have cv':CovR d' (useR (r.n::S) g.rs):=cv.cut hu2;rw[c,r0];refine Zy.mpr ⟨r,mem_ruI.mpr ⟨hu2,rfl,notI⟩,prod_mem.mpr (o.imp λj x hj dx hx=>?_)⟩;have j0:((j.toNat:Nat):Int)=j:=ZN ((ga.each r hr).2.2 _ hj).1
     have:=h.good j.toNat x hx (r.n::S) d' cv' λs hs=>by
      rcases Q0.mp hs with rfl|hs
      .cases e:zam (ws.at_ r.n.toNat) x with
       | false=>rfl
       | true=>rw[zdo e dx] at y;cases y
      .exact down dx (hS s hs)
     rw[j0] at this;exact this
  .rw[hat,GP c] at hu;exact old hu
theorem z0l:InvM g (Qp g.n.toNat []):=by
 have e:∀i,Ws.at_ (Qp g.n.toNat []) i = []:=λi=>by
  unfold Ws.at_;rw[Qs,QP]
  split <;> rfl
 exact⟨by simp,λi=>(by rw[e];exact .nil),λi v h=>(by rw[e] at h;cases h),λj u h=>(by rw[e] at h;cases h)⟩
theorem zc8(ga:GAl g al):∀{l:List RuG} {ws:Ws},(∀r∈l,r∈g.rs)->InvM g ws->InvM g (l.foldl ruM ws)/\∀i w,zam (ws.at_ i) w=true->zam ((l.foldl ruM ws).at_ i) w=true
 | [],_,_,h=>⟨h,λ_ _ o=>o⟩
 | r::l,ws,hl,h=>by
   have hr:=hl r Ql;obtain⟨a,b⟩:=zc8 ga (l:=l) (ws:=ruM ws r) (λx hx=>hl x (Qc _ hx)) (znj h ga hr);exact⟨a,λi w o=>b i w (zmg h ga hr o)⟩
theorem zph(ga:GAl g al)(h:InvM g ws):InvM g (zby g ws):=(zc8 ga (λ_ h=>h) h).1
theorem zjp(ga:GAl g al):∀{l:List RuG} {ws:Ws},(∀r∈l,r∈g.rs)->InvM g ws->(∀i w,zam ((l.foldl ruM ws).at_ i) w=true->zam (ws.at_ i) w=true)->∀r∈l,ruM ws r=ws
 | [],_,_,_,_=>λr hr=>nomatch hr
 | r::l,ws,hl,h,e=>by
   have hr:=hl r Ql;have hl':∀x∈l,x∈g.rs:=λx hx=>hl x (Qc _ hx);have h1:=znj h ga hr;have b:=(zc8 ga (l:=l) (ws:=ruM ws r) hl' h1).2;have s1:ruM ws r=ws:=h1.same h λi w=>⟨λo=>e i w (b i w o),λo=>zmg h ga hr o⟩;have IH:=zjp ga (l:=l) (ws:=ws) hl' h λi w o=>e i w (by show zam ((l.foldl ruM (ruM ws r)).at_ i) w=true;rw[s1];exact o);exact λx hx=>(Q0.mp hx).elim (λz=>z ▸ s1) (IH x)
theorem zv3(ga:GAl g al)(h:InvM g ws)(fx:zby g ws=ws)(i:Nat):AnsW g (i:Int) (ws.at_ i):=by
 have st:=zjp ga (l:=g.rs) (ws:=ws) (λ_ h=>h) h λi w o=>by
  have fx':g.rs.foldl ruM ws=ws:=fx;rw[fx'] at o;exact o
 have closed:∀r∈g.rs,∀w,Of (FW ws) r.b w->zam (ws.at_ r.n.toNat) w=true:=λr hr w o=>by
  rcases zh5 (i:=r.n.toNat) _ rfl o with ⟨v,hv,d⟩|z
  .obtain⟨x,hx,dx⟩:=(zak (ws.at_ r.n.toNat++zav ws r.n.toNat r.b)).bel v (Qw _ hv)
   have e:=zlq h ga hr r.n.toNat
   rw[GO rfl,st r hr] at e;exact over_iff.mpr ⟨x,e ▸ hx,zao dx d⟩
  .exact z
 have all:∀{b:List GThg} {w:List Nat},Bd g b w->∃v,Of (FW ws) b v/\under v w=true:=λ{b w} d=>by
  induction d with
  | nil=>exact⟨[],.nil,zaw _⟩
  | lt _ ih=>obtain⟨v,a,b⟩:=ih;exact⟨_,.lt a,zci (zaw _) b⟩
  | nm r hr hn _ _ ih1 ih2=>
    obtain⟨v1,a1,b1⟩:=ih1;obtain⟨v2,a2,b2⟩:=ih2;obtain⟨x,hx,dx⟩:=over_iff.mp (closed r hr v1 a1);exact⟨_,.nm (by rw[<- hn];exact hx) a2,zci (zao dx b1) b2⟩
 refine⟨h.asc i,λw hw=>?_,λw hw=>?_,h.anti i⟩
 .obtain⟨r,a,b,c⟩:=zof 2 (h.nr ga hw);exact⟨r,a,b,c.bd⟩
 .obtain⟨r,hr,hn,d⟩:=hw;obtain⟨v,o,dv⟩:=all d;have:=zdo (closed r hr v o) dv;rw[hn] at this;exact over_iff.mp (by simpa using this)
def flM(g:GraZ)(ws:Ws):Ws:=(Q7 g.n.toNat).map λ(i:Nat)=>(nrW 3 g.rs (i:Int)).filter (zam (ws.at_ i))
def muM(g:GraZ)(ws:Ws):Nat:=L3.tot (flM g ws)
theorem zht(i:Nat):(flM g ws).at_ i=if i<g.n.toNat then(nrW 3 g.rs (i:Int)).filter (zam (ws.at_ i)) else[]:=by
 unfold flM Ws.at_;rw[Qs,Qm]
 by_cases c:i<g.n.toNat
 .rw[Zk c,GO c];rfl
 .rw[Qz (by simpa using c),GP c];rfl
theorem zef{α:Type}{p q:α->Bool}:∀{l:List α},(∀x∈l,p x=true->q x=true)->(l.filter p).length<=(l.filter q).length/\((l.filter p).length=(l.filter q).length->∀x∈l,q x=true->p x=true)
 | [],_=>⟨Qg _,λ_ _ h=>nomatch h⟩
 | x::l,h=>by
   obtain⟨a,b⟩:=zef (l:=l) λy hy=>h y (Qc _ hy);have h1:=h x Ql;rw[Zs,Zs]
   cases hp:p x with
   | true=>
     rw[h1 hp,GO rfl,GO rfl,Qi,Qi];exact⟨by lia,λe y hy hq=>(Q0.mp hy).elim (λz=>z ▸ hp) λz=>b (by lia) y z hq⟩
   | false=>
     cases hq:q x with
     | true=>
       rw[GP (by decide),GO rfl,Qi];exact⟨by lia,λe=>by lia⟩
     | false=>
       rw[GP (by decide),GP (by decide)];exact⟨a,λe y hy hq'=>(Q0.mp hy).elim (λz=>(by subst z;rw[hq] at hq';cases hq')) λz=>b e y z hq'⟩
theorem zvy(ga:GAl g al)(h:InvM g ws):zby g ws=ws\/muM g ws<muM g (zby g ws):=by
 obtain⟨h',up⟩:=zc8 ga (l:=g.rs) (ws:=ws) (λ_ h=>h) h;have h':InvM g (zby g ws):=h';have up:∀i w,zam (ws.at_ i) w=true->zam ((zby g ws).at_ i) w=true:=up
 have le:∀i,((flM g ws).at_ i).length<=((flM g (zby g ws)).at_ i).length:=λi=>by
  rw[zht,zht]
  split
  .exact(zef λx _=>up i x).1
  .exact Qg _
 obtain⟨a,b⟩:=zps (a:=flM g ws) (b:=flM g (zby g ws)) (by simp[flM]) le;rcases Zp (muM g ws) (muM g (zby g ws)) with z|z
 .exact .inr z
 .refine .inl (h'.same h λi w=>⟨λo=>?_,up i w⟩);have e:=b (by unfold muM at z;lia) i;obtain⟨v,hv,d⟩:=over_iff.mp o
  have hi:i<g.n.toNat:=by
   rw[<- h'.len];refine Classical.byContradiction λc=>?_;unfold Ws.at_ at hv;rw[Qs,Qz (by lia)] at hv;cases hv
  rw[zht,zht,GO hi,GO hi] at e;exact zdo ((zef λx _=>up i x).2 e v (h'.nr ga hv) (over_iff.mpr ⟨v,hv,zaw v⟩)) d
theorem zm8{B:Nat}:∀{ws:Ws},(∀l∈ws,l.length<=B)->L3.tot ws<=ws.length * B
 | [],_=>by simp[L3.tot]
 | l::ws,h=>by
   have h1:=h l Ql;have h2:=zm8 (ws:=ws) λx hx=>h x (Qc _ hx);have:L3.tot (l::ws)=l.length+L3.tot ws:=rfl;rw[this,Qi,J8,YO];lia
theorem zyg(gl:GL g al)(ws:Ws):muM g ws<=243:=by
 have:=zm8 (ws:=flM g ws) (B:=81) λl hl=>by
  obtain⟨i,_,rfl⟩:=QD.mp hl;exact Qy (Jm _ _) (ztq gl.many gl.two)
 have e:(flM g ws).length=g.n.toNat:=by simp[flM]
 have n3:=gl.ga.n3;rw[e] at this;unfold muM;have:g.n.toNat * 81<=3 * 81:=ZJ _ (by lia);lia
end
def zga:List Ug->(R->Prop)->Prop:=λds Q=>∃ws:List (List Nat),ds = [.list (ws.map tS)]/\DmL ws/\Q (.n ((zaj ws).map tS))
theorem zpd:KOk (imF zga) [] zaj DmL:=λl dm Q q=>⟨[.list (l.map tS)],rfl,l,rfl,dm,q⟩
def zmn:List Ug->(R->Prop)->Prop:=λds Q=>∃(g:GraZ) (al:List Nat),ds = [za8 g]/\GL g al/\∀l,AnsW g 0 l->l.length<=81->(∀w∈l,Sml w)->Q (.o (.tuple (l.map tS)))
def zkx:List Ug->(R->Prop)->Prop:=λds Q=>∃(w:List Nat) (ws:List (List Nat)),ds = [tS w,.list (ws.map tS)]/\Sml w/\(∀v∈ws,Sml v)/\Q (.o (.bool (zam ws w)))
def zim:List Ug->(R->Prop)->Prop:=λds Q=>∃l m:List Nat,ds = [tS l,tS m]/\Sml l/\Sml m/\Q (.o (.bool (under l m)))
def zjg:List Ug->(R->Prop)->Prop:=λds Q=>∃l:List (List Nat),ds = [.list (l.map tS)]/\DmL l/\Q (.n ((zaj l).map tS))
def zeq:List Ug->(R->Prop)->Prop:=λds Q=>∃(g:GraZ) (al:List Nat),ds = [za8 g]/\GL g al/\∀l,AnsW g 0 l->Q (.o (.tuple (l.map tS)))
end L3
namespace L3
open PySem PySem.Spec
open PyProof.Rows hiding St
open L2
open PySem.W (CodeHd tabObj kla_obj kla_fn)
def YngL(qual:Str)(params:UR)(body:Expr)(scope:Uz)(F:Addr->Prop)(H:Hp)(f:Addr):Prop :=
 ∃(c':Addr) (oc:Obj) (vs:Array Uf) (t:Tok) (pm ctv:Uf),F f/\F c'/\H f=some (.frz (kla_obj "<lambda>" qual params body scope [] pm c' ctv) (.own 0))/\H c'=some (.frz oc (.own 0))/\oc.data = .fields vs/\vs[1]? = some (.str qual t)
section
variable {X:Cx}{pins:List (Addr×Obj)}{σ:St}{H:Hp}{s:Ui}
theorem zxj{qual:Str}{params:UR}{body:Expr}{scope:Uz}(N:Nst X.mg X.base c P)(hc:X.env.code = .ref c)(hq:(pos,qual)∈qs)(hu:∀p∈qs,(pos.line:Int)=p.1.line->(pos.col:Int)=p.1.col->p.2=qual)
 (hno:∀p∈scope.names,p.2≠.free) (hcl0:clOf scope.names X.env = []) (hd0:defaultsOf params X.env=([],[])) (hqn:X.env.qual ++ "<lambda>" = qual) (I:Inv X pins σ H s) (hP:H P=some (.cod ps qs))
 (h:∀(f:Addr) (H':Hp) (ps':Array Uf) (s':Ui),Inv X pins σ H' s'->H' P=some (.cod ps' qs)->(∀b o,H b=some o->b≠P->H' b=some o)->H f=none->YngL qual params body scope (λ_=>True) H' f->Q (.ref f) s') :
 wpAny (model X.prog X.w) X.A (eval (.Lambda params body scope pos) X.env) Q E s:=by
 obtain⟨eP,tr,cs⟩:=I.hok P _ hP;refine PySem.W.kla_eval hd0 ?_;rw[hqn];have hcl:=zhu (scope:=scope) (env:=X.env) λp hp hk=>absurd hk (hno p hp);rw[hcl0] at hcl;have hgs:s.heap.Ns mainGlobals X.mg:=I.mod.glob.keeps I.bk
 cases hcm:UI pos ps.toList with
 | none=>
   refine PySem.W.kla_makeFunction (mg:=X.mg) hcl I.ok.glob hgs hc (N.hd.keeps I.bk) eP tr hcm (zxu I hP) (zqn N I hP) λc' ctv h' tk hx' hge hlt hrec htb=>?_;obtain⟨oc,vs,t,hd,hv,I1⟩:=zrs (fo:=kla_obj "<lambda>" qual params body scope [] ((X.mg "__name__").getD .none) c' ctv) (tk:=tk) rfl I hP hu hx' hge hlt hrec htb;have ltP:P<s.heap.objs.size:=Qv eP;have nc:c'≠P:=λz=>QY _ (Q2 (z ▸ ltP) hge);have hsz:s.heap.objs.size<=h'.objs.size:=Qy hge (J9 hlt);have nf:h'.objs.size≠P:=λz=>QY _ (Q2 ltP (z ▸ hsz));have nfc:h'.objs.size≠c':=λz=>QY _ (z ▸ hlt);have hc0:H c'=none:=I.hok.fresh hge;have hf0:H h'.objs.size=none:=I.hok.fresh hsz;refine h h'.objs.size _ (ps ++ #[U1 pos.line,U1 pos.col,.ref c']) _ I1 ?_ (λb o e n=>?_) hf0 ⟨c',oc,vs,t,_,ctv,trivial,trivial,zac,?_,hd,hv⟩
   .rw[zaa (Zr nf),zaa (Zr nc),zac]
   .rw[zaa (zar e hf0),zaa (zar e hc0),zaa n];exact e
   .rw[zaa (Zr nfc),zac]
 | some cv=>
   obtain⟨c',oc,vs,t,rfl,a2,a3,a4⟩:=cs _ hq _ hcm;refine PySem.W.kla_makeFunctionHit (mg:=X.mg) hcl I.ok.glob hgs hc (N.hd.keeps I.bk) eP tr hcm (zqn N I hP) λctv h' tk hk hsz=>?_;have hf0:H h'.objs.size=none:=I.hok.fresh hsz
   have I1:=I.laid (t':=tk) (o:=.frz (kla_obj "<lambda>" qual params body scope [] ((X.mg "__name__").getD .none) c' ctv) (.own 0)) (a:=h'.objs.size) (h':=h'.push (kla_obj "<lambda>" qual params body scope [] ((X.mg "__name__").getD .none) c' ctv))
    (λb u e=>Qj _ (hk b u e)) hsz ⟨Q1 _ rfl,_,Q1 _ rfl⟩
   refine h h'.objs.size _ ps _ I1 ?_ (λb o e n=>?_) hf0 ⟨c',oc,vs,t,_,ctv,trivial,trivial,zac,?_,a3,a4⟩
   .rw[zaa (zar hP hf0)];exact hP
   .rw[zaa (zar e hf0)];exact e
   .rw[zaa (zar a2 hf0)];exact a2
theorem zok{k n:Nat}(c:Calls X.prog X.w X.K X.mg X.base k f G ws n sp)(hr:Room (k+1) X.A)(I:Inv X pins σ H s)(g:Kn H G)(r:Vals vs us)(hl:vs.length=n)(h:sp (vs++ws) H Q E0):
 wpAny (model X.prog X.w) X.A.in1.in1 (call (.ref f) us) (EP X pins σ Q) (λ_ _=>False) s:=by
 refine G6 (UT (c.run X.A.in1.in1 X.stack s H us vs Q hr.in2 I.env0.in1.in1 g r hl h) λr s' hq=>?_)
 cases r with
 | error e=>exact Zl hq
 | ok fl=>
   cases fl with
   | ret u=>exact I.after hq
   | next=>exact Zl hq
   | brk=>exact Zl hq
   | cont=>exact Zl hq
end
section
variable {P:Um}{w:Uq}{K:Qa}{mg:Str->Option Uf}{base:Heap}{k:Nat}{φ:Ob->Prop}{N:List Str}{qual x:Str}{params:UR}{body:Expr}{scope:Uz}{pm ctv:Uf}{f c':Addr}{oc:Obj}{vv:Array Uf}{t:Tok}
 {A:Us} {outer:List Env} {s:Ui} {H:Hp} {us:List Uf} {vs:List V} {Q:VK} {E:XK}
theorem zrq:cutC [] H=H:=funext λb=>zcv (by simp)
theorem zv7(S:FnScopeC N [x] [] scope)(hr:Room (k+1) A)(e0:Env0 P w K mg base A outer s H)(hf:H f=some (.frz (kla_obj "<lambda>" qual params body scope [] pm c' ctv) (.own 0)))(hc:H c'=some (.frz oc (.own 0)))(hd:oc.data = .fields vv)(hv:vv[1]? = some (.str qual t))
 (hno:∀p∈scope.names,p.2≠.free) (hb:U8 (kla_fn "<lambda>" qual params body scope [] pm (.ref c') ctv) ⟨us,[]⟩=pure ([x].zip us)) (r:Vals vs us) (hl:vs.length=1)
 (ht:Room k (A.deeper (zkr qual scope s.heap.objs.size f (.ref c') []))->∃t,PE (cxCl P w K mg base N qual scope f (.ref c') [] A outer s H) body t/\t (L2.start N vs) H Q) :
 Gn (model P w) A (.call (.ref f) ⟨us,[]⟩) (CR CX0 outer P w H s Q E) s:=by
 have hpl:1<=N.length:=by have:=GV J4 S.pre;rw[Q8] at this;simp at this;lia
 refine PySem.W.kla_callFunE hr.depth (e0.hok f _ hf).1 rfl S.co S.gen rfl ⟨c',oc,vv,t,rfl,(e0.hok c' _ hc).1,hd,hv⟩ ?_;rw[hb];refine Uo ?_;refine zor λh' hn kp hcs g hg=>?_;have I0:=zvu (c':=c') (qual:=qual) (f:=f) (as:=[]) (clos:=[]) (ws:=[]) S hr.hd e0 (λb hb=>nomatch hb) (λx c e=>nomatch e) (λx e=>absurd rfl (hno _ e)) (λx y c e=>nomatch e) rfl (λi x c e _=>nomatch e) (h':=h') (tk:=s.toks) hn kp hcs;rw[zrq] at I0
 have hps:∀(j:Nat) y,[x][j]? = some y->N[j]? = some y:=λj y e=>by
  have hj:j<1:=(Qk.mp e).1;have e1:(N.take 1)[j]? = some y:=by have:=S.pre;simp only[ZC,J0,JE,Qx] at this;rw[this];exact e
  rw[Jv hj] at e1;exact e1
 rw[show([x]:List Str).length=vs.length from hl.symm] at I0;refine znc (X:=cxCl P w K mg base N qual scope f (.ref c') [] A outer s H) (H:=H) S.nd g hg (Qp (N.length-(vs.length+0)) none) [x] us vs [] _ hl.symm r (by simpa using I0) (λj y e=>?_) λs1 I1=>?_
 .have e':=hps j y e;have hx:=S.par y (Q5 e);refine⟨show N[([]:List V).length+j]? = some y by simpa using e',hx,?_⟩;show(scope.names.lookup y != some QM)=true;rcases hx with z|z <;> rw[z] <;> decide
 have est:([]++vs).map some++Qp (N.length-(vs.length+0)) none=L2.start N vs:=by
  unfold L2.start;rw[Jl,JE]
 rw[est] at I1;refine⟨I1.nolimit,PySem.W.kla_codeExpr ?_⟩;obtain⟨t,ht,hq⟩:=ht (hr.deeper _);refine Uv (ht [] s1 (L2.start N vs) H Q I1 hq) (λu s' hs=>?_) λe s' hs=>hs.elim;obtain⟨v,H',J,rv,q⟩:=hs;have bu:Un (frs outer) [] H H' s.heap s'.heap:=J.base;exact⟨v,H',J.os,J.bare,bu,J.hok,rv,q⟩
def LamB(P:Um)(w:Uq)(K:Qa)(mg:Str->Option Uf)(base:Heap)(k:Nat)(φ:Ob->Prop)(N:List Str)(qual:Str)(scope:Uz)(body:Expr)(F:List Ug->(R->Prop)->Prop):Prop :=
 ∀(f:Addr) (cd:Uf) (A:Us) (outer:List Env) (s:Ui) (H:Hp) (O:Ob),φ O->Ctx3 P w K mg base k (λ_:Unit=>cxCl P w K mg base N qual scope f cd [] A outer s H) ->
   ∃g,E3 K (λ_:Unit=>cxCl P w K mg base N qual scope f cd [] A outer s H) (λ_:Unit=>O) body g/\∀d Qr,F [d] Qr->g (zbo N [.im d]) Qr
theorem zqe(B:LamB P w K mg base k φ N qual scope body F)(S:FnScopeC N [x] [] scope)(hno:∀p∈scope.names,p.2≠.free)
 (hb:∀(pm cdv ctv:Uf) (us:List Uf),us.length=1->U8 (kla_fn "<lambda>" qual params body scope [] pm cdv ctv) ⟨us,[]⟩=pure ([x].zip us)) (hd:oc.data = .fields vv) (hv:vv[1]? = some (.str qual t)) :
 Calls P w K mg base (k+1) f [(f,kla_obj "<lambda>" qual params body scope [] pm c' ctv,0),(c',oc,0)] [] 1 (spO K φ 1 F):=by
 refine⟨λA outer s H e0 g M=>?_,λA outer s H us vs Q hr e0 g r hl q=>?_⟩
 .have h1:=(e0.hok f _ (g _ Ql)).1;exact PySem.W.keeps_F _ ⟨_,_,_,_,h1⟩
 .have h1:H f=some (.frz (kla_obj "<lambda>" qual params body scope [] pm c' ctv) (.own 0)):=g _ Ql;have h2:H c'=some (.frz oc (.own 0)):=g (c',oc,0) (Qc _ Ql);rw[Qx] at q;obtain⟨O,ds,Qr,ok,hφ,p,hln,is,hF,kk⟩:=q;refine zv7 (N:=N) (k:=k) S hr e0 h1 h2 hd hv hno (hb _ _ _ _ (by rw[<- r.length,hl])) r hl λhr2=>?_;obtain⟨gg,⟨t1,p1,p2⟩,h⟩:=B f (.ref c') A outer s H O hφ ⟨λ_=>rfl,λ_=>rfl,λ_=>rfl,λ_=>rfl,λ_=>rfl,λ_=>rfl,λ_=>hr2,λ_=>rfl⟩;refine⟨t1,p1 (),?_⟩
  obtain⟨d,rfl⟩:∃d,ds = [d]:=by
   match ds,hln with
   | [d],_=>exact⟨d,rfl⟩
  have rp:=zfu (N:=N) (rs:=[.im d]) ok p is.length λi r e=>by
   cases i with
   | zero=>
     cases e;obtain⟨v,hv,iv⟩:=is.get (i:=0) rfl;exact⟨v,hv,.inl ⟨d,rfl,iv⟩⟩
   | succ i=>cases e
  exact p2 () _ H _ Q Qr rp.seen (h d Qr hF) λv H' r s1 o1 q1=>kk r q1 v H' s1 o1
end
end L3
namespace L6
open PySem PySem.Spec
open PyProof.Rows hiding St
open L2 L3
section
variable {X:Cx}{pins:List (Addr×Obj)}{σ:St}{H:Hp}{s:Ui}
def zie(P:Um)(w:Uq)(K:Qa)(mg:Str->Option Uf)(base:Heap)(k:Nat)(T:Addr)(qs:List (Pos×Str))(Y:Hp->Addr->Prop)(ta:TE):TE:=λσ H Q=>ta σ H λv H1=>∃p xs ps,v = .ref p/\H1 p=some (.lst xs)/\xs.length<=1000000/\H1 T=some (.cod ps qs) /\
 ∀(f:Addr) (H2:Hp) (ps':Array Uf),H2 T=some (.cod ps' qs)->(∀b o,H1 b=some o->b≠T->H2 b=some o)->H1 f=none->Y H2 f->∃(G:List (Addr×Obj×Addr)) (sp:Sp),Kn H2 G/\Calls P w K mg base k f G [] 1 sp /\
   zfb (λvs H Q E=>Kn H G/\sp vs H Q E) (λks H2=>∃(α:Type) (blt:α->α->Bool) (k:Nat->α),KeysV K H2 ks α blt k/\∀ix l,Ord blt k xs.length ix->H2 l=none->Q (.ref l) (upd H2 l (.lst (zcq .non xs ix)))) xs [] H2
theorem zrk{k:Nat}{qual:Str}{params:UR}{body:Expr}{scope:Uz}{lpos:Pos}(hr:Room (k+1) X.A)(hg:Gl X "sorted")(hm:X.mg "sorted" = none)
 (N:Nst X.mg X.base c T) (hc:X.env.code = .ref c) (hqm:(lpos,qual)∈qs) (hu:∀p∈qs,(lpos.line:Int)=p.1.line->(lpos.col:Int)=p.1.col->p.2=qual)
 (hno:∀p∈scope.names,p.2≠.free) (hcl0:clOf scope.names X.env = []) (hd0:defaultsOf params X.env=([],[])) (hqn:X.env.qual ++ "<lambda>" = qual) (ha:PE X a ta) (hs:Ul [a] X.env = [(false,eval a X.env)]:=by rfl) :
 PE X (.Call (.Name "sorted" p) [a] [⟨some "key",.Lambda params body scope lpos,kp⟩] pos) (zie X.prog X.w X.K X.mg X.base k T qs (YngL qual params body scope λ_=>True) ta):=by
 intro pins s σ H Q I h;refine Uy (zcs I hg hm zfw ?_);refine callWith_kw ?_ (by rw[hs];rfl) (by rw[hs];rfl) rfl rfl;rw[hs];refine ZE (thn (ha pins s σ H _ I h) λu s1 zz=>?_);obtain⟨v,H1,I1,r1,q,xs,ps,ev,hq,h64,hP,go⟩:=zz;subst ev;obtain rfl:u=ZD q:=r1;refine ZW ?_;refine kws_cons (zxj N hc hqm hu hno hcl0 hd0 hqn I1 hP λf H2 ps2 s2 I2 hP2 kp2 hf2 hy=>kws_nil ?_);have hq2:H2 q=some (.lst xs):=kp2 q _ hq λz=>by rw[z,hP] at hq;cases hq
 obtain⟨G,sp,hG,hc2,go⟩:=go f H2 ps2 hP2 kp2 hf2 hy;clear I1 hq hP;show wpAny (model X.prog X.w) X.A (call (.builtin "sorted") [.ref q] [(JU "key",.ref f)]) _ _ s2;obtain⟨hz,vs,n,rv,hlv,e1⟩:=I2.lstM hq2;have hv64:vs.length<=1000000:=by lia
 refine Gm kind_sorted plain_sorted entry_sorted (YW _ _) ?_;unfold Builtin.«sorted»;refine Uh (m:=checkCount "sorted" 1 1 _) (Uo ?_);refine Uh (collect_list ⟨_,e1,rfl,n,rfl⟩ ?_ (by rw[Ur];lia));refine Uh (Gg ?_);generalize eh0:(s2.heap.push (seqObj "list" #[] 0)).update s2.heap.objs.size (QS (· ++ vs.toArray))=h0;have sz0:h0.objs.size=s2.heap.objs.size+1:=by rw[<- eh0,JL,Ga]
 have k0:∀b u,s2.heap.get? b=some u->h0.get? b=some u:=λb u e=>by
  rw[<- eh0,QI _ _ _ _ (QN (Qv e))];exact Qj _ e
 have hoL:(h0.push (seqObj "list" vs.toArray 0)).get? h0.objs.size=some (seqObj "list" vs.toArray 0):=Q1 _ rfl;show wpAny (model X.prog X.w) X.A.in1 _ _ _ { s2 with heap:=h0.push (seqObj "list" vs.toArray 0) };refine Uh (U5 (wpAny_call_entry_kw slot_list_sort ⟨_,hoL,rfl⟩ entry_list_sort ?_ (YX _ _)));rw[YY];unfold YE;refine Uh (GA hoL rfl ?_);refine Uh (UV hoL rfl ?_ (by rw[Ur];simp;lia));obtain⟨ea,ho1⟩:∃ea,((h0.push (seqObj "list" vs.toArray 0)).update h0.objs.size (QS λ_=>#[])).get? h0.objs.size=some (seqObj "list" #[] ea):=⟨_,UA hoL (λ_=>#[])⟩;refine Uh (GG ho1 rfl ?_);refine Uh (wpAny_newTuple ?_);refine Uh (Gg ?_);refine U5 ?_;generalize eh2:(h0.push (seqObj "list" vs.toArray 0)).update h0.objs.size (QS λ_=>#[])=h2 at ho1;have sz2:h2.objs.size=h0.objs.size+1:=by rw[<- eh2,JL,Ga]
 have k2:∀b u,s2.heap.get? b=some u->h2.get? b=some u:=λb u e=>by
  have:=k0 b u e;rw[<- eh2,QI _ _ _ _ (QN (Qv this))];exact Qj _ this
 -- the list that is sorted,the keys' list
 generalize eq2:h0.objs.size=q2 at ho1 hoL sz2 sz0;generalize eh3:h2.push (seqObj "tuple" vs.toArray 0)=h3;have sz3:h3.objs.size=q2+2:=by rw[<- eh3,Ga,sz2]
 have k3:∀b u,h2.get? b=some u->(h3.push (seqObj "list" #[] 0)).get? b=some u:=λb u e=>by
  refine Qj _ ?_;rw[<- eh3];exact Qj _ e
 show wpAny (model X.prog X.w) X.A.in1.in1 (YF q2 (.ref f) false vs.toArray ea (.ref h3.objs.size)) _ _ { s2 with heap:=h3.push (seqObj "list" #[] 0) };have fq:FpOk X pins H2 q2:=I2.fpOk (by lia) (I2.hok.fresh (by lia));have fk:FpOk X pins H2 h3.objs.size:=I2.fpOk (by lia) (I2.hok.fresh (by lia));have hne:h3.objs.size≠q2:=by lia
 have I3:Inv X pins σ H2 { s2 with heap:=h3.push (seqObj "list" #[] 0) }:=I2.kept (t':=s2.toks) λb u e=>k3 b u (k2 b u e);have oq:=k3 _ _ ho1;have ok:(h3.push (seqObj "list" #[] 0)).get? h3.objs.size=some (seqObj "list" #[] 0):=Q1 _ rfl;generalize h3.push (seqObj "list" #[] 0)=h4 at I3 oq ok ⊢;generalize h3.objs.size=kS at fk hne ok ⊢
 refine zje (λi ks s'=>∃(H':Hp) (kvs:List V) (e:Nat),Inv X pins σ H' s'/\H' q2=none/\H' kS=none/\s'.heap.get? q2=some (seqObj "list" #[] ea)/\s'.heap.get? kS=some (seqObj "list" ks.toArray e)/\Vals kvs ks /\
  zfb (λvs H Q E=>Kn H G/\sp vs H Q E) (λks H2=>∃(α:Type) (blt:α->α->Bool) (k:Nat->α),KeysV X.K H2 ks α blt k/\∀ix l,Ord blt k xs.length ix->H2 l=none->Q (.ref l) (upd H2 l (.lst (zcq .non xs ix)))) (xs.drop i) kvs H') hv64
  ⟨H2,[],0,I3,fq.1,fk.1,oq,ok,.nil,go⟩ (λi x ks s' hx hk ⟨H',kvs,e,I',n1,n2,o1,o2,rk,g⟩=>?_) λks s' hl ⟨H',kvs,e,I',n1,n2,o1,o2,rk,g⟩=>?_
 .have hi:i<vs.length:=(Qk.mp hx).1;have hi':i<xs.length:=by lia
  obtain⟨u,hu,ru⟩:=Vals.get rv (Qb hi');rw[hx] at hu;cases hu;rw[QJ hi'] at g
  have I4:Inv X (pins ++ [(q2,seqObj "list" #[] ea),(kS,seqObj "list" ks.toArray e)]) σ H' s':=I'.pins_of λp hp=>by
   rcases Qu.mp hp with hp|hp
   .exact I'.pin p (Qw _ hp)
   .rcases Q0.mp hp with rfl|hp
    .exact⟨o1,n1,fq.2.1,fq.2.2.1,λv z=>by cases z⟩
    .rw[Qn.mp hp];exact⟨o2,n2,fk.2.1,fk.2.2.1,λv z=>by cases z⟩
  refine Uv (zok hc2 hr I4 g.1 (.cons ru .nil) rfl g.2) (λkv s5 zz=>?_) λ_ _ z=>z;obtain⟨v,H'',I6,r4,g4⟩:=zz;have p1:=I6.pin (q2,seqObj "list" #[] ea) (by simp);have p2:=I6.pin (kS,seqObj "list" ks.toArray e) (by simp);have I5:Inv X pins σ H'' s5:=I6.pins_of λp hp=>I6.pin p (by simp[hp])
  obtain⟨e',eu⟩:∃e',(s5.heap.update kS (QS (·.push kv))).get? kS=some (seqObj "list" (ks ++ [kv]).toArray e'):=by
   have z:=UA p2.1 (λxs=>xs.push kv);have z2:ks.toArray.push kv=(ks ++ [kv]).toArray:=by simp
   exact⟨_,z.trans (GV (λa=>some (seqObj "list" a _)) z2)⟩
  refine⟨⟨e,p2.1⟩,H'',kvs ++ [v],e',I5.turned (it:=kS) (t':=s5.toks) (λb o hb z=>by rw[QI _ _ _ _ hb];exact z) p2.2.1 fk.2.1 fk.2.2.2.1 fk.2.2.2.2.1 fk.2.2.2.2.2,p1.2.1,p2.2.1,?_,eu,Vals.append rk (.cons r4 .nil),g4⟩;show(s5.heap.update kS _).get? q2=_;rw[QI _ _ _ _ (Zr hne)];exact p1.1
 .rw[<- hlv,Zx (Qg _)] at g;obtain⟨α,blt,k,kv,q⟩:=g;refine⟨α,blt,k,e,o2,o1,hne,zls I' kv rk hl,λix o=>⟨_,rfl,Uo ⟨_,rfl,?_⟩⟩⟩;have IA:=I'.turned (it:=kS) (t':=s'.toks) (h':=s'.heap.update kS (QS λ_=>#[])) (λb o hb z=>by rw[QI _ _ _ _ hb];exact z) n2 fk.2.1 fk.2.2.2.1 fk.2.2.2.2.1 fk.2.2.2.2.2
  have oA:(s'.heap.update kS (QS λ_=>#[])).get? q2=some (seqObj "list" #[] ea):=by
   rw[QI _ _ _ _ (Zr hne)];exact o1
  refine⟨.ref q2,upd H' q2 (.lst (zcq .non xs ix)),IA.adopt (t':=s'.toks) ⟨n1,fq.2⟩ (λb u hb z=>by rw[QI _ _ _ _ hb];exact z) ?_,rfl,q ix q2 (by rw[hlv];exact o) n1⟩;refine⟨by unfold zcq;rw[Qe,Z1];exact hz,zcb vs ix,_,Vals.pick rv o.bj,UA oA _⟩
end
end L6
namespace L3
open PySem PySem.Spec
open PyProof.Rows hiding St
open L2 L6
section
variable {K:Qa}{O:Ob}
theorem zm4(ok:O.Ok)(hφ:φ O)(gm:∀p∈G,¬O.M p.1):
 ∀(ds:List Ug) (xs:List V) (done:List (Int×Str)) (ks:List V) (H:Hp),O.P H->Kn H G->IsAll K (unM O) H xs ds->KsAre K H ks done->(∀d∈ds,F [d] λr=>r.d = .tuple [.int (kf d).1,.str (kf d).2]) ->
   (∀ks' H',Stp O H H'->KsAre K H' ks' (done++ds.map kf)->Z ks' H')->zfb (λvs H Q E=>Kn H G/\spO K φ 1 F vs H Q E) Z xs ks H
 | [],[],done,ks,H,p,_,.nil,hk,_,k=>k ks H (.refl _ _) (by simpa using hk)
 | d::ds,x::xs,done,ks,H,p,gk,.cons ix is,hk,hF,k=>by
   refine⟨gk,O,[d],_,ok,hφ,p,rfl,.cons ix .nil,hF d (by simp),λr hr v H' st o=>?_⟩;have iv:=o.is ok p;rw[hr] at iv;obtain⟨a,rfl,q⟩:=zng iv;refine zm4 ok hφ gm ds xs (done ++ [kf d]) (ks ++ [.ref a]) H' (st.p p) (λq hq=>st.s _ _ (gk q hq) (gm q hq)) (is.stp st (λ_ f=>f) (λ_ f=>f)) ((hk.stay st.t).snoc q) (λe he=>hF e (Qc _ he)) λks' H2 st2 hk2=>k ks' H2 (st.trans st2) ?_;rw[Qo] at hk2;exact hk2
theorem zq0{mg:Str->Option Uf}{base:Heap}{k:Nat}{qual:Str}{params:UR}{body:Expr}{scope:Uz}(hφ:φ O)(hT:HasTab T qs O)
 (hC:∀(f c':Addr) (oc:Obj) (vv:Array Uf) (t:Tok) (pm ctv:Uf),oc.data = .fields vv->vv[1]? = some (.str qual t)->Calls P w K mg base k f [(f,VF "<lambda>" qual params body scope [] pm c' ctv,0),(c',oc,0)] [] 1 (spO K φ 1 F)) (h:ED K O te f) :
 ED K O (zie P w K mg base k T qs (YngL qual params body scope λ_=>True) te) (zge F f):=λσ H ρ Q Qd S hf kk=>by
 refine h σ H ρ _ _ S hf λv H1 r s1 o1 zz=>?_;obtain⟨ds,kf,e,hl,hF,q⟩:=zz;have i:=o1.is S.ok S.p;have p1:=s1.p S.p;rw[e] at i
 cases i with
 | list f1 a1 b1=>
   rename_i a xs
   have hlx:=b1.length;obtain⟨ps,hP⟩:=hT.at_ H1 p1;refine⟨a,xs,ps,rfl,a1,by rw[hlx];exact hl,hP,λf H2 ps' hP' kp hf2 zz=>?_⟩;obtain⟨c',oc,vs,t,pm,ctv,_,_,h1,h2,h3,h4⟩:=zz
   have st:Stp O H1 H2:=⟨λa o e n=>kp a o e λz=>n (z ▸ hT.m),λp=>S.ok.grow _ H2 (λb o e=>by
    by_cases z:b=T
    .subst z;rw[zac] at e;cases e;exact hP'
    .rw[zaa z] at e;exact kp b o e z) (hT.upd H1 ps' p),λa u hu e=>kp a u e λz=>by
    obtain⟨xs,y|⟨o,y⟩⟩:=hu <;> (rw[z,hP,y] at e;cases e)⟩
   have p2:=st.p p1;have un:∀(a:Addr) (o:Obj),H2 a=some (.frz o (.own 0))->¬O.M a:=λa o e m=>(S.ok.mutb H2 a _ p2 e m).2 _ _ rfl
   have gm:∀p∈[(f,VF "<lambda>" qual params body scope [] pm c' ctv,(0:Addr)),(c',oc,0)],H2 p.1=some (.frz p.2.1 (.own p.2.2))/\p.2.2=0:=λp hp=>by
    rcases Q0.mp hp with rfl|hp
    .exact⟨h1,rfl⟩
    .rw[Qn.mp hp];exact⟨h2,rfl⟩
   refine⟨_,_,λp hp=>(gm p hp).1,hC f c' oc vs t pm ctv h3 h4,?_⟩;have b2:IsAll K (unM O) H2 xs ds:=b1.stp st (λ_ f=>f) (λ_ f=>f);refine zm4 (kf:=kf) S.ok hφ (λp hp=>un p.1 p.2.1 (by have:=gm p hp;rw[this.2] at this;exact this.1)) ds xs [] [] H2 p2 (λp hp=>(gm p hp).1) b2 ⟨rfl,λi v p e1 _=>by simp at e1⟩ hF λks H3 st2 hk=>?_;refine⟨_,_,_,.pair (ds.map kf) ks hk.1 hk.2,λix l od hn=>?_⟩;have isAll2:IsAll K (unM O) H3 xs ds:=b2.stp st2 (λ_ f=>f) (λ_ f=>f);have hb:∀i,i<xs.length->ix i<ds.length:=λi hi=>by rw[<- hlx];exact od.bj.lt i hi
   have pk:=zh2 isAll2 (n:=xs.length) hb
   have es:((Q7 xs.length).map λi=>ds.getD (ix i) .none)=zc5 kf ds:=by
    have up:Up plt (λi=>kfl kf (ds.getD i .none)) ix xs.length:=by
     intro i j hij hj;have:=od.up i j hij hj;have h1:=hb i (by lia);have h2:=hb j hj
     have key:∀m,m<ds.length->kfl kf (ds.getD m .none)=(((ds.map kf).getD m (0,Z2)).1,((ds.map kf).getD m (0,Z2)).2.cps.toList):=λm hm=>by
      simp[kfl,Qs,hm]
     unfold Rk at this ⊢;dsimp only at this ⊢;rw[key _ h1,key _ h2];exact this
    have:=zg7 (key:=kfl kf) (g:=λi=>ds.getD i .none) zmc up od.bj;rw[this];unfold zc5
    congr 1
    rw[hlx];refine Zw λi=>?_
    by_cases hi:i<ds.length
    .simp[hi]
    .rw[Qz (by simp;lia),Qz (by lia)]
   rw[es] at pk;obtain⟨c1,c2⟩:=zce (K:=K) S.ok hn pk;exact kk _ _ _ (((s1.trans st).trans st2).trans c1) (c2.ahead S.ok S.p ((s1.trans st).trans st2)) q
end
theorem zry{ι κ:Type}{P:Um}{w:Uq}{K:Qa}{mg:Str->Option Uf}{base:Heap}{k:Nat}{X:ι->Cx}{O:κ->Ob}{a:Expr}{fa:DE}{pos p lpos kp:Pos}{k':Nat}{c T:Addr}{qs:List (Pos×Str)}{qual x:Str}{params:UR}{body:Expr}{scope:Uz}{Nl:List Str}{φ:Ob->Prop}{F:List Ug->(R->Prop)->Prop}
 (C:Ctx3 P w K mg base k X) (B:Blt mg) (N:Nst mg base c T) (hT:∀j,HasTab T qs (O j)) (hφ:∀j,φ (O j)) (L:LamB P w K mg base k' φ Nl qual scope body F) (S:FnScopeC Nl [x] [] scope) (hc:∀i,(X i).env.code = .ref c) (hqm:(lpos,qual)∈qs) (hu:∀p∈qs,(lpos.line:Int)=p.1.line->(lpos.col:Int)=p.1.col->p.2=qual) (ha:E3 K X O a fa)
 (hno:∀p∈scope.names,p.2≠.free) (hb:∀(pm cdv ctv:Uf) (us:List Uf),us.length=1->U8 (PySem.W.kla_fn "<lambda>" qual params body scope [] pm cdv ctv) ⟨us,[]⟩=pure ([x].zip us)) (hk:k'+2<=k:=by decide)
 (hcl0:∀i,clOf scope.names (X i).env = []:=by intro i;rfl) (hd0:∀i,defaultsOf params (X i).env=([],[]):=by intro i;rfl) (hqn:∀i,(X i).env.qual ++ "<lambda>" = qual:=by intro i;rfl)
 (hg:∀i,Gl (X i) "sorted" := by intro i;rfl) (hs:∀i,Ul [a] (X i).env = [(false,eval a (X i).env)]:=by intro i;rfl) :
 E3 K X O (.Call (.Name "sorted" p) [a] [⟨some "key",.Lambda params body scope lpos,kp⟩] pos) (zge F fa):=by
 obtain⟨t,q,d⟩:=ha;refine⟨zie P w K mg base (k'+1) T qs (YngL qual params body scope λ_=>True) t,λi=>?_,λj=>zq0 (hφ j) (hT j) (λf c' oc vv t pm ctv h1 h2=>zqe L S hno hb h1 h2) (d j)⟩;have h:=zrk (X:=X i) (k:=k'+1) (c:=c) (T:=T) (qs:=qs) (qual:=qual) (params:=params) (body:=body) (scope:=scope) (lpos:=lpos) (ta:=t) (a:=a) (p:=p) (kp:=kp) (pos:=pos) ((C.room i).mono hk) (hg i) (by rw[C.hmg];exact B.sorted) (by rw[C.hmg,C.hb];exact N) (hc i) hqm hu hno (hcl0 i) (hd0 i) (hqn i) (q i) (hs i);rw[C.hP,C.hw,C.hK,C.hmg,C.hb] at h;exact h
def ztv(T:Thg)(g:DGA):DGA:=λρ Q=>g ρ λrs=>Q (.thr T::rs)
section
variable {K:Qa}{O:Ob}{mg:Str->Option Uf}
theorem zyf{base:Heap}{k_ n:Nat}(c:Calls P w K mg base k_ f [] [] n (sp K))(h':AG K O u g):AG K O (zat (tC (.ref f)) u) (ztv (zhw P w mg base k_ n sp []) g):=λσ H ρ Q Qd S hf k=>by
 refine h' σ H ρ _ _ S hf λvs H2 rs s2 o2 q2=>?_;exact k (.ref f::vs) H2 (.thr (zhw P w mg base k_ n sp [])::rs) s2 ⟨.inr (.inr (.inr ⟨_,rfl,λ_=>False,λa z=>z.elim,f,[],[],rfl,λp hp=>(nomatch hp),λp hp=>(nomatch hp),.nil,c⟩)),o2⟩ q2
end
section
variable {ι κ:Type}{P:Um}{w:Uq}{K:Qa}{mg:Str->Option Uf}{base:Heap}{k:Nat}{X:ι->Cx}{O:κ->Ob}{es:List Expr}{gg:DGA}
theorem zzr{k' n:Nat}(C:Ctx3 P w K mg base k X)(D:Def3 P w K mg base k' x ps (spO K φ n F))(hs:AG3 K X O es gg)(hn:ps.length=n:=by rfl)(hg:∀i,Gl (X i) x:=by intro i;rfl)(hdb:(x == ("__debug__" : Str))=false:=by decide)
 (he:∀i,Ul (.Name x px::es) (X i).env=(false,eval (.Name x px) (X i).env)::Ul es (X i).env:=by intro i;rfl):AG3 K X O (.Name x px::es) (ztv (zhw P w mg base k' n (λK=>spG K φ n (imF F)) []) gg):=by
 obtain⟨f,fd,G,m,kp,bn⟩:=D.ex;obtain⟨_,p2,d2⟩:=hs;exact⟨_,λi=>zaq (zui (v:=.ref f) (hg i) (by rw[C.hmg];exact m) rfl hdb) (p2 i) (he i),λj=>zyf (zsc D m hn) (d2 j)⟩
end
section
variable {K:Qa}{O:Ob}
def ztj(n:Nat)(fo:DOw)(fi:DE):DS:=λDd ρ=>fo ρ λy=>∃ds:List Ug,ρ[n]? = some (some (.thg (OwnT (.list ds))))/\fi ρ λri=>∃k:Nat,ri.d = .int (k:Nat)/\k<ds.length/\Dd.nx (ρ.set n (some (.thg (OwnT (.list (ds.set k y))))))
theorem zs8{n:Nat}(hv:EOw K O tv fo)(hi:ED K O ti fi):SD K O (tAsg tv (gSub (tVar n) ti zoc)) (ztj n fo fi):=λH₀ A σ H ρ D Dd r q P=>by
 refine hv σ H ρ _ _ r.seen q λw H1 y bs s1 ow n1 f1 zz=>?_;obtain⟨ds,e,q1⟩:=zz;have r1:=r.stp s1;obtain⟨v0,hv0,_,as,nd,m,o⟩:=r1.at_ n _ e;refine⟨_,hv0,?_⟩;refine hi σ H1 ρ _ _ r1.seen q1 λz H2 x s2 o2 zz=>?_;obtain⟨k,ek,hk,q2⟩:=zz;have s12:=s1.trans s2;have nM:∀b,A n b->¬O.M b:=λb z=>(r.own n b z).2.2;have mB:∀b∈bs,¬O.M b:=λb mb=>zba r.ok r.p (f1 b mb)
 have nA:∀b∈bs,¬A n b:=λb mb z=>by
  obtain⟨_,⟨o,q,_⟩,_⟩:=r.own n b z;rw[f1 b mb] at q;cases q
 have oo:=zfm s2 (λa z=>nM a (m a z)) o;have ob:=zfm s2 mB ow;have iz:=o2.is r1.ok r1.p;rw[ek] at iz;cases iz
 cases oo with
 | leaf f _=>exact absurd f zbt
 | @list a xs _ cs hx ox=>
   have Aa:A n a:=m a Ql;obtain⟨d',hd'⟩:∃d',ds[k]? = some d':=⟨_,Qb hk⟩;obtain⟨v',cs',rest,g1,g2,g3,put⟩:=ox.at hd';have stay:∀b u,H2 b=some u->¬A n b->upd H2 a (.lst (xs.set k w)) b=some u:=λb u q z=>by rw[zaa (show b≠a from λw=>z (by rw[w];exact Aa))];exact q
   have ts:TupStay H2 (upd H2 a (.lst (xs.set k w))):=(r.stp s12).tstay stay;have nac:a ∉ cs:=(QW.mp nd).1;have mr:∀b∈rest,b∈cs:=λb mb=>g3.mem_iff.mpr (Qw _ mb);obtain⟨as',o3,pm⟩:=put _ w y bs ts (λb mb zs q=>by rw[zaa (show b≠a from λz=>nac (z ▸ mr b mb))];exact q) (ob.to ts λb mb zs q=>by rw[zaa (show b≠a from λz=>nA b mb (z ▸ Aa))];exact q);have nrest:rest.Nodup:=(Z9.mp (g3.nodup_iff.mp (QW.mp nd).2)).2.1;have Ar:∀b∈rest,A n b:=λb mb=>m b (Qc _ (mr b mb))
   have nd':(a::as').Nodup:=QW.mpr ⟨λz=>by
    rcases Qu.mp (pm.mem_iff.mp z) with z|z
    .exact nA a z Aa
    .exact nac (mr a z),pm.nodup_iff.mpr (Z9.mpr ⟨n1,nrest,λb mb c mc w=>by subst w;exact nA b mb (Ar b mc)⟩)⟩
   have hW:∀b,b∈a::as'->(A n b\/H b=QF)/\∃o,upd H2 a (.lst (xs.set k w)) b=some o/\OwnO o:=λb mb=>by
    rcases Q0.mp mb with rfl|mb
    .exact⟨.inl Aa,_,zac,.lst⟩
    .refine⟨?_,by obtain⟨zs,z⟩:=o3.mem mb;exact⟨_,z,.lst⟩⟩;rcases Qu.mp (pm.mem_iff.mp mb) with z|z
     .exact .inr (f1 b z)
     .exact .inl (Ar b z)
   have rr:=r.setT (W:=λb=>b∈a::as') (T:=OwnT (.list (ds.set k y))) (v:=.ref a) s12 stay hW ⟨trivial,a::as',nd',λ_ m=>m,.list zac o3⟩;rw[zll hv0] at rr;have hkx:ixN xs.length (k:Int)=some k:=zul (by rw[ox.length];exact hk);exact⟨a,xs,k,k,rfl,rfl,hx,hkx,P.nx _ σ _ _ rr (Frm.setT s12 stay λb m=>(hW b m).1) q2⟩
end
section
variable {ι κ:Type}{P:Um}{w:Uq}{K:Qa}{mg:Str->Option Uf}{base:Heap}{k:Nat}{X:ι->Cx}{O:κ->Ob}{a b:Expr}{fo:DOw}{fb:DE}{pos:Pos}
theorem zvp(n:Nat)(C:Ctx3 P w K mg base k X)(hv:Eo3 K X O a fo)(hi:E3 K X O b fb)(hN:∀i,(X i).N[n]? = some x:=by intro i;rfl)(hvx:∀i,Vis (X i).env.scope x:=by intro i;first|exact Or.inl rfl|exact Or.inr (Or.inl rfl)|exact Or.inr (Or.inr rfl))(hd:(x == ("__debug__" : Str))=false:=by decide)(hcd:(x == ("__classdict__" : Str))=false:=by decide)
 (has:∀i v,Gf (.Subscript (.Name x px) b tp) (X i).env v=(do
  let ov <- holding [v] (eval (.Name x px) (X i).env)
  let iv <- holding [v,ov] (eval b (X i).env)
  standAt tp
  holding [v,ov,iv] (setItem ov iv v)
  release [v,ov,iv] []):=by intro _ _;rfl)
 (hs:∀i,swapsWithSole [.Subscript (.Name x px) b tp] a pos.line (X i).env=pure false:=by intro i;rfl) (hw:∀i,swappedStores [.Subscript (.Name x px) b tp] a (X i).env=pure none:=by intro i;rfl) (h1:∀i,(UE [.Subscript (.Name x px) b tp] (X i).env).map (·.2) = [Gf (.Subscript (.Name x px) b tp) (X i).env]:=by intro i;rfl) :
 S3 K X O (.Assign [.Subscript (.Name x px) b tp] a pos) (ztj n fo fb):=let ⟨_,p1,d1⟩:=hv;let ⟨_,p2,d2⟩:=hi;
 ⟨tAsg _ (gSub (tVar n) _ zoc),λi=>zyr (p1 i) (zyn (zaf (pos:=px) (hN i) (hvx i) hd hcd) (p2 i) zsk (has i)) (hs i) (hw i) (h1 i),λj=>zs8 (d1 j) (d2 j)⟩
end
end L3
namespace L53
open PySem PySem.Spec
open PyProof.Rows hiding St
open L2 L3 L6
local macro_rules | `(tactic| infer_instance)=>`(tactic| first|refine⟨_,_,rfl,rfl,?_⟩|refine⟨_,eqI,?_⟩|refine⟨_,neI,?_⟩|refine⟨_,rfl,?_⟩|refine⟨rfl,?_⟩|refine⟨(by show _ ≤ sizeLine;rw[Ur];exact Nat.le_of_ble_eq_true rfl),?_⟩|refine⟨_,_,rfl,?_⟩|refine⟨_,_,_,rfl,?_⟩|refine iteT ?_|refine iteF ?_|refine Or.inl ⟨rfl,?_⟩|refine Or.inr ⟨rfl,?_⟩|refine⟨_,eqS_t (by decide +kernel),?_⟩|refine⟨_,eqS_f (by decide +kernel) (by decide +kernel),?_⟩|refine⟨_,inS_t (by decide +kernel),?_⟩|refine⟨_,inS_f (by decide +kernel),?_⟩)
section
variable {P:Um}{w:Uq}{K:Qa}{mg:Str->Option Uf}{base:Heap}{k:Nat}
abbrev ze2:Stmt:=top 1
theorem zmr:FnScope ["word"] ["word"] (zab ze2):=⟨rfl,rfl,rfl,by decide +kernel,rfl,by decide +kernel,by decide +kernel⟩
theorem zds(B:Blt mg)(T:Top3 K mg "word_order" ze2):Def3 P w K mg base 1 "word_order" ["word"] (spO K (λ_=>True) 1 zh6):=by
 refine mk_O T zmr (λ_ _ _ _ _ _ us hl=>len1 hl λ_=>rfl) rfl λf cdv A outer s H E O hφ C=>⟨_,(zai (zb1 (zkc (zae (zhh C B (zae (zad 0) zah)) (zae (zad 0) zah))))),λds Qr hn q=>?_⟩;obtain⟨v,rfl,hv,q⟩:=q;exact⟨_,_,rfl,rfl,_,zhy (by lia),_,_,rfl,rfl,by show 2<=sizeLine;decide,q _ rfl⟩
end
section
variable {P:Um}{w:Uq}{K:Qa}{mg:Str->Option Uf}{base:Heap}{k:Nat}
abbrev zif:Stmt:=top 2
theorem zs4:FnScope ["less", "more", "found", "start", "letter", "place"] ["less", "more"] (zab zif):=⟨rfl,rfl,rfl,by decide +kernel,rfl,by decide +kernel,by decide +kernel⟩
theorem zgu(B:Blt mg)(T:Top3 K mg "places" zif):Def3 P w K mg base 1 "places" ["less", "more"] (spO K (λ_=>True) 2 znq):=by
 refine mk_O T zs4 (λ_ _ _ _ _ _ us hl=>len2 hl λ_ _=>rfl) rfl λf cdv A outer s H E O hφ C=>⟨_,(zag (zbl 2 (zcr zah)) (zag (zbl 3 zbd) (zag (zbv C (zcp (zua (zad 0))) (zax (h:=1000) 4) (zag (zbl 5 (zv9 C (zad 1) (zae (zad 4) (zae (zad 3) zah)))) (zag (s_if (t_lt (zad 5) zbd) (zai (zb1 zkq)) zd0) (zag (zh1 2 C (zad 5)) (zai (zbl 3 (ze0 C (zad 5) zbd))))))) (zai (zha 2))))),λds Qr hn q=>?_⟩;obtain⟨less,more,rfl,hs,hm,q0,q1⟩:=q;have sz:=Ur;have hl:=hs.1;have hl2:=hm.1;refine⟨QK _,rfl,rfl,_,_,rfl,rfl,_,rfl,rfl,?_⟩
 refine zaz (λj ρ=>∃(acc:List Nat) (start:Nat) (o4 o5:Option DV),ρ = [some (.im (tS less)),some (.im (tS more)),some (.own (acc.map λp=>.int (p:Nat))),some (.im (.int (start:Nat))),o4,o5]/\plc less more 0 []=plc (less.drop j) more start acc/\acc.length<=j/\start<=more.length/\j<=less.length)
  ⟨[],0,none,none,rfl,rfl,Qg _,QK _,QK _⟩ (λρ ⟨acc,start0,o4,o5,e,h1,h2,h3,h4⟩=>?_) λj d ρ N hd hN ⟨acc,start0,o4,o5,e,h1,h2,h3,h4⟩=>?_
 .subst e;rw[zux,ZF] at h1;exact⟨_,rfl,q1 acc h1⟩
 .subst e;obtain⟨c,hc,rfl⟩:=zwr hd;obtain⟨hlt,ec⟩:=Qk.mp hc;rw[QJ hlt,ec] at h1;refine⟨rfl,?_⟩;refine⟨_,_,rfl,rfl,_,rfl,_,_,rfl,rfl,_,_,rfl,rfl,_,_,rfl,rfl,?_⟩;rw[zuk h3];rw[show plc (c::less.drop (j+1)) more start0 acc=match zbm c more start0 with|none=>none|some p=>plc (less.drop (j+1)) more (p+1) (acc ++ [p]) from rfl] at h1
  cases hf:zbm c more start0 with
  | none=>
    rw[hf] at h1;rw[show zf2 c more start0 = -1 by unfold zf2;rw[hf]];exact⟨_,_,rfl,rfl,_,rfl,_,rfl,q0 h1⟩
  | some p=>
    rw[hf] at h1;rw[show zf2 c more start0=(p:Int) by unfold zf2;rw[hf]];obtain⟨_,b,_⟩:=zd3 hf;obtain⟨b1,_⟩:=Qk.mp b;refine⟨_,_,rfl,rfl,_,rfl,_,rfl,?_⟩;rw[GT (by lia)];refine iteF ⟨_,rfl,_,_,rfl,rfl,rfl,by rw[Qe];lia,_,_,rfl,rfl,_,rfl,rfl,hN _ ⟨acc ++ [p],p+1,some (.im (.str (sg c))),some (.im (.int (p:Nat))),?_,h1,by simp;lia,b1,hlt⟩⟩;show[_,_,some (DV.own (acc.map (λp=>Yz (p:Nat)) ++ [Yz (p:Nat)])),some (DV.im (.int ((p:Int)+1))),_,_]=_;rw[QE];rfl
end
section
variable {P:Um}{w:Uq}{K:Qa}{mg:Str->Option Uf}{base:Heap}{k:Nat}
abbrev ze9:Stmt:=top 3
theorem zmt:FnScope ["less", "more"] ["less", "more"] (zab ze9):=⟨rfl,rfl,rfl,by decide +kernel,rfl,by decide +kernel,by decide +kernel⟩
theorem zdy(B:Blt mg)(zgu:Def3 P w K mg base 1 "places" ["less", "more"] (spO K (λ_=>True) 2 znq))(T:Top3 K mg "lies_under" ze9):Def3 P w K mg base 2 "lies_under" ["less", "more"] (spO K (λ_=>True) 2 zh0):=by
 refine mk_O T zmt (λ_ _ _ _ _ _ us hl=>len2 hl λ_ _=>rfl) rfl λf cdv A outer s H E O hφ C=>⟨_,(zai (zb1 (zvo (zca C zgu (λ_=>trivial) (zae (zad 0) (zae (zad 1) zah))) zkq))),λds Qr hn q=>?_⟩;obtain⟨less,more,rfl,hs,hm,q⟩:=q;rw[<- zqr] at q;refine⟨_,_,rfl,rfl,_,_,rfl,rfl,rfl,less,more,rfl,hs,hm,λh=>⟨rfl,?_⟩,λps h=>⟨rfl,?_⟩⟩
 .rw[h] at q;exact q
 .rw[h] at q;exact q
end
theorem zq5{α:Type}{l:List α}{j:Nat}{x:α}(h:l[j]? = some x):l.take (j+1)=l.take j ++ [x]:=by
 obtain⟨hl,e⟩:=Qk.mp h;rw[Zh hl,e]
section
variable {P:Um}{w:Uq}{K:Qa}{mg:Str->Option Uf}{base:Heap}{k:Nat}
abbrev zda:Stmt:=top 4
theorem zik:FnScope ["words", "more", "less"] ["words", "more"] (zab zda):=⟨rfl,rfl,rfl,by decide +kernel,rfl,by decide +kernel,by decide +kernel⟩
theorem zcf(B:Blt mg)(zdy:Def3 P w K mg base 2 "lies_under" ["less", "more"] (spO K (λ_=>True) 2 zh0))(T:Top3 K mg "one_lies_under" zda):Def3 P w K mg base 3 "one_lies_under" ["words", "more"] (spO K (λ_=>True) 2 zfc):=by
 refine mk_O T zik (λ_ _ _ _ _ _ us hl=>len2 hl λ_ _=>rfl) rfl λf cdv A outer s H E O hφ C=>⟨_,(zag (zbv C (zn6 C 0) (zax (h:=1000) 2) (zai (s_if (zdg (zca C zdy (λ_=>trivial) (zae (zad 2) (zae (zad 1) zah)))) (zai (zb1 e_bl)) zd0))) (zai (zb1 e_bl))),λds Qr hn q=>?_⟩;obtain⟨ws,w,rfl,hs,hw,q⟩:=q;refine⟨_,rfl,?_⟩;refine zaz (λj ρ=>∃o2,ρ = [some (.im (.list (ws.map tS))),some (.im (tS w)),o2]/\(ws.take j).any (λv=>L6.under v w)=false) ⟨none,rfl,rfl⟩ (λρ zz=>?_) λj d ρ N hd hN zz=>?_
 .obtain⟨o2,e,h⟩:=zz;subst e;rw[Qe,Zg (Qg _)] at h;rw[h] at q;exact q
 .obtain⟨o2,e,h⟩:=zz;subst e;rw[Qm] at hd;obtain⟨v,hv,rfl⟩:=Qt.mp hd;have mv:=Q5 hv;refine⟨rfl,?_⟩;refine⟨_,_,rfl,rfl,_,_,rfl,rfl,rfl,v,w,rfl,hs v mv,hw,_,rfl,?_⟩
  cases c:L6.under v w with
  | true=>
    refine iteT ?_;rw[Jd.mpr ⟨v,mv,c⟩] at q;exact q
  | false=>
    refine iteF (hN _ ⟨_,rfl,?_⟩);rw[zq5 hv,VG,h,Yk,c];rfl
end
section
variable {P:Um}{w:Uq}{K:Qa}{mg:Str->Option Uf}{base:Heap}{k:Nat}
abbrev zmf:Stmt:=top 5
theorem zu6:FnScope ["words", "kept", "word"] ["words"] (zab zmf):=⟨rfl,rfl,rfl,by decide +kernel,rfl,by decide +kernel,by decide +kernel⟩
theorem zia(B:Blt mg)(zds:Def3 P w K mg base 1 "word_order" ["word"] (spO K (λ_=>True) 1 zh6))(zcf:Def3 P w K mg base 3 "one_lies_under" ["words", "more"] (spO K (λ_=>True) 2 zfc))(T:Top3 K mg "least" zmf):Def3 P w K mg base 4 "least" ["words"] (spO K (λ_=>True) 1 zga):=by
 refine mk_O T zu6 (λ_ _ _ _ _ _ us hl=>len1 hl λ_=>rfl) rfl λf cdv A outer s H E O hφ C=>⟨_,(zag (zbl 1 (zcr zah)) (zag (zbv C (zcp (zb8 C (zth C B zds (λ_=>trivial) (zad 0)))) (zax (h:=1000) 2) (zai (s_if (zhb (zdg (zca C zcf (λ_=>trivial) (zae (zad 1) (zae (zad 2) zah))))) (zai (zh1 1 C (zad 2))) zd0))) (zai (zha 1)))),λds Qr hn q=>?_⟩;obtain⟨ws,rfl,dm,q⟩:=q;have hs:=dm.ok;have hl:=dm.len;have sz:=Ur;refine⟨QK _,rfl,_,_,rfl,rfl,ws.map tS,wkey,rfl,by rw[Qe];exact hl,λx hx=>?_,_,rfl,rfl,?_⟩
 .obtain⟨w,hw,rfl⟩:=QD.mp hx;exact⟨w,rfl,(hs w hw).1,λr hr=>by show r.d=_;rw[hr,zi3]⟩
 rw[zgm];have q:Qr (.n ((zeo (zb3 ws)).map tS)):=q;have hm:∀w∈zb3 ws,Sml w:=λw hw=>hs w (sortW_mem.mp hw);have hl2:=zjs (ws:=ws);generalize hu:zb3 ws=us at *;refine zaz (λj ρ=>∃o2,ρ = [some (.im (.list (ws.map tS))),some (.own (((us.take j).foldl zan []).map tS)),o2]) ⟨none,rfl⟩ (λρ zz=>?_) λj x ρ N hd hN zz=>?_
 .obtain⟨o2,e⟩:=zz;subst e;rw[Qe,Zg (Qg _)];exact⟨_,rfl,q⟩
 .obtain⟨o2,e⟩:=zz;subst e;rw[Qm] at hd;obtain⟨v,hv,rfl⟩:=Qt.mp hd;have mv:=Q5 hv;refine⟨rfl,?_⟩;refine⟨_,_,rfl,rfl,_,_,rfl,rfl,rfl,_,v,rfl,λw hw=>?_,hm v mv,_,rfl,?_⟩
  .rcases zgw w hw with h|h
   .exact(Zt h).elim
   .exact hm w (QO h)
  have e2:(us.take (j+1)).foldl zan []=zan ((us.take j).foldl zan []) v:=by rw[zch hv,ZL];rfl
  have hk:=zgr (kept:=[]) (ws:=us.take j);rw[Q8] at hk;simp only[J0] at hk
  cases c:((us.take j).foldl zan []).any λu=>L6.under u v with
  | true=>
    have e3:zan ((us.take j).foldl zan []) v=(us.take j).foldl zan []:=by unfold zan;exact GO c
    refine iteF (hN _ ⟨some (.im (tS v)),?_⟩);rw[e2,e3];rfl
  | false=>
    have e3:zan ((us.take j).foldl zan []) v=(us.take j).foldl zan [] ++ [v]:=GP (λz=>by rw[show((us.take j).foldl zan []).any (λu=>L6.under u v)=true from z] at c;cases c);refine iteT ⟨_,rfl,_,_,rfl,rfl,rfl,by rw[Qe];lia,hN _ ⟨some (.im (tS v)),?_⟩⟩;rw[e2,e3,QE];rfl
end
section
variable {P:Um}{w:Uq}{K:Qa}{mg:Str->Option Uf}{base:Heap}{k:Nat}
abbrev zd2:Stmt:=top 7
theorem zj7:FnScope ["body", "words", "kept", "begins", "thing", "longer", "end"] ["body", "words", "kept"] (zab zd2):=⟨rfl,rfl,rfl,by decide +kernel,rfl,by decide +kernel,by decide +kernel⟩
theorem zct(B:Blt mg)(T:Top3 K mg "words_of_body" zd2):Def3 P w K mg base 5 "words_of_body" ["body", "words", "kept"] (spG K (λ_=>True) 3 (wobF P w mg base 4)):=by
 refine mk_G T zj7 (λ_ _ _ _ _ _ us hl=>len3 hl λ_ _ _=>rfl) rfl λf cdv A outer s H E O hφ C=>⟨_,(zag (zbl 3 (zcr (zae zud zah))) (zag (zbv C (zcp (zkf C (zad 0))) (zax (h:=1000) 4) (zag (zbl 5 (zcr zah)) (zag (zbv C (zzl 1 C (zdg (zkh (T := "int") C B (zad 4) B.int)) (zad 4) (zcr (zae (zad 4) zah))) (zax (h:=1000) 6) (zai (zt1 5 C (zfr 1 ["begin", "body", "words", "kept", "begins", "thing", "longer", "end"] C (λ_=>.of rfl (by kernel_rfl)) (zb8 C (zad 3)) (zax 0) zka (ze0 (C.comp _ _) (zad 0) (zad 7)))))) (zai (zbl 3 (zm2 (φ:=λ_=>True) (k':=4) 2 C (λ_=>trivial) (g_im (zad 5) zkp))))))) (zai (zha 3)))),λrs Qr hn q=>?_⟩;obtain⟨ws,b,F,fs,kf,Dm,rfl,hk,ok,q⟩:=q;have sz:=Ur
 ac_rfl
 refine zaz (λi ρ=>∃x4 x5 x6,ρ = [some (.im (.tuple (b.map za6))),some (.im (wsD ws)),some (.thr (zdf P w mg base 4 F fs)),some (.own ((zay kf ws (b.take i)).map tS)),x4,x5,x6]) ⟨_,_,_,rfl⟩ ?_ ?_
 .rintro ρ ⟨x4,x5,x6,rfl⟩;rw[Qe,QT];exact⟨_,rfl,q⟩
 .rintro i d ρ N hd hN ⟨x4,x5,x6,rfl⟩;rw[Qm] at hd;obtain⟨t,ht,rfl⟩:=Qt.mp hd;have htm:=Q5 ht;have bg:=ok.bg i;have en:=zr5 ok htm;refine⟨by cases t <;> rfl,?_⟩;dsimp only
  have inner:∀(x6:Option DV) (Dd:DEnds),Dd.nx=(λρ2=>(asgS 3 (calF P w mg base 4 (λ_=>True) 2 (gImA (vD 5) zoe))) { nx:=N,rt:=Dd.rt,bk:=Dd.bk,ct:=Dd.ct } ρ2)->zea (gN 6) (extS 5 (zj9 1 (srcL (vD 3)) (gN 0) yesD (opDE (fn2 addF) (vD 0) (vD 7)))) Dd ((zas ws t).map tS) [some (.im (.tuple (b.map za6))),some (.im (wsD ws)),some (.thr (zdf P w mg base 4 F fs)),some (.own ((zay kf ws (b.take i)).map tS)),some (.im (za6 t)),some (.own []),x6]:=by
   intro x6 Dd hnx;refine zaz (λk ρ=>∃x6,ρ = [some (.im (.tuple (b.map za6))),some (.im (wsD ws)),some (.thr (zdf P w mg base 4 F fs)),some (.own ((zay kf ws (b.take i)).map tS)),some (.im (za6 t)),some (.own ((lgrW (zay kf ws (b.take i)) ((zas ws t).take k)).map tS)),x6]) ⟨_,rfl⟩ ?_ ?_
   .rintro ρ ⟨x6,rfl⟩;rw[Qe,QT,hnx];dsimp only;refine⟨1,1+fs.length,F,fs,rfl,_,_,rfl,rfl,rfl,rfl,?_⟩;refine hk _ (ok.dm i t ht) _ ⟨za1 (λ_=>rfl) _,hN _ (by rw[zov ht];exact⟨_,_,_,rfl⟩)⟩
   .rintro k d ρ N2 hd hN2 ⟨x6,rfl⟩;rw[Qm] at hd;obtain⟨e,he,rfl⟩:=Qt.mp hd;have hem:=Q5 he;refine⟨rfl,?_⟩
    ac_rfl
    have eo:=en.2 e hem
    have ll:(lgrW (zay kf ws (b.take i)) ((zas ws t).take k)).length<=1000 * 1000:=by
     rw[zg0,Q8];exact Jp (Qy (V2 _ _) en.1) bg.1
    refine zij (enc:=tS) (e:=λv=>tS (v++e)) (λv hv Py hPy=>?_) (by have:=bg.1;lia) ?_
    .ac_rfl
     exact⟨_,zqp (v:=v) (w:=e) (by have:=(bg.2 v hv).1;have:=eo.1;lia),hPy _ rfl⟩
    .refine⟨_,rfl,za1 (λ_=>rfl) _,by rw[Qe,Qe];have:=bg.1;lia,?_⟩;refine hN2 _ (by rw[zri he,QE,ZG];exact⟨_,rfl⟩)
  cases t with
  | nm j=>
    obtain⟨h1,h2⟩:0<=j/\j.toNat<ws.length:=ok.th _ htm
    ac_rfl
    exact⟨j.toNat,_,(by show Yz j=_;rw[ZN h1]),zhj h2,inner _ _ rfl⟩
  | lt u=>
    (repeat first|exact inner _ _ rfl|infer_instance)
end
section
variable {P:Um}{w:Uq}{K:Qa}{mg:Str->Option Uf}{base:Heap}{k:Nat}
abbrev zdc:Stmt:=top 8
theorem zin:FnScope ["grammar", "kept", "known", "words", "made", "name", "body"] ["grammar", "kept"] (zab zdc):=⟨rfl,rfl,rfl,by decide +kernel,rfl,by decide +kernel,by decide +kernel⟩
theorem zcg(B:Blt mg)(zct:Def3 P w K mg base 5 "words_of_body" ["body", "words", "kept"] (spG K (λ_=>True) 3 (wobF P w mg base 4)))(T:Top3 K mg "words_by_rules" zdc):Def3 P w K mg base 6 "words_by_rules" ["grammar", "kept"] (spGW K (λ_=>True) 2 (wbrF P w mg base 4)):=by
 refine zzg T zin (λ_ _ _ _ _ _ us hl=>len2 hl λ_ _=>rfl) rfl λf cdv A outer s H E O hφ C=>⟨_,(zl6 (zmk 2 (zfj zkq)) (zl6 (zpl 3 1 ["name", "grammar", "kept", "known", "words", "made", ".name", "body"] C (λ_=>.of rfl (by kernel_rfl)) (i_r1 C B (zae (zc3 C (zad 0) zbd) zah)) (zax 0)) (zl6 (znr C (t_ne C (zbz 3) (zbz 2)) (zag (zyp 2 3) (zag (zpl 4 1 ["name", "grammar", "kept", "known", "words", "made", ".name", "body"] C (λ_=>.of rfl (by kernel_rfl)) (i_r1 C B (zae (zc3 C (zad 0) zbd) zah)) (zax 0)) (zag (zbv C (zcp (zkf C (zc3 C (zad 0) zbd))) (zt0 (h:=1000) C (zf7 5 (zf7 6 zq6))) (zai (zvj 4 C (l_ix C (z0x 4) (zad 5)) (zuv C zct (λ_=>trivial) (g_im (zad 6) (g_im (zbz 2) (z0j 1 zkp))))))) (zai (zmp 3 1 ["part", "grammar", "kept", "known", "words", "made", "name", "body"] C (λ_=>.of rfl (by kernel_rfl)) (zb8 C (zbz 4)) (zax 0) (zfj (zm2 (φ:=λ_=>True) (k':=4) 2 (C.comp _ _) (λ_=>trivial) (g_im (zad 0) zkp))))))))) (z0y 3)))),λrs Qd hn q=>?_⟩;obtain⟨g,F,fs,kf,Dm,N,rfl,gok,hk,tok,fix,q⟩:=q;have sz:=Ur;have n3:=gok.n3;have n0:=gok.n0
 have rep:JO (Qp g.n.toNat (.list []))=wsD (Qp g.n.toNat []):=by
  unfold wsD;rw[Vo];rfl
 ac_rfl
 refine⟨by lia,by lia,by rw[zbu];lia,λd hd=>trivial,?_⟩;rw[zbu,rep]
 ac_rfl
 refine⟨λm ρ=>∃(i:Nat) (x4 x5 x6:Option DV),i<=N+1/\m=N+2-i/\ρ = [some (.im (za8 g)),some (.thr (zdf P w mg base 4 F fs)),some (.thg (OwnT (prvD kf g i))),some (.thg (OwnT (wsD (itW kf g i)))),x4,x5,x6],⟨_,0,_,_,_,QK _,rfl,rfl⟩,?_⟩;rintro m ρ ⟨i,x4,x5,x6,hi,rfl,rfl⟩
 have okN:∀k,k<=N+1->∀l∈itW kf g k,LOk l:=λk hk l hl=>by
  have z:∃k',k'<=N/\itW kf g k=itW kf g k':=by
   rcases Zp N k with z|z
   .exact⟨N,Qg _,by rw[show k=N+1 by lia];exact fix⟩
   .exact⟨k,z,rfl⟩
  obtain⟨k',h1,h2⟩:=z;rw[h2] at hl;obtain⟨n,rfl⟩:=zrb hl;exact(tok k' h1).sz n
 have tst:∃b:Bool,eqF true (wsD (itW kf g i)) (prvD kf g i)=some (.o (.bool b))/\(b=false->∃j,i=j+1/\itW kf g (j+1)=itW kf g j)/\(b=true->i<=N):=by
  cases i with
  | zero=>
    refine⟨true,zkd (zgb (okN 0 hi)) zpt (q:=false) (hq:=⟨nofun,λz=>by cases z⟩),nofun,λ_=>QK _⟩
  | succ j=>
    refine⟨!decide (itW kf g (j+1)=itW kf g j),(show eqF true (wsD (itW kf g (j+1))) (wsD (itW kf g j))=_ from zkd (zgb (okN _ hi)) (zgb (okN j (by lia))) (q:=decide (itW kf g (j+1)=itW kf g j)) (hq:=by rw[GW];exact⟨λz=>by rw[z],zrj⟩)),λz=>⟨j,rfl,by simpa using z⟩,λz=>?_⟩;rcases Zp N (j+1) with y|y
    .obtain rfl:j=N:=by lia
     rw[GU fix] at z;cases z
    .exact y
 obtain⟨b,tb,bf,bt⟩:=tst
 ac_rfl
 refine⟨_,tb,?_⟩
 ac_rfl
 cases b with
 | false=>
   obtain⟨j,rfl,e⟩:=bf rfl;refine⟨_,rfl,?_⟩
   have:itW kf g (j+1)=itW kf g N:=by
    have h:=zys e;rw[e];exact(h N (by lia)).symm
   rw[this];exact q
 | true=>
   have iN:=bt rfl;have tk:=tok i iN;have tl:=zeh kf g i;generalize hws:itW kf g i=ws at tk tl
   ac_rfl
   refine⟨by lia,by lia,by rw[zbu];lia,λd hd=>trivial,?_⟩;rw[zbu,rep]
   ac_rfl
   refine zaz (λj ρ=>∃x5 x6,ρ = [some (.im (za8 g)),some (.thr (zdf P w mg base 4 F fs)),some (.thg (OwnT (wsD ws))),none,some (.thg (OwnT (wsD (mdW kf ws g.n.toNat (g.rs.take j))))),x5,x6]) ?_ ?_ ?_
   .have e0:mdW kf ws g.n.toNat (g.rs.take 0)=Qp g.n.toNat []:=by
     unfold mdW zbe;apply Js <;> simp
    rw[e0];exact⟨_,_,rfl⟩
   .rintro ρ ⟨x5,x6,rfl⟩;rw[Qe,QT]
    ac_rfl
    refine zno (enc:=wD1) (e:=λl=>wD1 (kf l)) (λl hl Py hPy=>?_) (by simp[mdW];lia) ?_
    .obtain⟨j,hj,rfl⟩:=zxi hl;refine⟨1,1+fs.length,F,fs,rfl,_,_,rfl,rfl,rfl,rfl,?_⟩;exact hk _ (tk.md j hj) _ ⟨za1 (λ_=>rfl) _,hPy⟩
    .have e1:JO ((mdW kf ws g.n.toNat g.rs).map λl=>wD1 (kf l))=wsD (itW kf g (i+1)):=by
      show _=wsD (zed kf g (itW kf g i));rw[hws,zus];unfold wsD;rw[ZG];rfl
     rw[e1];have e2:prvD kf g (i+1)=wsD ws:=by show wsD (itW kf g i)=_;rw[hws]
     have e3:∀(x4 x5 x6:Option DV),(∃m',m'<N+2-i/\∃i' y4 y5 y6,i'<=N+1/\m'=N+2-i' /\ [some (.im (za8 g)),some (.thr (zdf P w mg base 4 F fs)),some (.thg (OwnT (prvD kf g (i+1)))),some (.thg (OwnT (wsD (itW kf g (i+1))))),x4,x5,x6] = [some (.im (za8 g)),some (.thr (zdf P w mg base 4 F fs)),some (.thg (OwnT (prvD kf g i'))),some (.thg (OwnT (wsD (itW kf g i')))),y4,y5,y6]):=λx4 x5 x6=>⟨N+2-(i+1),by lia,i+1,x4,x5,x6,by lia,rfl,rfl⟩;rw[e2] at e3;exact e3 _ _ _
   .rintro j d ρ N2 hd hN2 ⟨x5,x6,rfl⟩;rw[Qm] at hd;obtain⟨r,hr,rfl⟩:=Qt.mp hd;have hrm:=Q5 hr;obtain⟨r0,r1⟩:=gok.nm r hrm;refine⟨zf6 r,?_⟩
    ac_rfl
    have ml:r.n.toNat<(mdW kf ws g.n.toNat (g.rs.take j)).length:=by simp[mdW];lia
    refine⟨r.n,_,r.n.toNat,_,rfl,rfl,rfl,?_,zhj ml,?_⟩
    .unfold ixN;rw[GO r0,GO (by rw[Qe];simp[mdW];lia)]
    refine⟨_,rfl,_,_,rfl,rfl,_,rfl,_,rfl,rfl,?_⟩;refine⟨ws,r.b,F,fs,kf,Dm,rfl,hk,tk.bd r hrm,_,rfl,za1 (λ_=>rfl) _,?_,?_⟩
    .rw[Qe,Qe,zqs (by lia)];have h1:=(zme (tk.bd r hrm)).1;have h2:=zlv (kf:=kf) (ws:=ws) (i:=r.n.toNat) (rs:=g.rs.take j) λx hx=>(zme (tk.bd x (QO hx))).1;have h3:=gok.many;rw[Q8] at h2;have h4:min j g.rs.length * 1000<=100 * 1000:=ZJ _ (by lia);lia
    .refine hN2 _ ?_;rw[<- QE,Jl,zr3 ml,<- zs7 hr r0];exact⟨_,_,rfl⟩
end
section
variable {P:Um}{w:Uq}{K:Qa}{mg:Str->Option Uf}{base:Heap}{k:Nat}
abbrev zgy:Stmt:=top 10
theorem zo6:FnScope ["grammar"] ["grammar"] (zab zgy):=⟨rfl,rfl,rfl,by decide +kernel,rfl,by decide +kernel,by decide +kernel⟩
theorem zez(B:Blt mg)(zia:Def3 P w K mg base 4 "least" ["words"] (spO K (λ_=>True) 1 zga))(zcg:Def3 P w K mg base 6 "words_by_rules" ["grammar", "kept"] (spGW K (λ_=>True) 2 (wbrF P w mg base 4)))(T:Top3 K mg "least_of" zgy):Def3 P w K mg base 7 "least_of" ["grammar"] (spO K (λ_=>True) 1 zmn):=by
 refine mk_O T zo6 (λ_ _ _ _ _ _ us hl=>match us,hl with | [_],_=>rfl) rfl λf cdv A outer s H E O hφ C=>⟨_,(zai (zb1 (ze4 C B (zae (zyz C (zvl C zcg (λ_=>trivial) (g_im (zad 0) (zzr C zia zkp))) zbd) zah)))),λds Qr hn q=>?_⟩;obtain⟨g,al,rfl,gl,q⟩:=q;have sz:=Ur
 ac_rfl
 refine⟨g,imF zga,[],zaj,DmL,3,rfl,gl.ga.gr,zpd,λk _=>zxh gl k,zve gl.ga,?_⟩;have n1:=gl.ga.n1;have ml:0<(itW zaj g 3).length:=by rw[zeh];lia
 have S:=it_s gl.ga 3;have hn:∀(i:Nat) u,u∈(itW zaj g 3).at_ i->u∈nrW 3 g.rs i:=λi u h=>S.nr gl.ga h;refine⟨0,_,0,_,rfl,rfl,?_,zhj ml,za1 (λ_=>rfl) _,?_⟩
 .unfold ixN;rw[GO (by decide),GO (by rw[Qe];lia)];rfl
 exact⟨_,rfl,q _ (zlt gl.ga (Qg _) 0) (zkb gl S.asc hn 0) λw hw=>gl.sml (by have:=zem gl (hn 0 w hw);exact⟨by lia,this.2⟩)⟩
end
theorem zst(bs:List GThg)(t:GThg):((bs ++ [t]).filter GThg.isN).length=(bs.filter GThg.isN).length+(if t.isN=true then 1 else 0):=by
 rw[ZS,Qf];cases t <;> rfl
section
variable {P:Um}{w:Uq}{K:Qa}{mg:Str->Option Uf}{base:Heap}{k:Nat}
abbrev zfx:Stmt:=top 15
theorem zo3:FnScope ["_law_deal_here", "_law_letters_here", "_law_names", "_law_rules", "_law_k", "_law_body", "_law_j", "_law_thing"] ["_law_deal_here", "_law_letters_here"] (zab zfx):=⟨rfl,rfl,rfl,by decide +kernel,rfl,by decide +kernel,by decide +kernel⟩
theorem zdb(B:Blt mg)(d_law_draw:zty P w K mg base)(T:Top3 K mg "_law_grammar" zfx):Def3 P w K mg base 2 "_law_grammar" ["_law_deal_here", "_law_letters_here"] (spD K IsDeal 1 (zk7 6)):=by
 refine mk_D T zo3 (λ_ _ _ _ _ _ us hl=>len2 hl λ_ _=>rfl) rfl λf cdv A outer s H E O hφ C=>?_;have hO:∀j:Unit,IsDeal ((λ_:Unit=>O) j):=λ_=>hφ;refine⟨_,(zag (zbl 2 (ze0 C zbd (zb5 0 C d_law_draw hO (zae zbd zah)))) (zag (zbl 3 (zcr zah)) (zag (zbv C (zcp (i_r1 C B (zae (zb5 0 C d_law_draw hO (zae zbd zah)) zah))) (zax (h:=1000) 4) (zag (zbl 5 (zcr zah)) (zag (zbv C (zcp (i_r1 C B (zae (zb5 0 C d_law_draw hO (zae zbd zah)) zah))) (zax (h:=1000) 6) (zag (zbl 7 (zc3 C (zad 1) (zb5 0 C d_law_draw hO (zae (zhh C B (zae (zad 1) zah)) zah)))) (zag (s_if (t_w (zzm (t_eq C (zb5 0 C d_law_draw hO (zae zbd zah)) zbd) (zxb (t_lt (zhh C B (zae (zfr 1 ["_law_one", "_law_deal_here", "_law_letters_here", "_law_names", "_law_rules", "_law_k", "_law_body", "_law_j", "_law_thing"] C (λ_=>.of rfl (by kernel_rfl)) (zb8 C (zad 5)) (zax 0) (zt3 (zhb (zdg (zkh (T := "str") (C.comp _ _) B (zad 0) B.str)))) (zad 0)) zah)) zbd)))) (zai (zbl 7 (zb5 0 C d_law_draw hO (zae (zad 2) zah)))) zd0) (zai (zh1 5 C (zad 7)))))) (zai (zh1 3 C (zkc (zae (zb5 0 C d_law_draw hO (zae (zad 2) zah)) (zae (ze4 C B (zae (zad 5) zah)) zah)))))))) (zai (zb1 (zkc (zae (zad 2) (zae (ze4 C B (zae (zad 3) zah)) zah)))))))),λds Qr hn q=>?_⟩;obtain⟨ls,rfl,l1,l26,hlow,q⟩:=q;have sz:=Ur
 have hll:lenF [JO (ls.map λc=>.str (sg c))]=some (.o (.int (ls.length:Nat))):=by
  show some (R.o (.int ((ls.map λc=>VS (sg c)).length:Nat)))=_;rw[Qe]
 ac_rfl
 refine dr (by decide) (by decide) λk1 hk1=>?_
 ac_rfl
 refine dr (by decide) (by decide) λk2 hk2=>?_
 ac_rfl
 refine⟨by lia,by lia,rfl,?_⟩;refine zaz (λj ρ=>∃(rs:List RuG) (rd:List Ug) (o4 o5 o6 o7:Option DV),ρ = [some .ob,some (.im (.list (ls.map λc=>.str (sg c)))),some (.im (.int (1+(k1:Nat)))),some (.own rd),o4,o5,o6,o7]/\rd=rs.map zeb/\rs.length=j/\∀r∈rs,0<=r.n/\r.n<1+(k1:Int)/\r.b.length<=3/\(r.b.filter GThg.isN).length<=2/\∀t∈r.b,zfv ls (1+k1) t) ⟨[],[],none,none,none,none,rfl,rfl,rfl,λx h=>(Zt h).elim⟩ (λρ zz=>?_) λj d ρ N hd hN zz=>?_
 .obtain⟨rs,rd,o4,o5,o6,o7,e,ed,h1,h2⟩:=zz;subst ed;subst e;rw[zbu] at h1
  ac_rfl
  exact q ⟨1+(k1:Int),rs⟩ (by show 1<=1+(k1:Int);lia) (by show 1+(k1:Int)<=3;lia) (by show rs.length<6;lia) λr hr=>by
   have:=h2 r hr;rw[show(1+(k1:Int)).toNat=1+k1 by lia];exact this
 .obtain⟨rs,rd,o4,o5,o6,o7,e,ed,h1,h2⟩:=zz;subst ed;subst e;obtain⟨hj,rfl⟩:=zfg hd
  ac_rfl
  refine dr (by decide) (by decide) λk3 hk3=>?_
  ac_rfl
  refine⟨by lia,by lia,rfl,?_⟩;refine zaz (λi ρ=>∃(bs:List GThg) (o6 o7:Option DV),ρ = [some .ob,some (.im (.list (ls.map λc=>.str (sg c)))),some (.im (.int (1+(k1:Nat)))),some (.own (rs.map zeb)),some (.im (.int (0+(j:Int)))),some (.own (bs.map za6)),o6,o7]/\bs.length=i/\(bs.filter GThg.isN).length<=2/\∀t∈bs,zfv ls (1+k1) t) ⟨[],_,_,rfl,rfl,by decide,λx h=>(Zt h).elim⟩ (λρ zz=>?_) λi d ρ N2 hd2 hN2 zz=>?_
  .obtain⟨bs,o6,o7,e,g1,g2,g3⟩:=zz;subst e;rw[zbu] at g1
   ac_rfl
   refine dr (by lia) (by lia) λk4 hk4=>?_
   ac_rfl
   refine⟨zf6 ⟨(k4:Int),bs⟩,by rw[Qe];lia,hN _ ⟨rs ++ [⟨(k4:Int),bs⟩],_,_,_,_,_,rfl,by rw[QE];rfl,by rw[Qf,h1];rfl,zk5 h2 ⟨by show(0:Int)<=k4;lia,hk4,by show bs.length<=3;lia,g2,g3⟩⟩⟩
  .obtain⟨bs,o6,o7,e,g1,g2,g3⟩:=zz;subst e;obtain⟨hi,rfl⟩:=zfg hd2
   have app:∀(t:GThg) (o:Option DV),zfv ls (1+k1) t->(t.isN=true->(bs.filter GThg.isN).length<2)->N2 [some .ob,some (.im (.list (ls.map λc=>.str (sg c)))),some (.im (.int (1+(k1:Nat)))),some (.own (rs.map zeb)),some (.im (.int (0+(j:Int)))),some (.own (bs.map za6 ++ [za6 t])),some (.im (.int (0+(i:Int)))),o]:=λt o h3 h4=>by
    refine hN2 _ ⟨bs ++ [t],_,_,by rw[QE];rfl,by rw[Qf,g1];rfl,?_,zk5 g3 h3⟩;rw[zst]
    split
    .have:=h4 ‹_›;lia
    .lia
   have bl:(bs.map za6).length<sizeLine:=by rw[Qe];lia
   (repeat first|refine⟨_,hll,?_⟩|refine⟨hll,?_⟩|infer_instance)
   refine dr (by lia) (by lia) λk5 hk5=>?_;have hc:k5<ls.length:=by lia
   refine⟨_,znl (by rw[Qm,Qb hc];rfl),rfl,?_⟩;have ht:zfv ls (1+k1) (.lt [ls[k5]]):=⟨ls[k5],JK hc,rfl⟩
   ac_rfl
   refine dr (by decide) (by decide) λk6 hk6=>?_
   ac_rfl
   refine iteB (λa1=>?_) λa1=>?_
   .ac_rfl
    refine zly (α:=GThg) (enc:=za6) (p:=GThg.isN) (e:=za6) (λt ht Pn Py hn hy=>?_) (by lia) ?_
    .cases t with
     | nm i=>
       ac_rfl
       exact hy rfl _ rfl
     | lt v=>
       ac_rfl
       exact hn rfl
    ac_rfl
    refine iteB (λa2=>?_) λa2=>?_
    .ac_rfl
     refine dr (by lia) (by lia) λk7 hk7=>?_
     ac_rfl
     refine⟨bl,app (.nm (k7:Int)) _ ⟨by lia,by lia⟩ λ_=>?_⟩;have:=GQ a2;rw[Qe] at this;lia
    .ac_rfl
     exact⟨bl,app (.lt [ls[k5]]) _ ht (λz=>by cases z)⟩
   .ac_rfl
    exact⟨bl,app (.lt [ls[k5]]) _ ht (λz=>by cases z)⟩
end
theorem zvd(u:List Nat):sgs (tx u)=u.map λc=>.str (tx [c]):=by unfold sgs;rw[zbs];rfl
theorem zr1{α:Type}(xs:List α)(a b:Nat):cutL xs (some (a:Int)) (some (b:Int))=(xs.take b).drop a:=by
 unfold cutL;rw[zii,zii,YM]
 by_cases h:a<=xs.length
 .rw[VH h]
  by_cases hb:b<=xs.length
  .rw[VH hb]
  .rw[Nat.min_eq_right (by lia),Zg (by rw[Zd];lia),Zg (by rw[Zd];lia)]
 .rw[Zx (show xs.length<=min a xs.length by lia),Zx (show xs.length<=a by lia)];simp
section
variable {P:Um}{w:Uq}{K:Qa}{mg:Str->Option Uf}{base:Heap}{k:Nat}
abbrev zig:Stmt:=top 16
theorem zrm:FnScope ["_law_less", "_law_more", "_law_at", "_law_letter"] ["_law_less", "_law_more"] (zab zig):=⟨rfl,rfl,rfl,by decide +kernel,rfl,by decide +kernel,by decide +kernel⟩
theorem zb7(B:Blt mg)(T:Top3 K mg "_law_under" zig):Def3 P w K mg base 1 "_law_under" ["_law_less", "_law_more"] (spO K (λ_=>True) 2 zim):=by
 refine mk_O T zrm (λ_ _ _ _ _ _ us hl=>len2 hl λ_ _=>rfl) rfl λf cdv A outer s H E O hφ C=>⟨_,(zag (zbl 2 zbd) (zag (zbv C (zcp (zua (zad 1))) (zax (h:=1000) 3) (zai (z0w 2 (zy3 C B (zae (e_eq C (zni C (zad 0) (zl8 (zad 2)) (zl8 (ze0 C (zad 2) zbd))) (zad 3)) zah))))) (zai (zb1 (e_eq C (zad 2) (zhh C B (zae (zad 0) zah))))))),λds Qr hn q=>?_⟩;obtain⟨l,m,rfl,hl,hm0,q⟩:=q;have hc:=hm0.2;have hm:=hm0.1;have sz:=Ur;have l1:=hl.1;have ll:=zhy (w:=l) (by lia)
 ac_rfl
 rw[zvd];refine zaz (λj ρ=>∃(a:Nat) (o3:Option DV),ρ = [some (.im (.str (tx l))),some (.im (.str (tx m))),some (.im (.int (a:Nat))),o3]/\a<=l.length/\l.drop a=eats (m.take j) l) ⟨0,none,rfl,QK _,rfl⟩ (λρ hρ=>?_) λj d ρ N hd nx hρ=>?_
 .obtain⟨a,o3,rfl,ha,e⟩:=hρ;rw[Qe,QT] at e
  have hb:decide (a=l.length)=under l m:=by
   show _=(eats m l).isEmpty;rw[<- e]
   by_cases c:a=l.length
   .rw[GU c,Zx (by lia)];rfl
   .rw[GT c]
    cases h:l.drop a with
    | nil=>have:=GV J4 h;rw[Zd] at this;simp at this;lia
    | cons x r=>rfl
  have ee:eqF false (.int ((a:Nat):Int)) (.int ((l.length:Nat):Int))=some (.o (.bool (under l m))):=by
   rw[znw,GP Q3,<- hb];exact GV (λb=>some (R.o (.bool b))) (decide_eq_decide.mpr (by lia))
  (repeat first|refine⟨_,ll,?_⟩|refine⟨ll,?_⟩|refine⟨_,ee,?_⟩|refine⟨ee,?_⟩|infer_instance)
  exact q
 .obtain⟨a,o3,rfl,ha,e⟩:=hρ;rw[Qm] at hd;obtain⟨c,hcj,rfl⟩:=Qt.mp hd;have cl:=hc c (Q5 hcj)
  have es:eats (m.take (j+1)) l=eat c (l.drop a):=by
   rw[zch hcj,e];unfold eats;rw[ZL];rfl
  have sx:slcF (some ((a:Nat):Int)) (some ((a:Int)+1)) (.str (tx l))=some (.o (.str (tx ((l.drop a).take 1)))):=by
   rw[zzx (by lia),show((a:Int)+1)=((a+1:Nat):Int) from rfl,zr1,YM];rw[show a+1-a=1 by lia]
  have ex:eqF false (.str (tx ((l.drop a).take 1))) (.str (tx [c]))=some (.o (.bool (decide ((l.drop a).take 1 = [c])))):=by
   rw[zup (zpq ⟨by rw[Q8];lia,λc hc=>hl.2 c (Jo (QO hc))⟩) (zpq ⟨by show 1<=100;decide,λd hd=>by rw[Qn.mp hd];exact cl⟩),GP Q3,zwt]
  refine⟨rfl,?_⟩
  (repeat first|refine⟨_,sx,?_⟩|refine⟨sx,?_⟩|refine⟨_,ex,?_⟩|refine⟨ex,?_⟩|infer_instance)
  refine nx _ ⟨if(l.drop a).take 1 = [c] then a+1 else a,some (.im (.str (tx [c]))),?_,?_,?_⟩
  .by_cases z:(l.drop a).take 1 = [c]
   .rw[GO (GU z),GO z];rfl
   .rw[GP (by simpa using z),GP z];show[_,_,some (DV.im (.int ((a:Int)+0))),_]=_;rw[Int.add_zero]
  .split
   .rename_i z
    have:=GV J4 z;rw[Q8,Zd] at this;simp at this;lia
   .exact ha
  .rw[es]
   cases h:l.drop a with
   | nil=>
     rw[GP (by simp)];exact h
   | cons x r=>
     show _=if x=c then r else x::r
     by_cases z:x=c
     .subst z;rw[GO (show List.take 1 (x::r) = [x] from rfl),GO rfl,<- Jf,h];rfl
     .rw[GP z,GP (by simpa using z)];exact h
end
section
variable {P:Um}{w:Uq}{K:Qa}{mg:Str->Option Uf}{base:Heap}{k:Nat}
abbrev zlw:Stmt:=top 17
theorem zvg:FnScope ["_law_word", "_law_words", "_law_one"] ["_law_word", "_law_words"] (zab zlw):=⟨rfl,rfl,rfl,by decide +kernel,rfl,by decide +kernel,by decide +kernel⟩
theorem ze5(B:Blt mg)(zb7:Def3 P w K mg base 1 "_law_under" ["_law_less", "_law_more"] (spO K (λ_=>True) 2 zim))(T:Top3 K mg "_law_over" zlw):Def3 P w K mg base 2 "_law_over" ["_law_word", "_law_words"] (spO K (λ_=>True) 2 zkx):=by
 refine mk_O T zvg (λ_ _ _ _ _ _ us hl=>len2 hl λ_ _=>rfl) rfl λf cdv A outer s H E O hφ C=>⟨_,(zag (zbv C (zn6 C 1) (zax (h:=1000) 2) (zai (s_if (zdg (zca C zb7 (λ_=>trivial) (zae (zad 2) (zae (zad 0) zah)))) (zai (zb1 e_bl)) zd0))) (zai (zb1 e_bl))),λds Qr hn q=>?_⟩;obtain⟨w,ws,rfl,hw,hs,q⟩:=q;have sz:=Ur
 ac_rfl
 refine zaz (λj ρ=>∃o2:Option DV,ρ = [some (.im (tS w)),some (.im (.list (ws.map tS))),o2]/\zam (ws.take j) w=false) ⟨_,rfl,rfl⟩ (λρ hρ=>?_) λj d ρ N hd nx hρ=>?_
 .obtain⟨o2,rfl,e⟩:=hρ;rw[Qe,QT] at e;rw[e] at q;exact q
 .obtain⟨o2,rfl,e⟩:=hρ;rw[Qm] at hd;obtain⟨v,hv,rfl⟩:=Qt.mp hd;have mv:=Q5 hv
  have es:zam (ws.take (j+1)) w=under v w:=by
   rw[zch hv];unfold zam at e ⊢;rw[VG,e];simp
  refine⟨rfl,?_⟩
  ac_rfl
  refine⟨hs v mv,hw,_,rfl,?_⟩
  cases c:under v w with
  | true=>
    have:zam ws w=true:=over_iff.mpr ⟨v,mv,c⟩;rw[this] at q;exact iteT q
  | false=>
    rw[c] at es;exact iteF (nx _ ⟨_,rfl,es⟩)
end
section
variable {P:Um}{w:Uq}{K:Qa}{mg:Str->Option Uf}{base:Heap}{k:Nat}
abbrev zgd:Stmt:=top 18
def zz9:Stmt->Expr
 | .For _ it _ _ _=>it
 | _=>default
def zzy:Expr->Expr
 | .Call _ _ (k::_) _=>k.value
 | e=>e
def zuu:Expr->Expr
 | .Lambda _ b _ _=>b
 | e=>e
def zlx:Expr->Uz
 | .Lambda _ _ s _=>s
 | _=>default
def zy9:Expr->Pos
 | .Lambda _ _ _ p=>p
 | _=>⟨0,0,0,0⟩
abbrev eLam:Expr:=zzy (zz9 ((zap zgd).getD 1 (.Pass ⟨0,0,0,0⟩)))
def zal:List (Pos×Str):=[(zy9 eLam, "_law_least.<locals>.<lambda>")]
theorem zs9:FnScope ["_law_words", "_law_found", "_law_word"] ["_law_words"] (zab zgd):=⟨rfl,rfl,rfl,by decide +kernel,rfl,by decide +kernel,by decide +kernel⟩
theorem zz0:FnScopeC ["_law_one"] ["_law_one"] [] (zlx eLam):=⟨rfl,rfl,rfl,by decide +kernel,rfl,by decide +kernel,by decide +kernel,by decide +kernel,by decide +kernel⟩
def keyF:List Ug->(R->Prop)->Prop:=λds Q=>∃v:List Nat,ds = [tS v]/\v.length<=100/\Q (.o (.tuple [.int (v.length:Nat),tS v]))
theorem z0a(B:Blt mg):LamB P w K mg base 0 (λ_=>True) ["_law_one"] "_law_least.<locals>.<lambda>" (zlx eLam) (zuu eLam) keyF:=by
 intro f cd A outer s H O hφ C;refine⟨_,(zkc (zae (zhh C B (zae (zad 0) zah)) (zae (zad 0) zah))),λd Qr hF=>?_⟩;obtain⟨v,e,hv,q⟩:=hF;injection e with e _;subst e;have sz:=Ur
 (repeat first|refine⟨_,zhy (w:=v) (by lia),?_⟩|refine⟨zhy (w:=v) (by lia),?_⟩|infer_instance)
 exact q
theorem zc2(B:Blt mg)(zb7:Def3 P w K mg base 1 "_law_under" ["_law_less", "_law_more"] (spO K (λ_=>True) 2 zim))(N:Nst mg base c Pt)(T:TopC K mg "_law_least" zgd c):Def3 P w K mg base 3 "_law_least" ["_law_words"] (spO K (HasTab Pt zal) 1 zjg):=by
 refine z0o T zs9 (λ_ _ _ _ _ _ us hl=>len1 hl λ_=>rfl) rfl λf A outer s H E O hφ C=>?_;refine⟨_,(zag (zbl 1 (zcr zah)) (zag (zbv C (zcp (zb8 C (zry C B N (λ_=>hφ) (λ_=>trivial) (z0a B) zz0 (λ_=>rfl) Ql (λp hp _ _=>by rw[Qn.mp hp]) (zad 0) (by decide +kernel) (λ_ _ _ us hl=>match us,hl with | [_],_=>rfl)))) (zax (h:=1000) 2) (zai (s_if (zhb (zdg (z0s C B (zae (zfr 1 ["_law_other", "_law_words", "_law_found", "_law_word"] C (λ_=>.of rfl (by kernel_rfl)) (zb8 C (zad 1)) (zax 0) zka (zca (C.comp _ _) zb7 (λ_=>trivial) (zae (zad 0) (zae (zad 3) zah)))) zah)))) (zai (zh1 1 C (zad 2))) zd0))) (zai (zha 1)))),λds Qr hn q=>?_⟩;obtain⟨ws,rfl,dm,q⟩:=q;have hs:=dm.ok;have hl:=dm.len;have sz:=Ur
 ac_rfl
 refine⟨ws.map tS,wkey,rfl,by rw[Qe];exact hl,λx hx=>?_,_,rfl,rfl,?_⟩
 .obtain⟨w,hw,rfl⟩:=QD.mp hx;exact⟨w,rfl,(hs w hw).1,by show PyData.tuple _=_;rw[zi3]⟩
 rw[zgm];have q:Qr (.n ((zeo (zb3 ws)).map tS)):=q;have hm:∀w∈zb3 ws,Sml w:=λw hw=>hs w (sortW_mem.mp hw);have hl2:=zjs (ws:=ws);generalize hu:zb3 ws=us at *;refine zaz (λj ρ=>∃o2,ρ = [some (.im (.list (ws.map tS))),some (.own (((us.take j).foldl zan []).map tS)),o2]) ⟨none,rfl⟩ (λρ zz=>?_) λj x ρ N hd hN zz=>?_
 .obtain⟨o2,e⟩:=zz;subst e;rw[Qe,Zg (Qg _)];exact⟨_,rfl,q⟩
 .obtain⟨o2,e⟩:=zz;subst e;rw[Qm] at hd;obtain⟨v,hv,rfl⟩:=Qt.mp hd;have mv:=Q5 hv;refine⟨rfl,?_⟩;have e2:(us.take (j+1)).foldl zan []=zan ((us.take j).foldl zan []) v:=by rw[zch hv,ZL];rfl
  have hk:=zgr (kept:=[]) (ws:=us.take j);rw[Q8] at hk;simp only[J0] at hk
  have hkm:∀w∈(us.take j).foldl zan [],Sml w:=λw hw=>by
   rcases zgw w hw with h|h
   .exact(Zt h).elim
   .exact hm w (QO h)
  rw[e2] at hN;generalize (us.take j).foldl zan []=cur at hk hkm hN ⊢
  ac_rfl
  refine zij (α:=List Nat) (enc:=tS) (e:=λu=>.bool (under u v)) (λu hu P hP=>?_) (by lia) ?_
  .ac_rfl
   exact⟨hkm u hu,hm v mv,hP _ rfl⟩
  ac_rfl
  refine⟨cur.map λu=>under u v,by rw[ZG];rfl,_,rfl,?_⟩;have ea:(cur.map λu=>under u v).any id=cur.any λu=>L6.under u v:=by rw[List.any_map];rfl
  rw[GO rfl,ea]
  cases c:cur.any λu=>L6.under u v with
  | true=>
    have e3:zan cur v=cur:=by unfold zan;exact GO c
    refine iteF (hN _ ⟨some (.im (tS v)),?_⟩);rw[e3];rfl
  | false=>
    have e3:zan cur v=cur ++ [v]:=GP (λz=>by rw[show cur.any (λu=>L6.under u v)=true from z] at c;cases c);refine iteT ⟨_,rfl,_,_,rfl,rfl,rfl,by rw[Qe];lia,hN _ ⟨some (.im (tS v)),?_⟩⟩;rw[e3,QE];rfl
end
section
variable {P:Um}{w:Uq}{K:Qa}{mg:Str->Option Uf}{base:Heap}{k:Nat}
variable {Pt:Addr}
abbrev zdr:Stmt:=top 19
theorem zj5:FnScope ["_law_grammar_here", "_law_made", "_law_ahead", "_law_name", "_law_body", "_law_found", "_law_thing", "_law_longer", "_law_one"] ["_law_grammar_here"] (zab zdr):=⟨rfl,rfl,rfl,by decide +kernel,rfl,by decide +kernel,by decide +kernel⟩
theorem zb6(B:Blt mg)(ze5:Def3 P w K mg base 2 "_law_over" ["_law_word", "_law_words"] (spO K (λ_=>True) 2 zkx))(zc2:Def3 P w K mg base 3 "_law_least" ["_law_words"] (spO K (HasTab Pt zal) 1 zjg))(T:Top3 K mg "_law_least_words" zdr):Def3 P w K mg base 4 "_law_least_words" ["_law_grammar_here"] (spO K (HasTab Pt zal) 1 zeq):=by
 refine mk_O T zj5 (λ_ _ _ _ _ _ us hl=>len1 hl λ_=>rfl) rfl λf cdv A outer s H E O hφ C=>⟨_,(zag (zmk 1 (zyb 1 ["_law_name", "_law_grammar_here", "_law_made", "_law_ahead", "._law_name", "_law_body", "_law_found", "_law_thing", "_law_longer", "_law_one"] C (λ_=>.of rfl (by kernel_rfl)) (i_r1 C B (zae (zc3 C (zad 0) zbd) zah)) (zax 0))) (zag (zmk 2 (zfj zkq)) (zag (znr C (t_ne C (zbz 1) (zbz 2)) (zag (zmp 2 1 ["_law_words", "_law_grammar_here", "_law_made", "_law_ahead", "_law_name", "_law_body", "_law_found", "_law_thing", "_law_longer", "_law_one"] C (λ_=>.of rfl (by kernel_rfl)) (zb8 C (zbz 1)) (zax 0) (zfj (zvh (C.comp _ _) B (zae (zad 0) zah)))) (zai (zbv C (zcp (zkf C (zc3 C (zad 0) zbd))) (zt0 (h:=1000) C (zf7 3 (zf7 4 zq6))) (zag (zbl 5 (zcr (zae zud zah))) (zag (zbv C (zcp (zkf C (zad 4))) (zax (h:=1000) 6) (zag (zbl 7 (zcr zah)) (zag (zz2 5 (zbv C (zn6 C 5) (zax (h:=1000) 8) (zai (zt1 7 C (zfr 1 ["_law_other", "_law_grammar_here", "_law_made", "_law_ahead", "_law_name", "_law_body", "_law_found", "_law_thing", "_law_longer", "_law_one"] C (λ_=>.of rfl (by kernel_rfl)) (zb8 C (e_if (zdg (zkh (T := "str") C B (zad 6) B.str)) (zcr (zae (zad 6) zah)) (zc3 C (zbz 1) (zad 6)))) (zax 0) zka (ze0 (C.comp _ _) (zad 9) (zad 0))))))) (zai (zbl 5 (zca C zc2 (λ_=>hφ) (zae (zfr 1 ["_law_word", "_law_grammar_here", "_law_made", "_law_ahead", "_law_name", "_law_body", "_law_found", "_law_thing", "_law_longer", "_law_one"] C (λ_=>.of rfl (by kernel_rfl)) (zb8 C (zad 7)) (zax 0) (zt3 (zhb (zdg (zca (C.comp _ _) ze5 (λ_=>trivial) (zae (zad 0) (zae (zc3 (C.comp _ _) (zbz 2) (zad 4)) zah)))))) (zad 0)) zah))))))) (zai (zvp 1 C (zfj (zca C zc2 (λ_=>hφ) (zae (ze0 C (zc3 C (zbz 1) (zad 3)) (zad 5)) zah))) (zad 3))))))))) (zai (zb1 (ze4 C B (zae (zc3 C (zbz 1) zbd) zah))))))),λds Qr hn q=>?_⟩;obtain⟨g,al,rfl,gl,q⟩:=q;have sz:=Ur;have ga:=gl.ga;have n3:=ga.n3;have n1:=ga.n1
 have rep:JO (Qp g.n.toNat (.list []))=wsD (Qp g.n.toNat []):=by
  unfold wsD;rw[Vo];rfl
 have lok:∀{ws:Ws},InvM g ws->∀l∈ws,LOk l:=λ{ws} h l hl=>by
  obtain⟨i,rfl⟩:=zrb hl;have hn:∀(i:Nat) u,u∈ws.at_ i->u∈nrW 3 g.rs i:=λi u hu=>h.nr ga hu;exact⟨by have:=zkb gl h.asc hn i;lia,λw hw=>gl.tok (by have:=zem gl (hn i w hw);exact⟨by lia,this.2⟩)⟩
 ac_rfl
 refine⟨by lia,by lia,by rw[zbu];lia,λd hd=>trivial,?_⟩;rw[zbu,rep]
 ac_rfl
 refine⟨λm ρ=>∃(ws:Ws) (a:Ug) (x3 x4 x5 x6 x7 x8:Option DV),InvM g ws/\((a = .none/\m=300)\/∃vs,InvM g vs/\a=wsD vs/\ws=zby g vs/\m=if ws=vs then 0 else 244-muM g ws)/\ρ = [some (.im (za8 g)),some (.thg (OwnT (wsD ws))),some (.thg (OwnT a)),x3,x4,x5,x6,x7,x8],⟨300,_,_,_,_,_,_,_,_,z0l,.inl ⟨rfl,rfl⟩,rfl⟩,?_⟩;rintro m ρ ⟨ws,a,x3,x4,x5,x6,x7,x8,iv,ha,rfl⟩
 have tst:∃b:Bool,eqF true (wsD ws) a=some (.o (.bool b))/\(b=false->zby g ws=ws)/\(b=true->∀m',(m'=if zby g ws=ws then 0 else 244-muM g (zby g ws))->m'<m):=by
  rcases ha with ⟨rfl,rfl⟩|⟨vs,iv2,rfl,e,rfl⟩
  .refine⟨true,zkd (zgb (lok iv)) zpt (q:=false) (hq:=⟨nofun,λz=>by cases z⟩),nofun,λ_ m' e=>?_⟩
   split at e <;> lia
  .refine⟨!decide (ws=vs),zkd (zgb (lok iv)) (zgb (lok iv2)) (q:=decide (ws=vs)) (hq:=by rw[GW];exact⟨λz=>by rw[z],zrj⟩),λz=>?_,λz m' e'=>?_⟩
   .have z:ws=vs:=by simpa using z
    rw[<- z] at e;exact e.symm
   .have z:ws≠vs:=by simpa using z
    rw[GP z];have h1:=zyg gl ws;rcases zvy ga iv with y|y
    .rw[GO y] at e';lia
    .split at e' <;> lia
 obtain⟨b,tb,bf,bt⟩:=tst
 ac_rfl
 refine⟨_,tb,?_⟩
 ac_rfl
 cases b with
 | false=>
   have ans:=zv3 ga iv (bf rfl) 0;have h0:0<ws.length:=by rw[iv.len];lia
   refine⟨_,rfl,?_⟩
   ac_rfl
   exact⟨_,zh9 h0,_,rfl,q _ ans⟩
 | true =>
   have lt:=bt rfl
   ac_rfl
   refine zno (enc:=wD1) (e:=wD1) (λl hl Py hPy=>?_) (by have:=iv.len;lia) ?_
   .ac_rfl
    exact⟨za1 (λ_=>rfl) _,hPy⟩
   .ac_rfl
    refine zaz (λj ρ=>∃x3 x4 x5 x6 x7 x8,ρ = [some (.im (za8 g)),some (.thg (OwnT (wsD ((g.rs.take j).foldl ruM ws)))),some (.thg (OwnT (wsD ws))),x3,x4,x5,x6,x7,x8]) ⟨_,_,_,_,_,_,rfl⟩ (λρ hρ=>?_) λj d ρ N hd nx hρ=>?_
    .obtain⟨x3,x4,x5,x6,x7,x8,rfl⟩:=hρ;rw[Qe,QT];exact⟨_,lt _ rfl,zby g ws,wsD ws,x3,x4,x5,x6,x7,x8,zph ga iv,.inr ⟨ws,iv,rfl,rfl,rfl⟩,rfl⟩
    .obtain⟨x3,x4,x5,x6,x7,x8,rfl⟩:=hρ;rw[Qm] at hd;obtain⟨r,hr,rfl⟩:=Qt.mp hd;have hrm:=Q5 hr;have er:=ga.each r hrm;have e1:(g.rs.take (j+1)).foldl ruM ws=ruM ((g.rs.take j).foldl ruM ws) r:=by rw[zch hr,ZL];rfl
     have iv2:=(zc8 ga (l:=g.rs.take j) (ws:=ws) (λx hx=>QO hx) iv).1;rw[e1] at nx;generalize (g.rs.take j).foldl ruM ws=cur at nx iv2 ⊢;obtain⟨nn,en⟩:∃nn:Nat,r.n=(nn:Int):=⟨r.n.toNat,by lia⟩;have nt:r.n.toNat=nn:=by lia
     have hnn:nn<cur.length:=by rw[iv2.len];lia
     have hn:∀(i:Nat) u,u∈cur.at_ i->u∈nrW 3 g.rs i:=λi u hu=>iv2.nr ga hu;have l81:=zkb gl iv2.asc hn;have l16:∀i,GThg.nm i∈r.b->(cur.at_ i.toNat).length<=16:=λi hi=>zt2 gl iv2.asc hn hrm hi;have tk:∀j,(∀t∈r.b.take j,ThA al g.n t)/\(r.b.take j).length<=3:=λj=>⟨λt ht=>er.2.2 t (QO ht),by rw[Q8];lia⟩;have fo:∀j w,w∈zav cur nn (r.b.take j)->w.length<=81/\∀c∈w,c∈al:=λj w hw=>zho gl hn (tk j).1 (tk j).2 (zd6 _ rfl hw)
     have f256:∀j,(zav cur nn (r.b.take j)).length<=256:=λj=>by
      refine Qy (zh3 (M:=16) _ rfl λi hi=>l16 i (QO hi)) (Qy (pow2 (by decide) ?_) (by decide));have h2:=gl.two r hrm;have:nms r.b=nms (r.b.take j)++nms (r.b.drop j):=by rw[<- zgi,Zv]
      rw[this,Qf] at h2;lia
     have cs:∀i,∀v∈cur.at_ i,Sml v:=λi v hv=>gl.sml (by have:=zem gl (hn i v hv);exact⟨by lia,this.2⟩);have ef:zeb r = .tuple [.int (nn:Nat),.tuple (r.b.map za6)]:=by unfold zeb;rw[en]
     refine⟨zf6 r,?_⟩;rw[ef]
     ac_rfl
     refine zaz (λj ρ=>∃x6 x7 x8,ρ = [some (.im (za8 g)),some (.thg (OwnT (wsD cur))),some (.thg (OwnT (wsD ws))),some (.im (.int (nn:Nat))),some (.im (.tuple (r.b.map za6))),some (.own ((zav cur nn (r.b.take j)).map tS)),x6,x7,x8]) ⟨_,_,_,rfl⟩ (λρ hρ=>?_) λj d ρ N2 hd nx2 hρ=>?_
     .obtain⟨x6,x7,x8,rfl⟩:=hρ;rw[Qe,QT];have fb:∀w∈zav cur nn r.b,w.length<=81/\∀c∈w,c∈al:=λw hw=>fo r.b.length w (by rw[QT];exact hw);have fl:(zav cur nn r.b).length<=256:=by have:=f256 r.b.length;rwa [QT] at this
      have l1:=l81 nn
      have hadd:addF (wD1 (cur.at_ nn)) (.list ((zav cur nn r.b).map tS))=some (.n ((cur.at_ nn++zav cur nn r.b).map tS)):=by
       rw[QE];exact zm3 (by rw[Qe,Qe];lia)
      have es:JO ((cur.map wD1).set nn (.list ((zaj (cur.at_ nn++zav cur nn r.b)).map tS)))=wsD (ruM cur r):=by
       unfold ruM wsD;rw[nt,List.map_set];rfl
      ac_rfl
      refine⟨_,zh9 hnn,?_⟩
      ac_rfl
      refine⟨_,hadd,?_⟩
      ac_rfl
      refine⟨⟨by rw[Qf];lia,λw hw=>(Qu.mp hw).elim (cs nn w) λz=>gl.sml (fb w z)⟩,za1 (λ_=>rfl) _,_,rfl,?_⟩
      ac_rfl
      refine⟨by rw[Qe];exact hnn,?_⟩;rw[es];exact nx _ ⟨_,_,_,_,_,_,rfl⟩
     .obtain⟨x6,x7,x8,rfl⟩:=hρ;rw[Qm] at hd;obtain⟨t,ht,rfl⟩:=Qt.mp hd;have htm:=Q5 ht;refine⟨by cases t <;> rfl,?_⟩
      ac_rfl
      have ef2:zav cur nn (r.b.take (j+1))=zn7 (cur.at_ nn) (zav cur nn (r.b.take j)) (zas cur t):=by
       rw[zch ht,zcn]
      rw[ef2] at nx2;have fj:=fo j;have fl:=f256 j
      have el:(zas cur t).length<=81:=by
       cases t with
       | nm i=>exact l81 _
       | lt u=>show 1<=81;decide
      have lw:∀w∈lngM (zav cur nn (r.b.take j)) (zas cur t),Sml w:=λw hw=>by
       obtain⟨u,hu,v,hv,rfl⟩:=lng_mem.mp hw;have o:Of (FW cur) (r.b.take j ++ [t]) (u++v):=(zd6 _ rfl hu).app3 (of_one.mpr hv);rw[<- zch ht] at o;exact gl.sml (zho gl hn (tk (j+1)).1 (tk (j+1)).2 o)
      generalize zav cur nn (r.b.take j)=bs at nx2 fj fl lw ⊢;refine .inr ⟨_,rfl,_,rfl,?_⟩;refine zaz (λk ρ=>∃x8,ρ = [some (.im (za8 g)),some (.thg (OwnT (wsD cur))),some (.thg (OwnT (wsD ws))),some (.im (.int (nn:Nat))),some (.im (.tuple (r.b.map za6))),some (.im (.list (bs.map tS))),some (.im (za6 t)),some (.own ((lngM (bs.take k) (zas cur t)).map tS)),x8]) ⟨_,rfl⟩ (λρ hρ=>?_) λk d ρ N3 hd nx3 hρ=>?_
      .obtain⟨x8,rfl⟩:=hρ;rw[Qe,QT];have ll:(lngM bs (zas cur t)).length<=20736:=Qy (zg2 _ _) (Jp fl el)
       ac_rfl
       refine zly (enc:=tS) (p:=λw=>!zam (cur.at_ nn) w) (e:=tS) (λw hw Pn Py h0 h1=>?_) (by lia) ?_
       .have sw:=lw w hw
        ac_rfl
        refine⟨_,zh9 hnn,?_⟩
        ac_rfl
        refine⟨sw,cs nn,_,rfl,?_⟩
        cases c:zam (cur.at_ nn) w with
        | true=>
          rw[c] at h0;exact h0 rfl
        | false=>
          rw[c] at h1
          ac_rfl
          exact h1 rfl _ rfl
       ac_rfl
       refine⟨⟨Qy (Jm _ _) (by lia),λw hw=>lw w (Z6.mp hw).1⟩,za1 (λ_=>rfl) _,?_⟩;exact nx2 _ ⟨_,_,_,rfl⟩
      .obtain⟨x8,rfl⟩:=hρ;rw[Qm] at hd;obtain⟨u,hu,rfl⟩:=Qt.mp hd;refine⟨rfl,?_⟩;have um:=Q5 hu;have ll:(lngM (bs.take k) (zas cur t)).length<=20736:=Qy (zg2 _ _) (Jp (show(bs.take k).length<=256 by rw[Q8];lia) el)
       have es:lngM (bs.take (k+1)) (zas cur t)=lngM (bs.take k) (zas cur t)++(zas cur t).map (u ++ ·):=by
        rw[zch hu];unfold lngM;rw[JS,ZZ,VA,Qx]
       have inn:∀(x7:Option DV) (Q:List Ug->Prop),Q ((zas cur t).map λv=>tS (u++v))->zbq 1 (gN 0) yesD (opDE (fn2 addF) (vD 9) (vD 0)) [some (.im (za8 g)),some (.thg (OwnT (wsD cur))),some (.thg (OwnT (wsD ws))),some (.im (.int (nn:Nat))),some (.im (.tuple (r.b.map za6))),some (.im (.list (bs.map tS))),some (.im (za6 t)),x7,some (.im (tS u))] Q ((zas cur t).map tS) []:=λx7 Q hQ=>by
        refine zij (enc:=tS) (e:=λv=>tS (u++v)) (λv hv Py hPy=>?_) (by lia) hQ;have l1:=(lw (u++v) (lng_mem.mpr ⟨u,um,v,hv,rfl⟩)).1;rw[Qf] at l1
        ac_rfl
        exact⟨_,zqp (v:=u) (w:=v) (by lia),hPy _ rfl⟩
       have fin:∀(x8:Option DV),N3 [some (.im (za8 g)),some (.thg (OwnT (wsD cur))),some (.thg (OwnT (wsD ws))),some (.im (.int (nn:Nat))),some (.im (.tuple (r.b.map za6))),some (.im (.list (bs.map tS))),some (.im (za6 t)),some (.own ((lngM (bs.take k) (zas cur t)).map tS++(zas cur t).map λv=>tS (u++v))),x8]:=λx8=>nx3 _ ⟨_,by rw[es,QE,ZG];rfl⟩
       cases t with
       | nm i=>
         obtain⟨h1,h2⟩:0<=i/\i<g.n:=er.2.2 _ htm
         have hidx:idxF (wsD cur) (.int i)=some (.o (wD1 (cur.at_ i.toNat))):=by
          have:=zh9 (ws:=cur) (n:=i.toNat) (by rw[iv2.len];lia);rwa [ZN h1] at this
         ac_rfl
         refine⟨_,hidx,_,rfl,inn _ _ ?_⟩;exact⟨_,rfl,za1 (λ_=>rfl) _,by rw[Qe,Qe];lia,fin _⟩
       | lt v=>
         (repeat first|refine inn _ _ ?_|infer_instance)
         exact⟨by rw[Qe,Qe];lia,fin _⟩
end
section
variable {P:Um}{w:Uq}{K:Qa}{mg:Str->Option Uf}{base:Heap}{k:Nat}
variable {Pt:Addr}
abbrev sLaw:Stmt:=top 20
theorem zz4:FnScope ["_law_script", "_law_deal_here", "_law_some", "_law_grammar_here", "_law_found"] ["_law_script"] (zab sLaw):=⟨rfl,rfl,rfl,by decide +kernel,rfl,by decide +kernel,by decide +kernel⟩
theorem zyv(B:Blt mg)(zez:Def3 P w K mg base 7 "least_of" ["grammar"] (spO K (λ_=>True) 1 zmn))(d_law_deal:Def3 P w K mg base 1 "_law_deal" ["_law_script", "_law_base"] (zhp K))(zdd:Def3 P w K mg base 2 "_law_letters" ["_law_deal_here"] (spD K IsDeal 0 zd5))(zdb:Def3 P w K mg base 2 "_law_grammar" ["_law_deal_here", "_law_letters_here"] (spD K IsDeal 1 (zk7 6)))(zb6:Def3 P w K mg base 4 "_law_least_words" ["_law_grammar_here"] (spO K (HasTab Pt zal) 1 zeq))(Fu:Fun K "law" "law" sLaw f₁ fd₁):FnOk P w K mg base CX0 8 f₁ fd₁ ["_law_script"] (spLawT K [(Pt,zal)]):=by
 refine zwq (k:=7) Fu zz4 rfl (λf cdv A outer s H E C=>?_) (λf cdv A outer s H E C=>?_)
 .obtain⟨fP,fdP,G,mP,kpP,bnP⟩:=d_law_deal.ex;exact zb9 (i:=1) (GQ (by kernel_rfl)) rfl (by first|exact Or.inl rfl|exact Or.inr rfl) (zc0 (k:=7) (G.mono (by decide)) (C.room ()) rfl mP kpP bnP .nil ze1 (zaq (zaf (i:=0) rfl (by first|exact Or.inl rfl|exact Or.inr (Or.inl rfl)|exact Or.inr (Or.inr rfl))) (zaq zau zbg)))
 .have hO:∀j:zfp [(Pt,zal)],IsDeal (ze3 [(Pt,zal)] j):=λj=>zsh j;have hT:∀j,HasTab Pt zal (ze3 [(Pt,zal)] j):=λj=>zpj (q:=(Pt,zal)) (λq h q' h' _=>by rw[Qn.mp h,Qn.mp h']) Ql j;refine⟨_,(zag (zyq 2 1 ["_law_k", "_law_script", "_law_deal_here", "_law_some", "_law_grammar_here", "_law_found"] C (λ_=>.of rfl (by kernel_rfl)) (i_r1 C B (zae zbd zah)) (zax 0) zka (zb5 2 (C.comp _ _) zdb (upD hO) (zae (zb5 2 (C.comp _ _) zdd (upD hO) zah) zah))) (zag (zbv C (zcp (zb8 C (ze0 C (zad 2) (zni C (zad 2) zyd (zl8 zbd))))) (zax (h:=1000) 3) (zag (zbl 4 (zca C zez (λ_=>trivial) (zae (zad 3) zah))) (zai (s_if (t_w (w_or (zhb (zdg (zkh (T := "tuple") C B (zad 4) B.tuple))) (zz1 (t_ne C (zad 4) (zca C zb6 hT (zae (zad 3) zah)))))) (zai (zb1 e_bl)) zd0)))) (zai (zb1 e_bl)))),λn hn=>?_⟩;have sz:=Ur
  ac_rfl
  refine⟨by decide,by decide,?_⟩;refine ztc (enc2:=za8) (good:=λg:GraZ=>∃al,GL g al) (λc hc Py hPy=>?_) (by decide) λgs hgs hlen=>?_
  .ac_rfl
   intro al a1 a3 alo _
   ac_rfl
   refine⟨a1,by lia,alo,λg g1 g3 gr hg2=>hPy g ⟨al,⟨g1,g3,by lia,a3,alo,λr hr=>?_⟩,by lia,λr hr=>?_⟩⟩
   .obtain⟨b1,b2,b3,b4,b5⟩:=hg2 r hr;refine⟨⟨b1,b2⟩,b3,λt ht=>?_⟩;have:=b5 t ht
    cases t with
    | nm i=>exact⟨this.1,by have:=this.2;lia⟩
    | lt v=>exact this
   .obtain⟨b1,b2,b3,b4,b5⟩:=hg2 r hr;unfold nms;rw[Qe];exact b4
  have hl:gs.length=2:=by rw[hlen];rfl
  refine⟨za1 (λg=>zm5 g) _,?_⟩
  have hsl:slcF none (some 1) (.list (gs.map za8))=some (.n ((gs.take 1).map za8)):=by
   show some (R.n (cutL _ none (some ((1:Nat):Int))))=_;rw[zxm,Yl]
  have hadd:addF (.list (gs.map za8)) (.list ((gs.take 1).map za8))=some (.n ((gs++gs.take 1).map za8)):=by
   rw[QE];exact zm3 (by rw[Qe,Qe,Q8];lia)
  (repeat first|refine⟨_,hsl,?_⟩|refine⟨hsl,?_⟩|refine⟨_,hadd,?_⟩|refine⟨hadd,?_⟩|infer_instance)
  have good:∀g∈gs++gs.take 1,∃al,GL g al:=λg hg=>by
   rcases Qu.mp hg with h|h
   .exact hgs g h
   .exact hgs g (QO h)
  generalize gs++gs.take 1=ps at good ⊢;refine zaz (λj ρ=>∃(x3 x4:Option DV),ρ = [some (.scr n),some .ob,some (.own (gs.map za8)),x3,x4]) ⟨_,_,rfl⟩ (λρ hρ=>?_) λj d ρ N hd nx hρ=>?_
  .obtain⟨x3,x4,rfl⟩:=hρ;exact rfl
  .obtain⟨x3,x4,rfl⟩:=hρ;rw[Qm] at hd;obtain⟨g,hp,rfl⟩:=Qt.mp hd;obtain⟨al,gl⟩:=good g (Q5 hp);refine⟨zm5 g,?_⟩
   ac_rfl
   refine⟨g,al,rfl,gl,λl ans l81 sml=>⟨by show flats (l.map tS)=true;exact za1 (λ_=>rfl) _,?_⟩⟩
   ac_rfl
   refine⟨g,al,rfl,gl,λm ans2=>?_⟩;obtain rfl:=ans.uniq ans2
   have ne:eqF true (.tuple (l.map tS)) (.tuple (l.map tS))=some (.o (.bool false)):=by
    have nn:Nice 1 (81 * (100+1)) (.tuple (l.map tS)):=zsw (n:=0) (b:=100) (λw hw=>zrz (λc hc=>by have:=(sml w hw).2 c hc;lia) (sml w hw).1) l81;exact zva (q:=true) nn nn (by decide) ⟨λ_=>rfl,λ_=>rfl⟩
   (repeat first|refine⟨_,ne,?_⟩|refine⟨ne,?_⟩|infer_instance)
   exact nx _ ⟨_,_,rfl⟩
end
def DIn(K:Qa)(x:Str)(st:Stmt):Prop:=∃(f:Addr) (od an:Option Addr) (sl:Array (Option Uf)) (oc kV dc pm cd ct:Uf),QQ K mainGlobals x=some (some (.ref f))/\K.lookup f=some ⟨oc,od,.func (Zo x x (zbi st) (zap st) (zab st) .none kV dc pm an cd ct),sl⟩/\Jb K cd x=true/\ZR K (.ref f)=true
theorem din_mk{K:Qa}{x:Str}{st:Stmt}{f:Addr}{od an:Option Addr}{sl:Array (Option Uf)}{oc kV dc pm cd ct:Uf}(a:QQ K mainGlobals x=some (some (.ref f)))(l:K.lookup f=some ⟨oc,od,.func (Zo x x (zbi st) (zap st) (zab st) .none kV dc pm an cd ct),sl⟩)(c:Jb K cd x=true)(k:ZR K (.ref f)=true):DIn K x st:=⟨f,od,an,sl,oc,kV,dc,pm,cd,ct,a,l,c,k⟩
theorem za3{K:Qa}{x:Str}{st:Stmt}{h:Heap}{mg:Str->Option Uf}(X:K.In h)(G:h.Ns mainGlobals mg)(D:DIn K x st):Top3 K mg x st:=by obtain⟨f,_,_,_,_,_,_,_,_,_,a,l,c,k⟩:=D;exact⟨f,_,zq4 (st:=st) l c k,Vc X G a⟩
theorem all_mk{l:Y7}{w:Uq}{K:Qa}{h:Heap}{mg:Str->Option Uf}{fa:Addr}(X:K.In h)(G:h.Ns mainGlobals mg)(hfa:mg "law" = some (.ref fa))
 (D1:DIn K "word_order" ze2)
 (D2:DIn K "places" zif)
 (D3:DIn K "lies_under" ze9)
 (D4:DIn K "one_lies_under" zda)
 (D5:DIn K "least" zmf)
 (D6:DIn K "words_of_body" zd2)
 (D7:DIn K "words_by_rules" zdc)
 (D8:DIn K "least_of" zgy)
 (D9:DIn K "_law_deal" zn2)
 (D10:DIn K "_law_draw" zn5)
 (D11:DIn K "_law_letters" zgt)
 (D12:DIn K "_law_grammar" zfx)
 (D13:DIn K "_law_under" zig)
 (D14:DIn K "_law_over" zlw)
 (D15:DIn K "_law_least" zgd)
 (D16:DIn K "_law_least_words" zdr)
 (D17:DIn K "law" sLaw)
 (z1:QQ K mainGlobals "len" = some none)
 (z2:QQ K mainGlobals "all" = some none)
 (z3:QQ K mainGlobals "any" = some none)
 (z4:QQ K mainGlobals "sorted" = some none)
 (z5:QQ K mainGlobals "min" = some none)
 (z6:QQ K mainGlobals "max" = some none)
 (z7:QQ K mainGlobals "repr" = some none)
 (z8:QQ K mainGlobals "int" = some none)
 (z9:QQ K mainGlobals "list" = some none)
 (z10:QQ K mainGlobals "tuple" = some none)
 (z11:QQ K mainGlobals "range" = some none)
 (z12:QQ K mainGlobals "set" = some none)
 (z13:QQ K mainGlobals "isinstance" = some none)
 (z14:QQ K mainGlobals "enumerate" = some none)
 (z15:QQ K mainGlobals "zip" = some none)
 (z16:QQ K mainGlobals "reversed" = some none)
 (z17:QQ K mainGlobals "str" = some none)
 (z18:QQ K mainGlobals "sum" = some none)
 (z19:QQ K mainGlobals "dict" = some none)
 (z20:QQ K mainGlobals "bool" = some none)
 (hT1:(VY K "_law_least").isSome=true)
 : ∃fd:UH,(∀(s:Ui) (v:Uf),G7 s fd ⟨[v],[]⟩ [("_law_script",v)])/\∀base:Heap,K.In base->base.Ns mainGlobals mg->(∀p∈([("_law_least",zal)]:L3.Nests),L3.Nst mg base (L3.cOf K p.1) (L3.pOf K p.1))->FnOk l.prog w K mg base CX0 8 fa fd ["_law_script"] (L3.spLawT K (L3.tbsOf K [("_law_least",zal)])):=by
 have T1:=za3 X G D1;have T2:=za3 X G D2;have T3:=za3 X G D3;have T4:=za3 X G D4;have T5:=za3 X G D5;have T6:=za3 X G D6;have T7:=za3 X G D7;have T8:=za3 X G D8;have T9:=za3 X G D9;have T10:=za3 X G D10;have T11:=za3 X G D11;have T12:=za3 X G D12;have T13:=za3 X G D13;have T14:=za3 X G D14;have T15:=za3 X G D15;have T16:=za3 X G D16;have T17:=za3 X G D17;have B:Blt mg:=⟨QA X G z1,QA X G z2,QA X G z3,QA X G z4,QA X G z5,QA X G z6,QA X G z7,QA X G z8,QA X G z9,QA X G z10,QA X G z11,QA X G z12,QA X G z13,QA X G z14,QA X G z15,QA X G z16,QA X G z17,QA X G z18,QA X G z19,QA X G z20⟩;obtain⟨f17,od17,an17,sl17,oc17,kV17,dc17,pm17,cd17,ct17,a17,l17,c17,k17⟩:=D17;have e:=hfa.symm.trans (Vc X G a17);cases e;refine⟨Zo "law" "law" (zbi sLaw) (zap sLaw) (zab sLaw) .none kV17 dc17 pm17 an17 cd17 ct17,λs v=>.of_eq rfl,λbase _ _ hN=>?_⟩;have e1:=zds (P:=l.prog) (w:=w) (base:=base) B T1;have e2:=zgu (P:=l.prog) (w:=w) (base:=base) B T2;have e3:=zdy B e2 T3;have e4:=zcf B e3 T4;have e5:=zia B e1 e4 T5;have e6:=zct (P:=l.prog) (w:=w) (base:=base) B T6;have e7:=zcg B e6 T7;have e8:=zez B e5 e7 T8;have e9:=d_law_deal (P:=l.prog) (w:=w) (base:=base) B T9;have e10:=d_law_draw (P:=l.prog) (w:=w) (base:=base) B T10;have e11:=zdd B e10 T11;have e12:=zdb B e10 T12;have e13:=zb7 (P:=l.prog) (w:=w) (base:=base) B T13;have e14:=ze5 B e13 T14;have e15:=zc2 B e13 (hN ("_law_least",zal) (by simp)) (L3.topC_of X G D15 hT1);have e16:=zb6 B e14 e15 T16;exact zyv B e8 e9 e11 e12 e16 (zq4 (st:=sLaw) l17 c17 k17)
theorem walk{l:Y7}{q:Um}{loose:List Str}{XP:(Str->Option Uf)->Heap->Prop}{YP:Uq->Heap->Prop}{d:DefRec}{K:Params->Qa}(hn:l.most=some 63)(hdf:d.params.defaults = [])
 (hY:∀(w:Uq) (h:Heap),YP w h->(K w.params).In h)
 (hK:∀w:Uq,PySem.W.noTabs (K w.params)=true) (hti:∀w:Uq,(([("_law_least",zal)]:L3.Nests).all λp=>(VY (K w.params) p.1).isSome)=true) (hrec:(([("_law_least",zal)]:L3.Nests).all λp=>((recsOf q).find? λe=>e.name == p.1).isSome)=true) (hnd:∀w:Uq,decide ((([("_law_least",zal)]:L3.Nests).map λp=>L3.pOf (K w.params) p.1).Nodup)=true)
 (F:∀(w:Uq) (mg:Str->Option Uf) (fa:Addr) (h:Heap),(K w.params).In h->h.Ns mainGlobals mg->mg d.name=some (.ref fa) ->
  ∃fd:UH,(∀(s:Ui) (u:Uf),G7 s fd ⟨[u],[]⟩ [("_law_script",u)])/\∀base:Heap,(K w.params).In base->base.Ns mainGlobals mg->(∀p∈([("_law_least",zal)]:L3.Nests),L3.Nst mg base (L3.cOf (K w.params) p.1) (L3.pOf (K w.params) p.1))->FnOk l.prog w (K w.params) mg base CX0 8 fa fd ["_law_script"] (L3.spLawT (K w.params) (L3.tbsOf (K w.params) [("_law_least",zal)]))) :
 VX q loose XP YP l.row.toRowW d [] (λf vs=>VP f vs) :=
 L3.walk_ofT (tl:=[("_law_least",zal)]) (k:=8) (x := "_law_script") hn hdf ⟨rfl,by decide,by decide,rfl⟩ hY hK hti hrec hnd F
end L53
open PySem PySem.W PyProof.Rows
set_option maxRecDepth 100000 in
set_option maxHeartbeats 0 in
theorem PySem.Challenge.cw_lostpost_k53_least_words_of_grammars_holds : PySem.Challenge.rw_lostpost_k53_least_words_of_grammars.Holds := by
 w_on;o_law;k_head;(case hw=>w_witness2)
 k_fill
 refine L53.walk (l:=PySem.Challenge.rw_lostpost_k53_least_words_of_grammars) rfl rfl (λw h Y=>PySem.W.km_in_of Y) ?hK ?hti ?hrec ?hnd ?F
 case F=>
  intro w mg fa h KX G hmg;refine' L53.all_mk KX G hmg (L53.din_mk ?a1 ?l1 ?c1 ?k1) (L53.din_mk ?a2 ?l2 ?c2 ?k2) (L53.din_mk ?a3 ?l3 ?c3 ?k3) (L53.din_mk ?a4 ?l4 ?c4 ?k4) (L53.din_mk ?a5 ?l5 ?c5 ?k5) (L53.din_mk ?a6 ?l6 ?c6 ?k6) (L53.din_mk ?a7 ?l7 ?c7 ?k7) (L53.din_mk ?a8 ?l8 ?c8 ?k8) (L53.din_mk ?a9 ?l9 ?c9 ?k9) (L53.din_mk ?a10 ?l10 ?c10 ?k10) (L53.din_mk ?a11 ?l11 ?c11 ?k11) (L53.din_mk ?a12 ?l12 ?c12 ?k12) (L53.din_mk ?a13 ?l13 ?c13 ?k13) (L53.din_mk ?a14 ?l14 ?c14 ?k14) (L53.din_mk ?a15 ?l15 ?c15 ?k15) (L53.din_mk ?a16 ?l16 ?c16 ?k16) (L53.din_mk ?a17 ?l17 ?c17 ?k17) ?z1 ?z2 ?z3 ?z4 ?z5 ?z6 ?z7 ?z8 ?z9 ?z10 ?z11 ?z12 ?z13 ?z14 ?z15 ?z16 ?z17 ?z18 ?z19 ?z20 ?hT1
  (case a1=>k_is);(case l1=>k_is);(case c1=>k_is);(case k1=>k_is)
  (case a2=>k_is);(case l2=>k_is);(case c2=>k_is);(case k2=>k_is)
  (case a3=>k_is);(case l3=>k_is);(case c3=>k_is);(case k3=>k_is)
  (case a4=>k_is);(case l4=>k_is);(case c4=>k_is);(case k4=>k_is)
  (case a5=>k_is);(case l5=>k_is);(case c5=>k_is);(case k5=>k_is)
  (case a6=>k_is);(case l6=>k_is);(case c6=>k_is);(case k6=>k_is)
  (case a7=>k_is);(case l7=>k_is);(case c7=>k_is);(case k7=>k_is)
  (case a8=>k_is);(case l8=>k_is);(case c8=>k_is);(case k8=>k_is)
  (case a9=>k_is);(case l9=>k_is);(case c9=>k_is);(case k9=>k_is)
  (case a10=>k_is);(case l10=>k_is);(case c10=>k_is);(case k10=>k_is)
  (case a11=>k_is);(case l11=>k_is);(case c11=>k_is);(case k11=>k_is)
  (case a12=>k_is);(case l12=>k_is);(case c12=>k_is);(case k12=>k_is)
  (case a13=>k_is);(case l13=>k_is);(case c13=>k_is);(case k13=>k_is)
  (case a14=>k_is);(case l14=>k_is);(case c14=>k_is);(case k14=>k_is)
  (case a15=>k_is);(case l15=>k_is);(case c15=>k_is);(case k15=>k_is)
  (case a16=>k_is);(case l16=>k_is);(case c16=>k_is);(case k16=>k_is)
  (case a17=>k_is);(case l17=>k_is);(case c17=>k_is);(case k17=>k_is)
  (case z1=>k_is)
  (case z2=>k_is)
  (case z3=>k_is)
  (case z4=>k_is)
  (case z5=>k_is)
  (case z6=>k_is)
  (case z7=>k_is)
  (case z8=>k_is)
  (case z9=>k_is)
  (case z10=>k_is)
  (case z11=>k_is)
  (case z12=>k_is)
  (case z13=>k_is)
  (case z14=>k_is)
  (case z15=>k_is)
  (case z16=>k_is)
  (case z17=>k_is)
  (case z18=>k_is)
  (case z19=>k_is)
  (case z20=>k_is)
  (case hT1=>kernel_rfl)
 (case hK=>intro w;kernel_rfl);(case hti=>intro w;kernel_rfl);(case hrec=>kernel_rfl);(case hnd=>intro w;kernel_rfl)

