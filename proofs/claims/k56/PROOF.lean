import PyProof.Rows.All
import Wide.All
import OpenK.AllK
import Wide.FinOn
import Lean
import PyProof.EqAt
import PyProof.EqKinds
import PyProof.TupleCall
import PyProof.StationsW
import PyProof.ExcClass2
import PyProof.ExcBaseAll.ValueError
import PyProof.InstStoreFacts
import PyProof.RulesAs
import PyProof.NsDelKeeps
import PyProof.P3Eq
import PyProof.P3In
import PyProof.ReprRoads
import PyProof.StrWalks
import PyProof.ListRange
import PyProof.ListStr
import PyProof.ConsumeWalk
import PyProof.MinMaxWalk
import PyProof.NeData
import PyProof.SliceStr2
import PyProof.Rows.SortStr
import PyProof.Rows.StrJoin2
import PyProof.Rows.SeqMore
import PyProof.SeqI3
import PyProof.StrLawsIn
import PyProof.ListMulRoad
import PyProof.StrOps2
import PyProof.ReprBulk
import PySem.Challenge.RW_lostpost_k56_trees_of_least_size
import PyProof.Rows.SortShellK
import KE.KSortTup
import PyProof.Rows.SetFrom
import PyProof.CollectIter
import PyProof.CollectStr
import PyProof.FactsAll.set
import KE.KDictOf
import PyProof.AttrMissHeap
import PyProof.DictWalks
import KE.KDictLaws
import PyProof.Draws
import KE.KRevIter
import PyProof.EnumStmt
import PyProof.JoinWalk
import KE.BitLaws
import PyProof.TupleOfSeq
import PySem.SetTable
import PyProof.SetScanFacts
import PyProof.TupleKey
import PyProof.IsRules
import PyProof.StrCalls6
import PyProof.StrLawsReplace
import PyProof.ExcAttrAll.ValueError
import PyProof.ExcArgs
import KE.KIsAll
import PyProof.DictRoadsH
import PyProof.ZipIter
import PyProof.EnumIter
import KE.KItemsList
import PyProof.Rows.SortRuns
open PyProof.Rows renaming AllBare->U4, envOfC->UB, subscriptTail_builtinR->UC, subscriptTail->UP, IntsAre->Ge
open PySem renaming PyData->VI, Value->VJ, wpAny_bind->VL, starEach->VM, Shared->VN, Program->VO, sizeLine_eq->VP, wpAny_pure->VQ, World->VR, bootBuiltins->VS, wpAny_field->VT, behindInMarks->VU, assignEach->VW, swapsWith->VX, Around->VY, wpAny_callSpecial?_slot->VZ, wpAny_call_entry->Ua, compareOp->Ub, bindArgs->Uc, cellsFrom->Ud, wpAny_Call_Name_kw->Ue, foldedSetIterable->Uf, wpAny_newObj_type->Ug, wpAny_truthy_bool->Uh, backTo->Ui, sysModules->Uj, wpAny_mono->Uk, attributeBase->Ul, wpAny_passesOwn->Um, Scope->Uo, NameKind->Up, tupleKind_room_in1->Uq, wpAny_setField_rec->Ur, FuncData->Us, call_meets->Ut, sliceBounds->Uu, Keyword->Uv, getItem->Uw, keywordEach->Ux, letOwnedTupleGo->Uy, wpAny_execs_nil->Uz, wpAny_ite_false->U0, wpAny_specialOf->U1, wpAny_pyIter_tuple->U2, wpAny_binaryOp_repeat_ref->U3, cLine->U5, wpAny_pyIter_list->U6, noFill_tuple_add->U7, wpAny_Call_method0_late->U8, IsEnum->U9, IsPart->UA, typeIs_int->UD, wpAny_typeOf->UE, pushCells_keeps->UF, builtinLookup_eq_fast->UG, wpAny_isTrue_Compare1->UH, assign->UI, backToKw->UJ, slicePicked->UK, wpAny_loadName_local->UL, seqIndex?->UM, valueAt->UN, seq_tuple_add->UO, wpAny_holding->UQ, typeLookup->UR, BindsTo->US, codeAny->UT, codeAny_mono->UU, concat_meets->UV, spliced->UW, Paired->UX, pyNext->UY, atKey->UZ, bindC->Gi, bindL->Gj, rawInt->Gk
abbrev Gm:=@if_pos
abbrev Gn:=@if_neg
abbrev Go:=@of_decide_eq_true
abbrev Gp:=@decide_eq_false
abbrev Gq:=@decide_eq_true
abbrev Gr:=@congrArg
abbrev Gs:=@beq_self_eq_true
abbrev Gu:=@if_true
abbrev Gv:=@if_false
abbrev Gw:=@of_decide_eq_false
abbrev Gx:=@decide_eq_true_eq
abbrev Gy:=@or_false
open Array renaming length_toList->JI, toList_inj->Yj, getElem?_toList->Yz, toList->VD
open Bool renaming false_ne_true->Qo, and_eq_true->QV, false_eq_true->Z2, eq_iff_iff->Ji, false_and->JP, noConfusion->Yl, true_and->YH, or_false->V5
open False renaming elim->ZK
open ForInStep renaming yield->JG
open Int renaming emod_lt_of_pos->Z3, emod_nonneg->ZO, toNat_natCast->ZS, eq_ofNat_of_zero_le->Js, lt_of_lt_of_le->YL, natCast_mul->Vt, natCast_add->Vw
open List renaming length_map->Qb, mem_cons_of_mem->Qc, replicate->Qh, length_append->Qi, getElem?_map->Qj, mem_cons_self->Qm, mem_singleton->Qn, map_cons->Qp, size_toArray->Qq, length_cons->Qs, getElem?_eq_getElem->Qu, mem_of_getElem?->Qw, getElem?_eq_some_iff->Qx, getElem?_append_left->Qy, getElem?_set_self->Q0, mem_cons->Q1, getElem?_set_ne->Q4, map_append->Q6, getElem?_append_right->Q7, mem_map->Q8, mem_append->Q9, length_set->QA, not_mem_nil->QE, mem_append_right->QF, length_replicate->QG, length_singleton->QH, getElem?_eq_none->QI, append_nil->QJ, range->QL, map_map->QN, foldl_append->QO, length_take->QT, getElem?_replicate->QU, take_length->QX, append_assoc->QZ, mem_filterMap->Za, replicate_succ->Zd, lookup_cons_self->Ze, length_drop->Zh, map_congr_left->Zj, lookup_cons->Zn, find?_cons_of_pos->Zp, find?_cons_of_neg->Zq, nodup_cons->Zr, find?_cons->Zs, eq_nil_of_length_eq_zero->Zu, mem_of_mem_take->Zv, flatten_cons->Zw, length_range->Zx, take_of_length_le->Zy, drop_eq_nil_of_le->Zz, mem_range->Z0, getD_eq_getElem?_getD->Z4, drop_eq_getElem_cons->Z7, foldl_cons->Z9, getElem?_zipIdx->ZB, sum_cons->ZD, filterMap_cons->ZE, getElem?_cons_succ->ZF, getElem_mem->ZG, nodup_append->ZR, mem_append_left->ZU, mem_of_mem_drop->ZW, all_eq_true->ZX, filter_cons->ZZ, mem_filter->Jh, nil_append->Jj, getElem?_drop->Jn, eraseIdx_cons_succ->Jq, length_pos_of_mem->Jy, mem_range'_1->Jz, eraseIdxIfInBounds_toArray->J0, foldl->J7, getElem?_of_mem->JE, drop_take->JV, length_range'->JW, length_zipIdx->JX, length_erase_of_mem->Yc, range'_eq_map_range->Yd, drop_length->Yh, map_nil->Yo, of_mem_zip->Yt, length_nil->Yu, range_succ->Yw, getElem?_toArray->Y0, take_eq_take_min->Y1, length_filter_le->Y3, mem_iff_getElem->Y6, drop_zero->Y7, mem_erase_of_ne->Y8, range'->Y9, any_cons->YF, all_cons->YG, filter_append->YM, zip_cons_cons->YO, reverse_cons->YT, ext_getElem?->YW, take_add_one->YX, pairwise_map->Vb, mem_zipIdx'->Vp, length->Vr, take_nil->V7, map_take->V8, map_drop->V9, map->VH
open List.Nodup renaming length_le_of_subset->ZI
open Nat renaming le_refl->Qe, lt_of_lt_of_le->Q2, le_trans->Q3, ne_of_lt->Q5, zero_le->QC, lt_irrefl->QY, lt_or_ge->ZN, lt_succ_of_lt->ZQ, le_add_right->Ja, le_antisymm->Jk, le_succ->Jr, mul_comm->Jw, le_of_succ_le->Jx, div_eq_of_lt->JA, mod_eq_of_lt->JB, zero_add->JN, le_of_not_lt->Yf, lt_succ_self->Yg, le_of_lt->Yn, min_eq_left->Yy, mul_le_mul_right->YA, lt_of_le_of_ne->YK, ne_of_gt->YQ, add_comm->YU, lt_succ_of_le->Vd, min_eq_right->Vn, mul_add_div->Vu, mul_add_mod->Vv, mul_le_mul->V3
open Ne renaming symm->Zt
open Option renaming map_eq_some_iff->Qf, none->QD, isSome_map->Zg, isSome_iff_exists->Zk, map_some->Zl, isSome_some->YJ, getD_none->Vj
open Option.some renaming inj->QM
open Prod renaming snd->Ve
open PyProof.Rows renaming callWith_type1->QQ, slot_tuple_getitem->QR, callWith_builtin1->J5
open PyProof.Rows.IsTup renaming new->YC
open PySem renaming Spec->Ql, mem_of_lookup->Zi, evalArgs_none->YD, seqSlot_of->Vo, SetTable->Vx, call->V0, Builtin->VA, Within->VC
open PySem.AutoSeq1 renaming wpAny_loadPart'->Jg
open PySem.Builtin.List renaming listTooLong->Je, listLengthHint->JL, listSameRef->Yb
open PySem.Builtin.Range renaming rangePlace?->JY
open PySem.Builtin.Slice renaming slicePlaces->Z6, sliceAdjust->Jb, sliceApplied->JQ
open PySem.Builtin.SmallTypes renaming nextOf->Z8, ownedTupleHandOut->Jc, ownedTupleIsFree->Jf
open PySem.Builtin.Str renaming strSliceIndices->JJ, occurrences->Yi, glued->YZ
open PySem.Builtin.Tuple renaming tupleExact->ZC, tupleItemsOf->JR, tupleTooMany->JT
open PySem.Calls renaming spliced_cons->Zm, spliced_nil->ZA, callWith_builtin->ZL, Name_function_global->JO, evalArgs_plain->Y5
open PySem.Data renaming seq->VG
open PySem.F renaming slot_tuple_iterator_next->Z5, plainAttrs_list->ZH, slot_enumerate_next->ZP, slot_range_contains->ZT, slot_tuple_mul->ZY, args_tuple_add_2->Jd, entry_tuple_add->Jp, slot_tuple_add->Jv, slot_dict_get->J1, slot_list_pop->J2, type_list_pop->J4, slot_dict_itemiterator_iter->JD, slot_int_rmul->JF, args_tuple_iterator_next_1->JH, entry_tuple_iterator_next->JM, args_tuple_mul_2->JU, entry_tuple_mul->Ya, args_dict_get_3->Ye, args_enumerate_next_1->Yk, entry_dict_get->Yp, entry_enumerate_next->Yr, args_int_rmul_2->YV, slot_tuple_rmul->Va, slot_dict_items->Vc, entry_list_pop->Vk, slot_int_index->Vl, entry_int_rmul->Vm
open PySem.Heap renaming get?_push_of_some->Qg, lt_size->Qt, get?_push_size->Qv, size_push->QW, SameBut->Zo, get?_update_other->ZM, get?_update_self->Y2
open PySem.Heap.SameBut renaming update->YE
open PySem.NameKind renaming free->QK, cell->QP
open PySem.Obj renaming mapSeq->J8, data_mapFields->YN
open PySem.Paired renaming length->JC, snoc->VF
open PySem.PassesOwn renaming never->Yx
open PySem.PyData renaming int->Jo, eqv->J9, strOk->JK, str->Yq, canLayAll0->YY, tuple->Vf, list->Vs, canLay0->V2, depth->VE
open PySem.Str renaming ofString->Zf, length->JS
open PySem.Txt renaming join->V1
open PySem.Value renaming ref->QS, bool->ZJ, none->Jl, type->Jm, int->Vg, str->Vh, isStrOf->V4
open PySem.W renaming Frag->Qa, mg_none_of->Qz, nsIn->QB, fnOf->Zb, kia_one->Zc, keepIn->ZV, cellsFrom_some->Jt, codeIn->Ju, methodObj->JZ, instObj->Ys, OpenLaw->Yv, lookIn->Y4, kitx_tuple->YI, kitx_list->YR, kitx_dict->YS, plainGet->Vi, findIn->Vy, kitOne->Vz, WalkO->V6, mg_of->VB
open Sum renaming inr->Ym, inl->YB
open Sum.inl renaming inj->Vq
open True renaming intro->Z1
set_option autoImplicit true
set_option relaxedAutoImplicit true
set_option Elab.async false
set_option linter.all false
set_option maxRecDepth 100000
local macro_rules|`(tactic|lia)=>`(tactic|first|with_reducible(first|assumption|exact Nat.le_refl _|exact Nat.zero_le _|exact Nat.le_of_lt ‹_›|exact Nat.le_succ_of_le ‹_›|exact Nat.lt_succ_of_lt ‹_›|exact Nat.lt_of_succ_lt ‹_›|exact Nat.lt_succ_of_le ‹_›|exact Nat.le_of_lt_succ ‹_›|exact Nat.pos_of_ne_zero ‹_›|exact Nat.ne_of_gt ‹_›|exact Nat.ne_of_lt ‹_›|exact Nat.le_of_not_lt ‹_›|exact Nat.lt_of_not_le ‹_›|exact Nat.succ_pos _|exact Nat.lt_succ_self _|exact Nat.lt_of_lt_of_le ‹_› ‹_›|exact Nat.lt_of_le_of_lt ‹_› ‹_›|exact Nat.le_trans ‹_› ‹_›)|grind -ring -linarith -ac -order -mbtc -ext -funext -funCC -etaStruct (ematch:=0) [-Prod]|cutsat)
local macro_rules|`(tactic|ac_rfl)=>`(tactic|(repeat infer_instance))
namespace L2
open PySem PySem.Spec PyProof.Rows
abbrev Key:=Sum Int Str
def zfb:Key->VJ->Bool
 | .inl k,v=>Value.isInt k v
 | .inr x,v=>V4 x v
def keyH(w:VR):Key->Int
 | .inl k=>hashInt k
 | .inr x=>hashStr w x
theorem zba:∀{k:Key} {v:VJ},zfb k v=true->(∃i t,k=YB i/\v=Vg i t)\/(∃x t,k=Ym x/\v=Vh x t)
 | .inl i,v,h=>by
   obtain⟨t,e⟩:=Value.isInt_shape (k:=i) (v:=v) h;exact .inl ⟨i,t,rfl,e⟩
 | .inr x,v,h=>by
   obtain⟨t,e⟩:=Value.isStrOf_shape (x:=x) (v:=v) h;exact .inr ⟨x,t,rfl,e⟩
theorem zq4(i:Int)(t:Tok):zfb (.inl i) (.int i t)=true:=by simp[zfb,Value.isInt]
theorem zqq(x:Str)(t:Tok):zfb (.inr x) (.str x t)=true:=by simp[zfb,V4]
theorem zz1(a b:Int):decide ((YB a:Key)=YB b)=(a == b):=by
 by_cases e:a=b
 .subst e;simp
 .have h:¬(YB a:Key)=YB b:=λq=>e (Vq q);rw[Gp h];exact(beq_eq_false_iff_ne.mpr e).symm
theorem zzz(a b:Str):decide ((Ym a:Key)=Ym b)=decide (a=b):=by
 by_cases e:a=b
 .subst e;simp
 .have h:¬(Ym a:Key)=Ym b:=λq=>e (Sum.inr.inj q);rw[Gp h,Gp e]
theorem zyy(a:Int)(b:Str):decide ((YB a:Key)=Ym b)=false:=Gp (λq=>nomatch q)
theorem zzy(a:Str)(b:Int):decide ((Ym a:Key)=YB b)=false:=Gp (λq=>nomatch q)
def za4(prog:VO)(w:VR):PySem.KeyKind prog w Key where
 is:=zfb
 hash:=keyH w
 inj:=λv a b ha hb=>by
  rcases zba ha with ⟨i,t,rfl,rfl⟩|⟨x,t,rfl,rfl⟩
  .rcases zba hb with ⟨j,u,rfl,e⟩|⟨y,u,rfl,e⟩
   .injection e with e1 _;rw[e1]
   .exact nomatch e
  .rcases zba hb with ⟨j,u,rfl,e⟩|⟨y,u,rfl,e⟩
   .exact nomatch e
   .injection e with e1 _;rw[e1]
 byValue:=λk v h=>by
  rcases zba h with ⟨i,t,rfl,rfl⟩|⟨x,t,rfl,rfl⟩ <;> rfl
 pyHash:=λhv h=>by
  rcases zba hv with ⟨i,t,rfl,rfl⟩|⟨x,t,rfl,rfl⟩
  .exact wpAny_pyHash_int h
  .exact wpAny_pyHash_str h
 eqBool:=λhu hv h=>by
  rcases zba hu with ⟨i,t,rfl,rfl⟩|⟨x,t,rfl,rfl⟩
  .rcases zba hv with ⟨j,u,rfl,rfl⟩|⟨y,u,rfl,rfl⟩
   .rw[zz1] at h;exact wpAny_eqBool_int h
   .rw[zyy] at h;exact SeqAt.EqAt.int_str i t y u _ _ _ _ h
  .rcases zba hv with ⟨j,u,rfl,rfl⟩|⟨y,u,rfl,rfl⟩
   .rw[zzy] at h;exact SeqAt.EqAt.str_int x t j u _ _ _ _ h
   .rw[zzz] at h;exact wpAny_eqBool_str h
 «strs»:=λk x t v h=>by
  rcases zba h with ⟨i,u,rfl,e⟩|⟨y,u,rfl,e⟩
  .exact nomatch e
  .injection e with e1 _;subst e1;cases v <;> rfl
theorem zm7(prog:VO)(w:VR)(i:Int)(t:Tok):(za4 prog w).is (.inl i) (.int i t)=true:=zq4 i t
theorem zni(prog:VO)(w:VR)(x:Str)(t:Tok):(za4 prog w).is (.inr x) (.str x t)=true:=zqq x t
inductive V where
 | non|bl (b:Bool)|int (i:Int)|str (x:Str)|byt (b:Array UInt8)|flt (b:UInt64)|ref (a:Addr)|ty (n:String)
 deriving DecidableEq
def RelV:V->VJ->Prop
 | .non,u=>u=Jl
 | .bl b,u=>u=ZJ b
 | .int i,u=>∃t,u=Vg i t
 | .str x,u=>∃t,u=Vh x t
 | .byt b,u=>∃t,u=Value.bytes b t
 | .flt b,u=>∃t,u=Value.float b t
 | .ref a,u=>u=QS a
 | .ty n,u=>u=Jm n
abbrev Vals:List V->List VJ->Prop:=UX RelV
theorem Vals.length(r:Vals xs us):xs.length=us.length:=JC r
theorem Vals.get:∀{xs:List V} {us:List VJ} {i:Nat} {x:V},Vals xs us->xs[i]? = some x->∃u,us[i]? = some u/\RelV x u
 | _,_,_,_,.nil,e=>by simp at e
 | _,_,0,_,.cons r _,e=>by simp at e;subst e;exact⟨_,rfl,r⟩
 | _,_,i+1,x,.cons _ t,e=>by
   obtain⟨u,h1,h2⟩:=Vals.get (i:=i) (x:=x) t (by simpa using e);exact⟨u,by simpa using h1,h2⟩
theorem Vals.append:∀{xs ys:List V} {us ws:List VJ},Vals xs us->Vals ys ws->Vals (xs++ys) (us++ws)
 | _,_,_,_,.nil,s=>s
 | _,_,_,_,.cons r t,s=>.cons r (Vals.append t s)
theorem Vals.take:∀{xs:List V} {us:List VJ} (n:Nat),Vals xs us->Vals (xs.take n) (us.take n)
 | _,_,0,_=>.nil
 | _,_,_+1,.nil=>.nil
 | _,_,n+1,.cons r t=>.cons r (Vals.take n t)
theorem Vals.drop:∀{xs:List V} {us:List VJ} (n:Nat),Vals xs us->Vals (xs.drop n) (us.drop n)
 | _,_,0,r=>r
 | _,_,_+1,.nil=>.nil
 | _,_,n+1,.cons _ t=>Vals.drop n t
def RelO:Option V->Option VJ->Prop
 | some v,some u=>RelV v u
 | none,none=>True
 | _,_=>False
def KV{κ:Type}:List (κ×V)->List (κ×VJ)->Prop:=UX λ(p:κ×V) (q:κ×VJ)=>p.1=q.1/\RelV p.2 q.2
def kV:Key->V
 | .inl i=>.int i
 | .inr x=>.str x
inductive HO where
 | lst (xs:List V)
 | tup (xs:List V)
 | dK (kvs:List (Key×V))|dT (kvs:List (List Key×V))
 | set (S:Int->Bool) (n:Nat)
 | ins (C dx:Addr) (fs:List (Str×V))
 | own (x:Addr)
 | xd (fs:List (Str×V))
 | met (f x:Addr)
 | rng (lo hi:Int)
 | frz (o:Obj) (u:HO)
 | tbl (ps:Array VJ)
 | ext (φ:Heap->Prop)
abbrev Hp:=Addr->Option HO
def upd(H:Hp)(a:Addr)(o:HO):Hp:=λb=>if b=a then some o else H b
theorem zaf: upd H a o a=some o:=by unfold upd;rw[Gm rfl]
theorem zac(h:b≠a):upd H a o b=H b:=by unfold upd;rw[Gn h]
theorem z1j{H:Hp}{a b:Addr}{o u:HO}(h:H a=some o)(h':H b=some u)(d:o≠u):a≠b:=by
 intro e;subst e;rw[h] at h';exact d (QM h')
theorem zch{H:Hp}{a b:Addr}{o:HO}(h:H a=some o)(h':H b=none):a≠b:=by
 intro e;subst e;rw[h] at h';cases h'
section
variable (P:VO)(w:VR)
def ObjOk(H:Hp)(h:Heap)(a:Addr):HO->Prop
 | .lst xs=>xs.length<=sizeLine/\∃(its:List VJ) (n:Nat),Vals xs its/\h.get? a=some { cls:=.type "list",data:=.seq its.toArray n }
 | .tup xs=>xs.length<=sizeLine/\∃its:List VJ,Vals xs its/\IsTup h a its.toArray
 | .dK kvs=>kvs.length<=sizeLine/\(a == Uj)=false/\∃vs,KV kvs vs/\h.DictOf (za4 P w) a vs
 | .dT kvs=>kvs.length<=sizeLine/\(a == Uj)=false/\∃xs:List (List Key×Addr×VJ),
  UX (λ(p:List Key×V) (q:List Key×Addr×VJ)=>p.1=q.1/\H q.2.1=some (.tup (p.1.map kV))/\RelV p.2 q.2.2) kvs xs /\
  ∃o es ep,h.get? a=some o/\o.ExactDict/\o.data = .dict es ep/\es.toList=xs.map (entryOfKey (tupleKind (za4 P w)))/\(xs.map (·.1)).Nodup
 | .set S n=>h.SetOf (intKind P w) a S n
 | .ins C dx fs=>H dx=some (.own a)/\fs.length<=1000/\dx≠a/\h.get? a=some (Ys C dx) /\
  ∃mA,h.Ns1 dx mA/\(∀f,RelO (fs.lookup f) (mA f))/\VC mA (fs.map (·.1))
 | .own _=>∃o,h.get? a=some o
 | .xd fs=>∃mA,h.Ns1 a mA/\∀f,RelO (fs.lookup f) (mA f)
 | .rng lo hi=>∃t u v,h.get? a=some { cls:=.type "range",data:=.fields #[.int lo t,.int hi u,.int 1 v] }
 | .frz o u=>h.get? a=some o/\ObjOk H h a u
 | .tbl ps=>h.get? a=some { cls:=.none,data:=.fields ps }
 | .met f x=>h.get? a=some (JZ (.ref f) (.ref x))
 | .ext φ=>φ h/\(∃o,h.get? a=some o)/\∀h1 h2:Heap,φ h1->(∀o,h1.get? a=some o->h2.get? a=some o)->φ h2
def HOk(H:Hp)(h:Heap):Prop:=∀a o,H a=some o->ObjOk P w H h a o
end
section
variable {P:VO}{w:VR}{H H':Hp}{h h':Heap}{a:Addr}{o:HO}
theorem ObjOk.lt(x:ObjOk P w H h a o):a<h.objs.size:=by
 cases o with
 | lst xs=>obtain⟨_,_,_,_,e⟩:=x;exact Qt e
 | tup xs=>obtain⟨_,_,_,p⟩:=x;exact p.lt
 | dK kvs=>obtain⟨_,_,_,_,o,_,_,e,_⟩:=x;exact Qt e
 | dT kvs=>obtain⟨_,_,_,_,o,_,_,e,_⟩:=x;exact Qt e
 | set S n=>obtain⟨o,_,_,_,e,_⟩:=x;exact Qt e
 | ins C dx fs=>obtain⟨_,_,_,e,_⟩:=x;exact Qt e
 | own y=>obtain⟨_,e⟩:=x;exact Qt e
 | xd fs=>obtain⟨_,⟨_,_,_,e,_⟩,_⟩:=x;exact Qt e
 | rng lo hi=>obtain⟨_,_,_,e⟩:=x;exact Qt e
 | frz ob u=>obtain⟨e,_⟩:=x;exact Qt e
 | tbl ps=>exact Qt (show h.get? a=some _ from x)
 | met f y=>exact Qt (show h.get? a=some _ from x)
 | ext φ=>obtain⟨_,⟨_,e⟩,_⟩:=x;exact Qt e
theorem Paired.mapP{α β:Type}{F G:α->β->Prop}:∀{l₁:List α} {l₂:List β},UX F l₁ l₂->(∀a b,F a b->G a b)->UX G l₁ l₂
 | _,_,.nil,_=>.nil
 | _,_,.cons r t,f=>.cons (f _ _ r) (Paired.mapP t f)
theorem ObjOk.stay(x:ObjOk P w H h a o)(k:∀b u,(b=a\/H b=some (.own a))->h.get? b=some u->h'.get? b=some u)
 (ho:∀b,H b=some (.own a)->H' b=some (.own a)) (ht:∀b xs,H b=some (.tup xs)->H' b=some (.tup xs)):ObjOk P w H' h' a o:=by
 induction o with
 | lst xs=>obtain⟨z,its,n,r,e⟩:=x;exact⟨z,its,n,r,k _ _ (.inl rfl) e⟩
 | tup xs=>obtain⟨z,its,r,ob,e,c⟩:=x;exact⟨z,its,r,ob,k _ _ (.inl rfl) e,c⟩
 | dK kvs=>obtain⟨z,y,vs,r,ob,es,ep,e,c⟩:=x;exact⟨z,y,vs,r,ob,es,ep,k _ _ (.inl rfl) e,c⟩
 | dT kvs=>
   obtain⟨z,y,xs,r,ob,es,ep,e,c⟩:=x;exact⟨z,y,xs,Paired.mapP r λp q z=>⟨z.1,ht _ _ z.2.1,z.2.2⟩,ob,es,ep,k _ _ (.inl rfl) e,c⟩
 | set S n=>obtain⟨ob,es,ep,t,e,c⟩:=x;exact⟨ob,es,ep,t,k _ _ (.inl rfl) e,c⟩
 | ins C dx fs=>
   obtain⟨d,z,ne,e,mA,⟨od,es,ep,e2,c⟩,r⟩:=x;exact⟨ho _ d,z,ne,k _ _ (.inl rfl) e,mA,⟨od,es,ep,k _ _ (.inr d) e2,c⟩,r⟩
 | own y=>obtain⟨ob,e⟩:=x;exact⟨ob,k _ _ (.inl rfl) e⟩
 | xd fs=>obtain⟨mA,⟨od,es,ep,e,c⟩,r⟩:=x;exact⟨mA,⟨od,es,ep,k _ _ (.inl rfl) e,c⟩,r⟩
 | rng lo hi=>obtain⟨t,u,v,e⟩:=x;exact⟨t,u,v,k _ _ (.inl rfl) e⟩
 | frz ob u ih=>obtain⟨e,q⟩:=x;exact⟨k _ _ (.inl rfl) e,ih q⟩
 | tbl ps=>
   have e:h.get? a=some { cls:=.none,data:=.fields ps }:=x;show h'.get? a=some { cls:=.none,data:=.fields ps };exact k a _ (.inl rfl) e
 | met f y=>
   have e:h.get? a=some (JZ (.ref f) (.ref y)):=x;show h'.get? a=some (JZ (.ref f) (.ref y));exact k a _ (.inl rfl) e
 | ext φ=>obtain⟨p,⟨o,e⟩,st⟩:=x;exact⟨st _ _ p λo q=>k _ _ (.inl rfl) q,⟨o,k _ _ (.inl rfl) e⟩,st⟩
theorem HOk.lt(x:HOk P w H h)(e:H a=some o):a<h.objs.size:=(x a o e).lt
theorem HOk.fresh(x:HOk P w H h)(e:h.objs.size<=a):H a=none:=by
 cases q:H a with
 | none=>rfl
 | some u=>exact absurd (Q2 (x.lt q) e) (QY _)
theorem HOk.kept(x:HOk P w H h)(k:∀b u,h.get? b=some u->h'.get? b=some u):HOk P w H h':=λa o e=>
 (x a o e).stay (λb u _ q=>k b u q) (λ_ q=>q) λ_ _ q=>q
theorem HOk.laid(x:HOk P w H h)(k:∀b u,h.get? b=some u->h'.get? b=some u)(hp:h.objs.size<=a)(new:ObjOk P w (upd H a o) h' a o):HOk P w (upd H a o) h':=λb u e=>by
 have hn:=x.fresh hp
 by_cases hb:b=a
 .subst hb;rw[zaf] at e;cases e;exact new
 .rw[zac hb] at e;exact(x b u e).stay (λc v _ q=>k c v q) (λc q=>by rw[zac (zch q hn)];exact q) λc xs q=>by rw[zac (zch q hn)];exact q
end
def Rd(H:Hp)(a:Addr)(u:HO):Prop:=H a=some u\/∃o,H a=some (.frz o u)
theorem Rd.ok(r:Rd H a u)(x:HOk P w H h):ObjOk P w H h a u:=by
 rcases r with r|⟨o,r⟩
 .exact x a u r
 .obtain⟨_,q⟩:=x a _ r;exact q
def Mut:Option HO->Prop
 | some (.lst _)=>True
 | some (.dK _)=>True
 | some (.dT _)=>True
 | some (.set _ _)=>True
 | some (.ins _ _ _)=>True
 | some (.ext _)=>True
 | _=>False
section
variable {P:VO}{w:VR}{H:Hp}{h h':Heap}{x e:Addr}{o':HO}
theorem HOk.write(ok:HOk P w H h)(mu:Mut (H x))(he:e=x\/H e=some (.own x))(k:∀b u,b≠e->h.get? b=some u->h'.get? b=some u)(heo:∃u,h'.get? e=some u)
 (new:ObjOk P w (upd H x o') h' x o'):HOk P w (upd H x o') h':=λb u q=>by
 have nown:∀c y,H c=some (.own y)->c≠x:=λc y r z=>by subst z;rw[r] at mu;exact mu
 have ntup:∀c xs,H c=some (.tup xs)->c≠x:=λc xs r z=>by subst z;rw[r] at mu;exact mu
 by_cases hb:b=x
 .subst hb;rw[zaf] at q;cases q;exact new
 .rw[zac hb] at q
  by_cases hbe:b=e
  .have q':H b=some (.own x):=by
    rcases he with z|z
    .exact absurd (hbe.trans z) hb
    .rw[hbe];exact z
   rw[q] at q';cases q';obtain⟨v,hv⟩:=heo;exact⟨v,by rw[hbe];exact hv⟩
  .refine(ok b u q).stay (λc v hc r=>k c v ?_ r) (λc r=>by rw[zac (nown c b r)];exact r) λc xs r=>by rw[zac (ntup c xs r)];exact r
   rcases hc with rfl|hc
   .exact hbe
   .rintro rfl;rcases he with z|z
    .exact nown c b hc z
    .rw[hc] at z;cases z;exact hb rfl
end
structure Un(fs ex:List Addr)(H H':Hp)(h h':Heap):Prop where
 keep:∀b o,h.get? b=some o->H b=none->b ∉ fs->b ∉ ex->h'.get? b=some o
 slot:∀b o,h.get? b=some o->H b=none->b∈fs->b ∉ ex->∃sl,h'.get? b=some { o with slots:=sl }
 free:∀b o,h.get? b=some o->H b=none->b ∉ ex->H' b=none
 there:∀b o,h.get? b=some o->b ∉ ex->∃o',h'.get? b=some o'
 tups:∀b xs,H b=some (.tup xs)->H' b=some (.tup xs)
 frzs:∀b o u,H b=some (.frz o u)->H' b=some (.frz o u)
 tbls:∀b ps,H b=some (.tbl ps)->∃more,H' b=some (.tbl (ps++more))
section
variable {fs fs' ex ex':List Addr}{H H1 H2:Hp}{h h1 h2 h':Heap}{a x e:Addr}{o:HO}
theorem Un.any(u:Un fs ex H H1 h h1)(q:h.get? b=some ob)(n:H b=none)(hx:b ∉ ex):∃sl,h1.get? b=some { ob with slots:=sl }:=by
 by_cases hb:b∈fs
 .exact u.slot b ob q n hb hx
 .exact⟨ob.slots,u.keep b ob q n hb hx⟩
theorem Un.kept(k:∀b u,h.get? b=some u->h'.get? b=some u):Un fs ex H H h h' :=
 ⟨λb ob q _ _ _=>k b ob q,λb ob q _ _ _=>⟨ob.slots,k b ob q⟩,λ_ _ _ n _=>n,λb ob q _=>⟨ob,k b ob q⟩,λ_ _ q=>q,λ_ _ _ q=>q,λ_ ps q=>⟨#[],by rw[q];simp⟩⟩
theorem Un.refl:Un fs ex H H h h:=Un.kept λ_ _ q=>q
theorem Un.laid(k:∀b u,h.get? b=some u->h'.get? b=some u)(hp:h.objs.size<=a)(hn:H a=none):Un fs ex H (upd H a o) h h' where
 keep:=λb u q _ _ _=>k b u q
 slot:=λb u q _ _ _=>⟨u.slots,k b u q⟩
 free:=λb u q n _=>by rw[zac (Q5 (Q2 (Qt q) hp))];exact n
 there:=λb u q _=>⟨u,k b u q⟩
 tups:=λb xs q=>by rw[zac (zch q hn)];exact q
 frzs:=λb u xs q=>by rw[zac (zch q hn)];exact q
 tbls:=λb ps q=>⟨#[],by rw[zac (zch q hn),q];simp⟩
theorem Un.write(mu:Mut (H x))(he:e=x\/H e=some (.own x))(k:∀b u,b≠e->h.get? b=some u->h'.get? b=some u)(heo:∃u,h'.get? e=some u):Un fs ex H (upd H x o) h h':=by
 have hx:∀b,H b=none->b≠x:=λb n z=>by subst z;rw[n] at mu;exact mu
 have hb:∀b,H b=none->b≠e:=λb n z=>by
  subst z;rcases he with r|r
  .exact hx b n r
  .rw[n] at r;cases r
 have hm:∀b u,H b=some u->¬Mut (some u)->b≠x:=λb u q nm z=>by subst z;rw[q] at mu;exact nm mu
 refine⟨λb u q n _ _=>k b u (hb b n) q,λb u q n _ _=>⟨u.slots,k b u (hb b n) q⟩,λb u q n _=>by rw[zac (hx b n)];exact n,λb u q _=>?_,
  λb xs q=>by rw[zac (hm b _ q λz=>z)];exact q,λb u xs q=>by rw[zac (hm b _ q λz=>z)];exact q,λb ps q=>⟨#[],by rw[zac (hm b _ q λz=>z),q];simp⟩⟩
 by_cases hbe:b=e
 .subst hbe;exact heo
 .exact⟨u,k b u hbe q⟩
end
def trk(h:Heap)(H:Hp):List Addr:=(QL h.objs.size).filter λa=>(H a).isSome
def hidT(h:Heap)(H:Hp):Heap:=PySem.W.hideAll h (trk h H)
theorem zql(h:Heap)(H:Hp):(hidT h H).objs.size=h.objs.size:=PySem.W.hideAll_size _ _
theorem zua(e:h.get? b=some o)(n:H b=none):(hidT h H).get? b=some o :=
 PySem.W.hideAll_get _ e λhm=>by
  have q:(H b).isSome=true:=(Jh.mp hm).2;rw[n] at q;simp at q
theorem zx8(e:(hidT h H).get? b=some o):h.get? b=some o/\H b=none:=by
 have e':h.get? b=some o:=PySem.W.of_hideAll (trk h H) e;refine⟨e',?_⟩
 cases q:H b with
 | none=>rfl
 | some x=>
   have hm:b∈trk h H:=Jh.mpr ⟨Z0.mpr (Qt e'),by simp[q]⟩;have z:(hidT h H).get? b=none:=PySem.W.hideAll_none (trk h H) hm;rw[z] at e;cases e
structure Mod(K:Qa)(mg:Str->Option VJ)(base:Heap):Prop where
 kin:K.In base
 glob:base.Ns mainGlobals mg
 blt:∃mb,base.Ns builtinsNs mb/\∀x:Str,x ≠ "__name__" -> mb x=VS x
 nolimit:base.NoLimit
structure Cx where
 prog:VO
 w:VR
 K:Qa
 mg:Str->Option VJ
 base:Heap
 A:VY
 N:List Str
 s₀:VN
 H₀:Hp
 env:Env
 outer:List Env
 stack:List Env
 ex:List Addr
 fn:Str->Bool
 calm:Bool
 pn:List (Addr×Obj)
 xe:VJ->VN->Prop
def frs(l:List Env):List Addr:=l.filterMap (·.frame)
abbrev Cx.fs(X:Cx):List Addr:=frs X.outer
def Vis(sc:Uo)(x:Str):Prop:=sc.names.lookup x=some .local\/sc.names.lookup x=some .cell\/sc.names.lookup x=some .free
def Loc(sc:Uo)(x:Str):Prop:=sc.names.lookup x=some .local\/sc.names.lookup x=some .cell
def Look(env:Env)(h:Heap)(m:Str->Option VJ)(x:Str)(u:VJ):Prop :=
 (env.kindOf x=some .local/\m x=some u)\/((env.kindOf x=some .cell\/env.kindOf x=some .free)/\∃c,env.cells.lookup x=some c/\h.IsCell c (some u))
structure Cx.Ok(X:Cx):Prop where
 mod:Mod X.K X.mg X.base
 kind:X.env.scope.kind = .function
 glob:X.env.globals=mainGlobals
 blt:X.env.builtins=builtinsNs
 above:X.s₀.heap.objs.size<=X.env.locals
 inj:∀x y c,X.env.cells.lookup x=some c->X.env.cells.lookup y=some c->x=y
 has:∀x,(X.env.kindOf x=some .cell\/X.env.kindOf x=some .free)->∃c,X.env.cells.lookup x=some c
 cab:∀x c,X.fn x=true->X.env.cells.lookup x=some c->X.s₀.heap.objs.size<=c
 hd:X.calm=true->X.A.handled=none
 frames:X.A.frames=some X.stack
 stk:X.stack=X.outer\/(X.stack=X.env::X.outer/\X.env.frame=some X.env.locals)
 exf:∀b∈X.ex,b≠X.env.locals/\∀x c,X.env.cells.lookup x=some c->c≠b
 bs:∀b o,X.base.get? b=some o->X.s₀.heap.get? b=some o/\X.H₀ b=none
 bsz:X.base.objs.size<=X.s₀.heap.objs.size
 noex:∀b o,X.base.get? b=some o->b ∉ X.ex
 exfs:∀b∈X.ex,b ∉ X.fs
 funs:X.s₀.heap.FunFrames X.base X.outer
 frf:∀b∈X.fs,X.H₀ b=none
structure Inv(X:Cx)(pins:List (Addr×Obj))(σ:List (Option V))(H:Hp)(s:VN):Prop where
 ok:X.Ok
 os:s.os=X.s₀.os
 bare:U4 s.gens
 base:Un X.fs X.ex X.H₀ H X.s₀.heap s.heap
 loc:∃m,s.heap.Ns X.env.locals m/\∀(i:Nat) (x:Str) (v:V),X.N[i]? = some x->σ[i]? = some (some v)->Vis X.env.scope x->∃u,RelV v u/\Look X.env s.heap m x u
 cell:∀x c,X.env.cells.lookup x=some c->∃v,s.heap.IsCell c v
 free:H X.env.locals=none
 freeC:∀x c,X.env.cells.lookup x=some c->H c=none
 pin:∀p∈X.pn++pins,s.heap.get? p.1=some p.2/\H p.1=none/\p.1≠X.env.locals/\p.1 ∉ X.fs/\∀v,p.2.data≠.cell v
 hok:HOk X.prog X.w H s.heap
 len:σ.length=X.N.length
section
variable {X:Cx}{pins:List (Addr×Obj)}{σ:List (Option V)}{H H':Hp}{s:VN}{h':Heap}
theorem Cx.Ok.nofr(ok:X.Ok)(e:X.base.get? b=some o):b ∉ X.fs:=λhb=>by
 have:=(ok.funs.mem hb).1;rw[e] at this;cases this
theorem Inv.bs(I:Inv X pins σ H s):∀b o,X.base.get? b=some o->s.heap.get? b=some o/\H b=none:=λb o e=>
 ⟨I.base.keep b o (I.ok.bs b o e).1 (I.ok.bs b o e).2 (I.ok.nofr e) (I.ok.noex b o e),I.base.free b o (I.ok.bs b o e).1 (I.ok.bs b o e).2 (I.ok.noex b o e)⟩
theorem Inv.bk(I:Inv X pins σ H s):∀b o,X.base.get? b=some o->s.heap.get? b=some o:=λb o e=>(I.bs b o e).1
theorem Inv.mod(I:Inv X pins σ H s):Mod X.K X.mg X.base:=I.ok.mod
theorem Inv.kIn(I:Inv X pins σ H s):X.K.In s.heap:=I.ok.mod.kin.keeps I.bk
theorem Inv.lt(I:Inv X pins σ H s):X.env.locals<s.heap.objs.size:=let ⟨_,hn,_⟩:=I.loc;hn.lt
theorem Inv.sz(I:Inv X pins σ H s):X.s₀.heap.objs.size<=s.heap.objs.size:=Q3 I.ok.above (Yn I.lt)
theorem Inv.nofs(I:Inv X pins σ H s)(h:s.heap.objs.size<=a):a ∉ X.fs:=λhb=>by
 obtain⟨_,o,ho,_⟩:=I.ok.funs.mem hb;exact absurd (Q2 (Qt ho) (Q3 I.sz h)) (QY _)
theorem Inv.cne(I:Inv X pins σ H s):∀x c,X.env.cells.lookup x=some c->c≠X.env.locals:=λx c e z=>by
 obtain⟨v,o,ho,hd⟩:=I.cell x c e;obtain⟨m,⟨o',es,ep,ho',hd',_⟩,_⟩:=I.loc;rw[z,ho'] at ho;cases ho;rw[hd'] at hd;cases hd
theorem Inv.funs(I:Inv X pins σ H s):s.heap.FunFrames X.base X.outer:=by
 have all:∀(l:List Env),(∀b∈frs l,b∈X.fs)->X.s₀.heap.FunFrames X.base l->s.heap.FunFrames X.base l:=by
  intro l
  induction l with
  | nil=>intro _ _;trivial
  | cons env r ih=>
    intro hs hl;obtain⟨hk,⟨L,o,hf,hn,ho,hd⟩,hr⟩:=hl;have hL:L∈X.fs:=hs L (by unfold frs;rw[ZE,hf];exact Qm);obtain⟨sl,e⟩:=I.base.slot L o ho (I.ok.frf L hL) hL λz=>I.ok.exfs L z hL;exact⟨hk,⟨L,_,hf,hn,e,hd⟩,ih (λb hb=>hs b (by unfold frs;rw[ZE,hf];exact Qc _ hb)) hr⟩
 exact all X.outer (λ_ hb=>hb) I.ok.funs
theorem Inv.stack(I:Inv X pins σ H s):s.heap.FunFrames X.base X.stack:=by
 rcases I.ok.stk with e|⟨e,hf⟩
 .rw[e];exact I.funs
 .rw[e];obtain⟨m,hn,_⟩:=I.loc;refine .cons (by rw[I.ok.kind];decide) hf hn ?_ I.funs;exact Heap.get?_none_of_le (Q3 I.ok.bsz I.ok.above)
theorem Inv.stkSub(I:Inv X pins σ H s):∀b∈frs X.stack,b∈X.env.locals::X.fs:=λb hb=>by
 rcases I.ok.stk with e|⟨e,hf⟩
 .rw[e] at hb;exact Qc _ hb
 .rw[e] at hb;unfold frs at hb;rw[ZE,hf] at hb;exact hb
theorem Inv.stkFree(I:Inv X pins σ H s):∀b∈frs X.stack,H b=none:=λb hb=>by
 rcases Q1.mp (I.stkSub b hb) with e|hb
 .rw[e];exact I.free
 .obtain⟨_,o,ho,_⟩:=I.ok.funs.mem hb;exact I.base.free b o ho (I.ok.frf b hb) λz=>I.ok.exfs b z hb
theorem Inv.step{g':Array GenState}{t':Nat}{d':Drawn}{ch:List Addr}(I:Inv X pins σ H s)
 (hch:∀b∈ch,(b∈X.ex\/X.s₀.heap.objs.size<=b)/\b≠X.env.locals/\(∀x c,X.env.cells.lookup x=some c->c≠b)/\∀p∈X.pn++pins,p.1≠b)
 (keep:∀b o,b≠X.env.locals->b ∉ X.fs->b ∉ ch->s.heap.get? b=some o->H b=none->h'.get? b=some o)
 (slot:∀b o,b≠X.env.locals->b∈X.fs->b ∉ ch->s.heap.get? b=some o->H b=none->∃sl,h'.get? b=some { o with slots:=sl }) (free:∀b o,b ∉ ch->s.heap.get? b=some o->H b=none->H' b=none)
 (there:∀b o,b ∉ ch->s.heap.get? b=some o->∃o',h'.get? b=some o')
 (tups:∀b xs,H b=some (.tup xs)->H' b=some (.tup xs)) (frzs:∀b o u,H b=some (.frz o u)->H' b=some (.frz o u)) (tbls:∀b ps,H b=some (.tbl ps)->∃more,H' b=some (.tbl (ps++more)))
 (ns:∀m,s.heap.Ns X.env.locals m->h'.Ns X.env.locals m) (hok:HOk X.prog X.w H' h') (hg:U4 g') :
 Inv X pins σ H' { s with heap:=h',gens:=g',drawn:=d',toks:=t' }:=by
 have neL:∀b o,X.s₀.heap.get? b=some o->b≠X.env.locals:=λb o e=>Q5 (Q2 (Qt e) I.ok.above)
 have neC:∀b o,X.s₀.heap.get? b=some o->b ∉ X.ex->b ∉ ch:=λb o e hx hb=>by
  rcases(hch b hb).1 with z|z
  .exact hx z
  .exact absurd (Q2 (Qt e) z) (QY _)
 have cellK:∀x c,X.env.cells.lookup x=some c->∀v,s.heap.IsCell c v->h'.IsCell c v:=λx c e v ⟨o,ho,hd⟩=>by
  have nch:c ∉ ch:=λz=>(hch c z).2.2.1 x c e rfl
  by_cases hc:c∈X.fs
  .obtain⟨sl,q⟩:=slot c o (I.cne x c e) hc nch ho (I.freeC x c e);exact⟨_,q,hd⟩
  .exact⟨o,keep c o (I.cne x c e) hc nch ho (I.freeC x c e),hd⟩
 refine⟨I.ok,I.os,hg,⟨λb o e n hb hx=>?_,λb o e n hb hx=>?_,λb o e n hx=>?_,λb o e hx=>?_,λb xs e=>tups b xs (I.base.tups b xs e),λb o xs e=>frzs b o xs (I.base.frzs b o xs e),λb ps e=>?_⟩,?_,λx c e=>?_,?_,λx c e=>?_,λp hp=>?_,hok,I.len⟩
 .exact keep b o (neL b o e) hb (neC b o e hx) (I.base.keep b o e n hb hx) (I.base.free b o e n hx)
 .obtain⟨sl,e1⟩:=I.base.slot b o e n hb hx;obtain⟨sl',e2⟩:=slot b _ (neL b o e) hb (neC b o e hx) e1 (I.base.free b o e n hx);exact⟨sl',e2⟩
 .obtain⟨o',e1⟩:=I.base.there b o e hx;exact free b o' (neC b o e hx) e1 (I.base.free b o e n hx)
 .obtain⟨o',e1⟩:=I.base.there b o e hx;exact there b o' (neC b o e hx) e1
 .obtain⟨m1,e1⟩:=I.base.tbls b ps e;obtain⟨m2,e2⟩:=tbls b _ e1;exact⟨m1++m2,by rw[e2,Array.append_assoc]⟩
 .obtain⟨m,hn,hl⟩:=I.loc;refine⟨m,ns m hn,λi x v e1 e2 e3=>?_⟩;obtain⟨u,r,l⟩:=hl i x v e1 e2 e3;refine⟨u,r,?_⟩;rcases l with l|⟨k,c,e,z⟩
  .exact .inl l
  .exact .inr ⟨k,c,e,cellK x c e _ z⟩
 .obtain⟨v,z⟩:=I.cell x c e;exact⟨v,cellK x c e v z⟩
 .obtain⟨m,⟨o,_,_,ho,_⟩,_⟩:=I.loc;exact free _ o (λz=>(hch _ z).2.1 rfl) ho I.free
 .obtain⟨v,o,ho,hd⟩:=I.cell x c e;exact free c o (λz=>(hch c z).2.2.1 x c e rfl) ho (I.freeC x c e)
 .obtain⟨e,n,ne,nf,d⟩:=I.pin p hp;have nch:p.1 ∉ ch:=λz=>(hch p.1 z).2.2.2 p hp rfl;exact⟨keep p.1 p.2 ne nf nch e n,free p.1 p.2 nch e n,ne,nf,d⟩
theorem Inv.un{t':Nat}(I:Inv X pins σ H s)(u:Un X.fs [] H H' s.heap h')(hok:HOk X.prog X.w H' h'):Inv X pins σ H' { s with heap:=h',toks:=t' }:=by
 obtain⟨m,⟨o,es,ep,ho,r⟩,_⟩:=id I.loc;obtain⟨sl,hL⟩:=u.any ho I.free (by simp)
 exact I.step (g':=s.gens) (d':=s.drawn) (ch:=[]) (λ_ z=>nomatch z) (λb o _ hb _ e n=>u.keep b o e n hb (by simp)) (λb o _ hb _ e n=>u.slot b o e n hb (by simp)) (λb o _ e n=>u.free b o e n (by simp)) (λb o _ e=>u.there b o e (by simp)) u.tups u.frzs u.tbls (λm' hm=>by
  obtain⟨o',es',ep',ho',r'⟩:=hm;rw[ho] at ho';cases ho'
  exact⟨_,es',ep',hL,r'⟩) hok I.bare
theorem Inv.call{t':Nat}(I:Inv X pins σ H s)(u:Un (frs X.stack) ch H H' s.heap h')(hok:HOk X.prog X.w H' h')(hg:U4 g')
 (hch:∀b∈ch,(b∈X.ex\/X.s₀.heap.objs.size<=b)/\b≠X.env.locals/\(∀x c,X.env.cells.lookup x=some c->c≠b)/\∀p∈X.pn++pins,p.1≠b) :
 Inv X pins σ H' { s with heap:=h',gens:=g',drawn:=d',toks:=t' }:=by
 obtain⟨m,⟨o,es,ep,ho,r⟩,_⟩:=id I.loc;obtain⟨sl,hL⟩:=u.any ho I.free λz=>(hch _ z).2.1 rfl
 exact I.step (ch:=ch) hch (λb o hL hb hc e n=>u.keep b o e n (λz=>(Q1.mp (I.stkSub b z)).elim hL hb) hc) (λb o _ _ hc e n=>u.any e n hc) (λb o hc e n=>u.free b o e n hc) (λb o hc e=>u.there b o e hc) u.tups u.frzs u.tbls (λm' hm=>by
  obtain⟨o',es',ep',ho',r'⟩:=hm;rw[ho] at ho';cases ho'
  exact⟨_,es',ep',hL,r'⟩) hok hg
theorem Inv.turned{t':Nat}(I:Inv X pins σ H s)(k:∀b o,b≠it->s.heap.get? b=some o->h'.get? b=some o)(hn:H it=none)(hL:it≠X.env.locals)
 (h1:it∈X.ex\/X.s₀.heap.objs.size<=it) (h2:∀x c,X.env.cells.lookup x=some c->c≠it) (h3:∀p∈X.pn++pins,p.1≠it):Inv X pins σ H { s with heap:=h',toks:=t' }:=by
 have nit:∀b u,H b=some u->b≠it:=λb u e z=>by rw[z,hn] at e;cases e
 refine I.step (g':=s.gens) (d':=s.drawn) (ch:=[it]) (λb hb=>?_) (λb o _ _ hc e _=>k b o (λz=>hc (by simp[z])) e) (λb o _ _ hc e _=>⟨o.slots,k b o (λz=>hc (by simp[z])) e⟩) (λ_ _ _ _ n=>n)
  (λb o hc e=>⟨o,k b o (λz=>hc (by simp[z])) e⟩) (λ_ _ e=>e) (λ_ _ _ e=>e) (λb ps e=>⟨#[],by rw[e];simp⟩) (λm hm=>?_) (λb u e=>?_) I.bare
 .have e:b=it:=by simpa using hb
  subst e;exact⟨h1,hL,h2,h3⟩
 .obtain⟨o,es,ep,ho,r⟩:=hm;exact⟨o,es,ep,k _ o (Zt hL) ho,r⟩
 .refine(I.hok b u e).stay (λc v hc q=>k c v ?_ q) (λ_ q=>q) λ_ _ q=>q;rcases hc with z|z
  .rw[z];exact nit b u e
  .exact nit c _ z
theorem Inv.tok(I:Inv X pins σ H s)(t:Nat):Inv X pins σ H { s with toks:=t }:=I.un (h':=s.heap) (t':=t) Un.refl I.hok
theorem Inv.kept{t':Nat}(I:Inv X pins σ H s)(k:∀b u,s.heap.get? b=some u->h'.get? b=some u):Inv X pins σ H { s with heap:=h',toks:=t' }:=I.un (Un.kept k) (I.hok.kept k)
theorem Inv.laid{t':Nat}(I:Inv X pins σ H s)(k:∀b u,s.heap.get? b=some u->h'.get? b=some u)(hp:s.heap.objs.size<=a)(new:ObjOk X.prog X.w (upd H a o) h' a o):
 Inv X pins σ (upd H a o) { s with heap:=h',toks:=t' }:=I.un (Un.laid k hp (I.hok.fresh hp)) (I.hok.laid k hp new)
theorem Inv.write{t':Nat}(I:Inv X pins σ H s)(mu:Mut (H x))(he:e=x\/H e=some (.own x))(k:∀b u,b≠e->s.heap.get? b=some u->h'.get? b=some u)(heo:∃u,h'.get? e=some u)
 (new:ObjOk X.prog X.w (upd H x o) h' x o):Inv X pins σ (upd H x o) { s with heap:=h',toks:=t' }:=I.un (Un.write mu he k heo) (I.hok.write mu he k heo new)
theorem Inv.weak(I:Inv X pins σ H s)(hl:σ'.length=σ.length)(w:∀(i:Nat) v,σ'[i]? = some (some v)->σ[i]? = some (some v)):Inv X pins σ' H s :=
 ⟨I.ok,I.os,I.bare,I.base,let ⟨m,hn,hl'⟩:=I.loc;⟨m,hn,λi x v e1 e2 e3=>hl' i x v e1 (w i v e2) e3⟩,I.cell,I.free,I.freeC,I.pin,I.hok,hl.trans I.len⟩
theorem Inv.pins_of{pins':List (Addr×Obj)}(I:Inv X pins σ H s)(h:∀p∈pins',s.heap.get? p.1=some p.2/\H p.1=none/\p.1≠X.env.locals/\p.1 ∉ X.fs/\∀v,p.2.data≠.cell v):Inv X pins' σ H s :=
 ⟨I.ok,I.os,I.bare,I.base,I.loc,I.cell,I.free,I.freeC,λp hp=>(Q9.mp hp).elim (λz=>I.pin p (ZU _ z)) (h p),I.hok,I.len⟩
theorem zmh{N:List Str}(hN:N.Nodup){i j:Nat}{x:Str}(a:N[i]? = some x)(b:N[j]? = some x):i=j:=by
 obtain⟨h1,e1⟩:=Qx.mp a;obtain⟨h2,e2⟩:=Qx.mp b;exact(List.getElem_inj hN).mp (e1.trans e2.symm)
theorem zj8{i:Nat}(I:Inv X pins σ H s)(hN:X.N.Nodup)(hi:X.N[i]? = some x)(hx:Loc X.env.scope x)(r:RelV v u)
 (h:∀s',Inv X pins (σ.set i (some v)) H s'->(∃a,Zo a s.heap s'.heap/\(a=X.env.locals\/X.env.cells.lookup x=some a))->Q () s') (hf:X.fn x=true\/X.env.scope.names.lookup x=some .local:=by first|exact .inl rfl|exact .inr rfl|assumption):wpAny M A (storeName X.env x u) Q E s:=by
 obtain⟨m,hn,hl⟩:=id I.loc;have hcls:(X.env.scope.kind == .class || (X.env.scope.kind == .module && X.env.locals != X.env.globals))=false:=by rw[I.ok.kind];rfl
 have hiσ:i<σ.length:=by rw[I.len];exact(Qx.mp hi).1
 have cne:=I.cne
 have tracked:∀{a:Addr} {h':Heap},(∃o,s.heap.get? a=some o/\H a=none)->Zo a s.heap h'->HOk X.prog X.w H h':=λ{a h'} ha hs b ob e=>by
  obtain⟨_,_,hfree⟩:=ha;refine(I.hok b ob e).stay (λc w' hc q=>(hs.2 c ?_).trans q) (λ_ q=>q) λ_ _ q=>q;rintro rfl;rcases hc with rfl|hc
  .rw[hfree] at e;cases e
  .rw[hfree] at hc;cases hc
 rcases hx with hk|hk
 .refine wpAny_storeName_local hk hn (λh' hn' hs=>?_) hcls;obtain⟨oL,_,_,hoL,_⟩:=id hn;refine h _ ⟨I.ok,I.os,I.bare,⟨λb o e n hb hx=>?_,λb o e n hb hx=>?_,I.base.free,λb o e hx=>?_,I.base.tups,I.base.frzs,I.base.tbls⟩,⟨_,hn',λj y v' e1 e2 e3=>?_⟩,λy c e=>?_,I.free,I.freeC,λp hp=>?_,tracked ⟨oL,hoL,I.free⟩ hs,by simpa using I.len⟩ ⟨_,hs,.inl rfl⟩
  .exact(hs.2 b (Q5 (Q2 (Qt e) I.ok.above))).trans (I.base.keep b o e n hb hx)
  .obtain⟨sl,e1⟩:=I.base.slot b o e n hb hx;exact⟨sl,(hs.2 b (Q5 (Q2 (Qt e) I.ok.above))).trans e1⟩
  .obtain⟨o',e1⟩:=I.base.there b o e hx;exact⟨o',(hs.2 b (Q5 (Q2 (Qt e) I.ok.above))).trans e1⟩
  .by_cases hj:j=i
   .subst hj;rw[hi] at e1;cases e1;rw[Q0 hiσ] at e2;cases e2;exact⟨u,r,.inl ⟨hk,by simp⟩⟩
   .rw[Q4 (Zt hj)] at e2;obtain⟨u',r',q⟩:=hl j y v' e1 e2 e3;refine⟨u',r',?_⟩;rcases q with ⟨k,e⟩|⟨k,c,e,z⟩
    .refine .inl ⟨k,?_⟩;have:y≠x:=λe=>hj (zmh hN e1 (e ▸ hi));simp[this,e]
    .exact .inr ⟨k,c,e,z.sameBut hs (cne y c e)⟩
  .obtain⟨w',z⟩:=I.cell y c e;exact⟨w',z.sameBut hs (cne y c e)⟩
  .obtain⟨e,n,ne,nf,d⟩:=I.pin p hp;exact⟨(hs.2 p.1 ne).trans e,n,ne,nf,d⟩
 .have hfn:X.fn x=true:=by
   rcases hf with z|z
   .exact z
   .rw[z] at hk;cases hk
  obtain⟨c,hc⟩:=I.ok.has x (.inl hk);obtain⟨w',z⟩:=I.cell x c hc;refine wpAny_storeName_cell I.ok.kind hk hc z (λh' hc' hs=>?_);obtain⟨oc,hoc,hocd⟩:=id z;refine h { s with heap:=h' } ⟨I.ok,I.os,I.bare,⟨λb o e n hb hx=>?_,λb o e n hb hx=>?_,I.base.free,λb o e hx=>?_,I.base.tups,I.base.frzs,I.base.tbls⟩,⟨m,hn.sameBut hs (Zt (cne x c hc)),λj y v' e1 e2 e3=>?_⟩,λy c' e=>?_,I.free,I.freeC,λp hp=>?_,tracked ⟨oc,hoc,I.freeC x c hc⟩ hs,by simpa using I.len⟩ ⟨c,hs,.inr hc⟩
  .exact(hs.2 b (Q5 (Q2 (Qt e) (I.ok.cab x c hfn hc)))).trans (I.base.keep b o e n hb hx)
  .obtain⟨sl,e1⟩:=I.base.slot b o e n hb hx;exact⟨sl,(hs.2 b (Q5 (Q2 (Qt e) (I.ok.cab x c hfn hc)))).trans e1⟩
  .obtain⟨o',e1⟩:=I.base.there b o e hx;exact⟨o',(hs.2 b (Q5 (Q2 (Qt e) (I.ok.cab x c hfn hc)))).trans e1⟩
  .by_cases hj:j=i
   .subst hj;rw[hi] at e1;cases e1;rw[Q0 hiσ] at e2;cases e2;exact⟨u,r,.inr ⟨.inl hk,c,hc,hc'⟩⟩
   .rw[Q4 (Zt hj)] at e2;obtain⟨u',r',q⟩:=hl j y v' e1 e2 e3;refine⟨u',r',?_⟩;rcases q with q|⟨k,c',e,z'⟩
    .exact .inl q
    .refine .inr ⟨k,c',e,z'.sameBut hs ?_⟩;rintro rfl;exact hj (zmh hN e1 (I.ok.inj _ _ _ e hc ▸ hi))
  .by_cases hcc:c'=c
   .subst hcc;exact⟨_,hc'⟩
   .obtain⟨w2,z2⟩:=I.cell y c' e;exact⟨w2,z2.sameBut hs hcc⟩
  .obtain⟨e,n,ne,nf,d⟩:=I.pin p hp;refine⟨(hs.2 p.1 ?_).trans e,n,ne,nf,d⟩;intro q;rw[q,hoc] at e;have q':oc=p.2:=QM e;exact d w' (by rw[<- q'];exact hocd)
theorem zhs{i:Nat}(I:Inv X pins σ H s)(hN:X.N.Nodup)(hi:X.N[i]? = some x)(hx:Loc X.env.scope x)(r:RelV v u)
 (h:∀s',Inv X pins (σ.set i (some v)) H s'->Q () s') (hf:X.fn x=true\/X.env.scope.names.lookup x=some .local:=by first|exact .inl rfl|exact .inr rfl|assumption):wpAny M A (storeName X.env x u) Q E s :=
 zj8 I hN hi hx r (λs' I' _=>h s' I') hf
theorem Inv.call'(I:Inv X pins σ H s)(ho:s'.os=s.os)(u:Un (frs X.stack) ch H H' s.heap s'.heap)(hok:HOk X.prog X.w H' s'.heap)(hg:U4 s'.gens)
 (hch:∀b∈ch,(b∈X.ex\/X.s₀.heap.objs.size<=b)/\b≠X.env.locals/\(∀x c,X.env.cells.lookup x=some c->c≠b)/\∀p∈X.pn++pins,p.1≠b):Inv X pins σ H' s':=by
 obtain⟨h',g',d',t',o'⟩:=s';have e:o'=s.os:=ho;subst e;exact I.call (g':=g') (t':=t') (d':=d') u hok hg hch
end
abbrev XK:=VJ->Option Addr->Hp->Prop
abbrev St:=List (Option V)
abbrev VK:=V->Hp->Prop
abbrev TE:=St->Hp->VK->Prop
abbrev TT:=St->Hp->(Bool->Hp->Prop)->Prop
abbrev TA:=St->Hp->(List V->Hp->Prop)->Prop
structure Ends where
 nx:St->Hp->Prop
 rt:VK
 bk:St->Hp->Prop:=λ_ _=>False
 ct:St->Hp->Prop:=λ_ _=>False
abbrev TS:=Ends->St->Hp->Prop
def EP(X:Cx)(pins:List (Addr×Obj))(σ:St)(Q:VK)(u:VJ)(s':VN):Prop:=∃v H',Inv X pins σ H' s'/\RelV v u/\Q v H'
def TP(X:Cx)(pins:List (Addr×Obj))(σ:St)(Q:Bool->Hp->Prop)(b:Bool)(s':VN):Prop:=∃H',Inv X pins σ H' s'/\Q b H'
def AP(X:Cx)(pins:List (Addr×Obj))(σ:St)(Q:List V->Hp->Prop)(us:List VJ)(s':VN):Prop:=∃vs H',Inv X pins σ H' s'/\Vals vs us/\Q vs H'
def SP(X:Cx)(pins:List (Addr×Obj))(D:Ends)(f:Flow)(s':VN):Prop :=
 match f with
 | .next=>∃σ' H',Inv X pins σ' H' s'/\D.nx σ' H'
 | .brk=>∃σ' H',Inv X pins σ' H' s'/\D.bk σ' H'
 | .cont=>∃σ' H',Inv X pins σ' H' s'/\D.ct σ' H'
 | .ret u=>∃v σ' H',Inv X pins σ' H' s'/\RelV v u/\D.rt v H'
def PE(X:Cx)(e:Expr)(t:TE):Prop :=
 ∀(pins:List (Addr×Obj)) (s:VN) (σ:St) (H:Hp) (Q:VK),Inv X pins σ H s->t σ H Q->wpAny (model X.prog X.w) X.A (eval e X.env) (EP X pins σ Q) X.xe s
def PT(X:Cx)(e:Expr)(t:TT):Prop :=
 ∀(pins:List (Addr×Obj)) (s:VN) (σ:St) (H:Hp) (Q:Bool->Hp->Prop),Inv X pins σ H s->t σ H Q->wpAny (model X.prog X.w) X.A (isTrue e X.env (eval e X.env)) (TP X pins σ Q) X.xe s
def PW(X:Cx)(e:Expr)(t:TT):Prop :=
 ∀(whole:Sem VJ) (pins:List (Addr×Obj)) (s:VN) (σ:St) (H:Hp) (Q:Bool->Hp->Prop),Inv X pins σ H s->t σ H Q->wpAny (model X.prog X.w) X.A (isTrue e X.env whole) (TP X pins σ Q) X.xe s
theorem PW.pt{t:TT}(h:PW X e t):PT X e t:=h _
def PA(X:Cx)(es:List Expr)(t:TA):Prop :=
 ∀(pos:Pos) (pins:List (Addr×Obj)) (s:VN) (σ:St) (H:Hp) (Q:List V->Hp->Prop),Inv X pins σ H s->t σ H Q->wpAny (model X.prog X.w) X.A (UW (Ui pos (VM es X.env))) (AP X pins σ Q) X.xe s
def PS(X:Cx)(st:Stmt)(t:TS):Prop :=
 ∀(pins:List (Addr×Obj)) (s:VN) (σ:St) (H:Hp) (D:Ends),Inv X pins σ H s->t D σ H->wpAny (model X.prog X.w) X.A (exec st X.env) (SP X pins D) X.xe s
def PSs(X:Cx)(st:List Stmt)(t:TS):Prop :=
 ∀(pins:List (Addr×Obj)) (s:VN) (σ:St) (H:Hp) (D:Ends),Inv X pins σ H s->t D σ H->wpAny (model X.prog X.w) X.A (execs st X.env) (SP X pins D) X.xe s
theorem thn{α:Type}{t:Sem α}{Q Q':α->VN->Prop}(h:wpAny M A t Q E s)(hQ:∀a s,Q a s->Q' a s):wpAny M A t Q' E s:=Uk h hQ λ_ _ x=>x
section
variable {X:Cx}
def tVar(i:Nat):TE:=λσ H Q=>∃v,σ[i]? = some (some v)/\Q v H
def tC(v:V):TE:=λ_ H Q=>Q v H
theorem zai{i:Nat}(hN:X.N[i]? = some x)(hv:Vis X.env.scope x)(hd:(x == ("__debug__" : Str))=false:=by decide)(hcd:(x == ("__classdict__" : Str))=false:=by decide):PE X (.Name x pos) (tVar i):=by
 intro pins s σ H Q I h;obtain⟨v,e,h⟩:=h;obtain⟨m,hn,hl⟩:=I.loc;obtain⟨u,r,l⟩:=hl i x v hN e hv;have fin:EP X pins σ Q u s:=⟨v,H,I,r,h⟩;rcases l with ⟨hk,hm⟩|⟨hk,c,hc,hcell⟩
 .exact wpAny_Name (UL I.ok.kind hk hn hm fin) hd
 .rcases hk with hk|hk
  .exact wpAny_Name (wpAny_loadName_cell I.ok.kind hk hc hcell fin) hd
  .exact wpAny_Name (wpAny_loadName_free I.ok.kind hk hc hcell fin hcd) hd
theorem za0{i j pos}:PE X (.Constant (.int i) j pos) (tC (.int i)):=λ_ _ _ H _ I h=>wpAny_Constant_int ⟨.int i,H,I.tok _,⟨_,rfl⟩,h⟩
theorem z1n{b j pos}:PE X (.Constant (.bool b) j pos) (tC (.bl b)):=λ_ _ _ H _ I h=>Constant_bool ⟨.bl b,H,I,rfl,h⟩
theorem zzq{j pos}:PE X (.Constant .none j pos) (tC .non):=λ_ _ _ H _ I h=>Constant_none ⟨.non,H,I,rfl,h⟩
theorem zbt{x j pos}:PE X (.Constant (.str x) j pos) (tC (.str x)):=λ_ _ _ H _ I h=>Calls.Constant_str ⟨.str x,H,I.tok _,⟨_,rfl⟩,h⟩
def Gl(X:Cx)(x:Str):Prop:=X.env.kindOf x=some .globalImplicit
theorem zwt{pins:List (Addr×Obj)}(I:Inv X pins σ H s)(hg:Gl X x)(hm:X.mg x=some u)(h:Q u s)
 (hd:(x == ("__debug__" : Str))=false:=by decide):wpAny (model X.prog X.w) X.A (eval (.Name x pos) X.env) Q E s :=
 JO I.ok.kind hg (Calls.loadGlobal_global (by rw[I.ok.glob];exact I.mod.glob.keeps I.bk) hm h) hd
theorem zcn{pins:List (Addr×Obj)}(I:Inv X pins σ H s)(hg:Gl X x)(hm:X.mg x=none)(hv:VS x=some u)(h:Q u s)
 (hn:x ≠ "__name__" := by decide) (hd:(x == ("__debug__" : Str))=false:=by decide):wpAny (model X.prog X.w) X.A (eval (.Name x pos) X.env) Q E s:=by
 obtain⟨mb,h1,h2⟩:=I.mod.blt;exact JO I.ok.kind hg (Calls.loadGlobal_builtin (by rw[I.ok.glob];exact I.mod.glob.keeps I.bk) hm (by rw[I.ok.blt];exact h1.keeps I.bk) ((h2 x hn).trans hv) h) hd
variable {a b:Expr}{ta tb:TE}{pos:Pos}
def PC(X:Cx)(op:CmpOp)(a b:Expr)(t:TE):Prop :=
 ∀(pins:List (Addr×Obj)) (s:VN) (σ:St) (H:Hp) (Q:VK),Inv X pins σ H s->t σ H Q ->
   wpAny (model X.prog X.w) X.A (eval a X.env) (λv s₁=>wpAny (model X.prog X.w) X.A (eval b X.env) (λu s₂=>wpAny (model X.prog X.w) X.A (Ub op v u) (EP X pins σ Q) X.xe s₂) X.xe s₁) X.xe s
def tB(t:TE):TT:=λσ H Q=>t σ H λx H1=>∃c,x = .bl c/\Q c H1
theorem zzr{t:TE}(h:PC X op a b t)(h1:VU op b=false:=by first|exact nobehind _ (by decide) (by decide)|rfl):PE X (.Compare a [op] [b] pos) t:=λpins s σ H Q I hw=>wpAny_Compare1 (h pins s σ H Q I hw) h1
theorem zh4{t:TE}(h:PC X op a b t)(h1:VU op b=false:=by first|exact nobehind _ (by decide) (by decide)|rfl):PT X (.Compare a [op] [b] pos) (tB t):=by
 intro pins s σ H Q I hw;refine UH (thn (h pins s σ H _ I hw) λv s1 h1=>thn h1 λu s2 h2=>thn h2 λc s3 zz=>?_) h1;obtain⟨x,H1,I1,r1,q1⟩:=zz;obtain⟨d,rfl,q⟩:=q1;cases r1;exact Uh ⟨H1,I1,q⟩
theorem zsi{t:TE}(h:PE X e t)(he:∀whole,isTrue e X.env whole=(do let v <- whole;standAt e.pos;holding [v] (truthy v)):=by intro _;rfl):PT X e (tB t):=by
 intro pins s σ H Q I hw;refine isTrue_plain (thn (h pins s σ H _ I hw) λv s1 zz=>?_) (he _);obtain⟨x,H1,I1,r1,q1⟩:=zz;obtain⟨d,rfl,q⟩:=q1;cases r1;exact Uh ⟨H1,I1,q⟩
variable {tA tB':TT}{rest:List Expr}
def tAnd(t u:TT):TT:=λσ H Q=>t σ H λc H1=>if c=true then u σ H1 Q else Q false H1
def tOr(t u:TT):TT:=λσ H Q=>t σ H λc H1=>if c=true then Q true H1 else u σ H1 Q
def tNot(t:TT):TT:=λσ H Q=>t σ H λc H1=>Q (!c) H1
theorem znk(ha:PT X a tA):PW X (.BoolOp .And [a] pos) tA:=by
 intro wh pins s σ H Q I h;refine isTrue_and (thn (ha pins s σ H Q I h) λc s1 e=>?_)
 cases c with
 | true=>exact isTrue_and_nil e
 | false=>exact e
theorem z0k(ha:PT X a tA):PW X (.BoolOp .Or [a] pos) tA:=by
 intro wh pins s σ H Q I h;refine isTrue_or (thn (ha pins s σ H Q I h) λc s1 e=>?_)
 cases c with
 | false=>exact isTrue_or_nil e
 | true=>exact e
theorem zq0(ha:PT X a tA)(hb:PW X (.BoolOp .And (b::rest) pos) tB'):PW X (.BoolOp .And (a::b::rest) pos) (tAnd tA tB'):=by
 intro wh pins s σ H Q I h;refine isTrue_and (thn (ha pins s σ H _ I h) λc s1 zz=>?_);obtain⟨H1,I1,q1⟩:=zz
 cases c with
 | true=>exact hb wh pins s1 σ H1 Q I1 q1
 | false=>exact⟨H1,I1,q1⟩
theorem z1a(ha:PT X a tA)(hb:PW X (.BoolOp .Or (b::rest) pos) tB'):PW X (.BoolOp .Or (a::b::rest) pos) (tOr tA tB'):=by
 intro wh pins s σ H Q I h;refine isTrue_or (thn (ha pins s σ H _ I h) λc s1 zz=>?_);obtain⟨H1,I1,q1⟩:=zz
 cases c with
 | true=>exact⟨H1,I1,q1⟩
 | false=>exact hb wh pins s1 σ H1 Q I1 q1
theorem zzm(ha:PT X a tA):PT X (.UnaryOp .Not a pos) (tNot tA):=by
 intro pins s σ H Q I h;exact isTrue_not (ha pins s σ H (λc H1=>Q (!c) H1) I h)
def zv0(ta tb:TE):TE:=λσ H Q=>ta σ H λx H1=>∃c,x = .bl c/\if c=true then tb σ H1 Q else Q (.bl false) H1
def zvj(ta:TE):TE:=λσ H Q=>ta σ H λx H1=>∃c,x = .bl c/\Q (.bl (!c)) H1
theorem zys{op}{t:TE}(h:PE X a t):PE X (.BoolOp op [a] pos) t:=λpins s σ H Q I hw=>BoolOp_one (h pins s σ H Q I hw)
theorem zy7(ha:PE X a ta)(hb:PE X (.BoolOp .And (b::rest) pos) tb):PE X (.BoolOp .And (a::b::rest) pos) (zv0 ta tb):=by
 intro pins s σ H Q I h;refine BoolOp_and (thn (ha pins s σ H _ I h) λv s1 zz=>?_);obtain⟨x,H1,I1,r1,q1⟩:=zz;obtain⟨c,rfl,q1⟩:=q1;cases r1;refine Uh ?_
 cases c with
 | true=>exact hb pins s1 σ H1 Q I1 q1
 | false=>exact⟨.bl false,H1,I1,rfl,q1⟩
theorem zyp(ha:PE X a ta):PE X (.UnaryOp .Not a pos) (zvj ta):=by
 intro pins s σ H Q I h;refine UnaryOp_ (thn (ha pins s σ H _ I h) λv s1 zz=>?_);obtain⟨x,H1,I1,r1,q1⟩:=zz;obtain⟨c,rfl,q1⟩:=q1;cases r1;exact not_of (Uh ⟨.bl (!c),H1,I1,rfl,q1⟩)
def tIf(t:TT)(ta tb:TE):TE:=λσ H Q=>t σ H λc H1=>if c=true then ta σ H1 Q else tb σ H1 Q
theorem zlq(hc:PT X c tA)(ha:PE X a ta)(hb:PE X b tb):PE X (.IfExp c a b pos) (tIf tA ta tb):=by
 intro pins s σ H Q I h;refine wpAny_IfExp (thn (hc pins s σ H _ I h) λd s1 zz=>?_);obtain⟨H1,I1,q1⟩:=zz
 cases d with
 | true=>exact ha pins s1 σ H1 Q I1 q1
 | false=>exact hb pins s1 σ H1 Q I1 q1
end
def SqL(K:Qa)(H:Hp)(a:Addr)(xs:List V):Prop :=
 Rd H a (.lst xs) \/
  ∃(o:Obj) (its:Array VJ) (n:Nat),K.lookup a=some o/\o.cls = .type "list" /\ o.dict=none/\o.data = .seq its n/\its.size<=sizeLine/\Vals xs its.toList
def SqT(K:Qa)(H:Hp)(a:Addr)(xs:List V):Prop :=
 Rd H a (.tup xs) \/
  ∃(o:Obj) (its:Array VJ) (n:Nat),K.lookup a=some o/\o.cls = .type "tuple" /\ o.data = .seq its n/\its.size<=sizeLine/\Vals xs its.toList
def absV:VJ->Option V
 | .none=>some .non
 | .bool b=>some (.bl b)
 | .int i _=>some (.int i)
 | .str x _=>some (.str x)
 | .bytes b _=>some (.byt b)
 | .float b _=>some (.flt b)
 | .ref a=>some (.ref a)
 | .type n=>some (.ty n)
 | _=>none
theorem RelV.abs(r:RelV x u):absV u=some x:=by
 cases x with
 | non=>cases r;rfl
 | bl _=>cases r;rfl
 | int _=>obtain⟨t,rfl⟩:=r;rfl
 | str _=>obtain⟨t,rfl⟩:=r;rfl
 | byt _=>obtain⟨t,rfl⟩:=r;rfl
 | flt _=>obtain⟨t,rfl⟩:=r;rfl
 | ref _=>cases r;rfl
 | ty _=>cases r;rfl
theorem RelV.inj(r:RelV x u)(q:RelV y u):x=y:=QM (r.abs.symm.trans q.abs)
theorem Vals.inj:∀{xs ys:List V} {us:List VJ},Vals xs us->Vals ys us->xs=ys
 | _,_,_,.nil,.nil=>rfl
 | _,_,_,.cons r t,.cons r' t'=>by rw[r.inj r',Vals.inj t t']
section
variable {X:Cx}{pins:List (Addr×Obj)}{σ:St}{H:Hp}{s:VN}{a:Addr}{xs ys:List V}
theorem SqL.of{K:Qa}(h:H a=some (.lst xs)):SqL K H a xs:=.inl (.inl h)
theorem SqT.of{K:Qa}(h:H a=some (.tup xs)):SqT K H a xs:=.inl (.inl h)
theorem Inv.list(I:Inv X pins σ H s)(h:SqL X.K H a xs):∃its:List VJ,Vals xs its/\PlainL s.heap a its.toArray/\xs.length<=sizeLine:=by
 rcases h with h|⟨o,its,n,hk,hc,hd,hs,hz,r⟩
 .obtain⟨z,its,n,r,e⟩:=h.ok I.hok;exact⟨its,r,⟨_,n,e,rfl,rfl,rfl⟩,z⟩
 .refine⟨its.toList,r,⟨o,n,I.kIn a o hk,hc,hd,by simpa using hs⟩,?_⟩;have e:=r.length;simp only[JI] at e;lia
theorem Inv.tuple(I:Inv X pins σ H s)(h:SqT X.K H a xs):∃its:List VJ,Vals xs its/\IsTup s.heap a its.toArray/\xs.length<=sizeLine:=by
 rcases h with h|⟨o,its,n,hk,hc,hs,hz,r⟩
 .obtain⟨z,its,r,p⟩:=h.ok I.hok;exact⟨its,r,p,z⟩
 .refine⟨its.toList,r,⟨o,I.kIn a o hk,hc,n,by simpa using hs⟩,?_⟩;have e:=r.length;simp only[JI] at e;lia
theorem Inv.list_inj(I:Inv X pins σ H s)(h:SqL X.K H a xs)(h':SqL X.K H a ys):xs=ys:=by
 obtain⟨its,r,⟨o,n,e,_,_,d⟩,_⟩:=I.list h;obtain⟨its',r',⟨o',n',e',_,_,d'⟩,_⟩:=I.list h';rw[e] at e';cases e';rw[d] at d';injection d' with d1 _;have:its=its':=by simpa using Gr VD d1
 subst this;exact r.inj r'
theorem Inv.tuple_inj(I:Inv X pins σ H s)(h:SqT X.K H a xs)(h':SqT X.K H a ys):xs=ys:=by
 obtain⟨its,r,⟨o,e,_,n,d⟩,_⟩:=I.tuple h;obtain⟨its',r',⟨o',e',_,n',d'⟩,_⟩:=I.tuple h';rw[e] at e';cases e';rw[d] at d';injection d' with d1 _;have:its=its':=by simpa using Gr VD d1
 subst this;exact r.inj r'
end
abbrev Cx.wish(X:Cx)(E:VJ->VN->Prop):Cx:={ X with xe:=E }
abbrev Cx.nox(X:Cx):Cx:=X.wish λ_ _=>False
theorem Cx.Ok.wish{X:Cx}(ok:X.Ok)(E:VJ->VN->Prop):(X.wish E).Ok :=
 ⟨ok.mod,ok.kind,ok.glob,ok.blt,ok.above,ok.inj,ok.has,ok.cab,ok.hd,ok.frames,ok.stk,ok.exf,ok.bs,ok.bsz,ok.noex,ok.exfs,ok.funs,ok.frf⟩
theorem Cx.Ok.unwish{X:Cx}{E:VJ->VN->Prop}(ok:(X.wish E).Ok):X.Ok :=
 ⟨ok.mod,ok.kind,ok.glob,ok.blt,ok.above,ok.inj,ok.has,ok.cab,ok.hd,ok.frames,ok.stk,ok.exf,ok.bs,ok.bsz,ok.noex,ok.exfs,ok.funs,ok.frf⟩
section
variable {X:Cx}{pins:List (Addr×Obj)}{σ:St}{H:Hp}{s:VN}{E:VJ->VN->Prop}
theorem Inv.wish(I:Inv X pins σ H s)(E:VJ->VN->Prop):Inv (X.wish E) pins σ H s:=⟨I.ok.wish E,I.os,I.bare,I.base,I.loc,I.cell,I.free,I.freeC,I.pin,I.hok,I.len⟩
theorem Inv.unwish(I:Inv (X.wish E) pins σ H s):Inv X pins σ H s:=⟨I.ok.unwish,I.os,I.bare,I.base,I.loc,I.cell,I.free,I.freeC,I.pin,I.hok,I.len⟩
theorem SP.unwish(h:SP (X.wish E) pins D f s'):SP X pins D f s':=by
 cases f with
 | next=>obtain⟨σ',H',I,q⟩:=h;exact⟨σ',H',I.unwish,q⟩
 | brk=>obtain⟨σ',H',I,q⟩:=h;exact⟨σ',H',I.unwish,q⟩
 | cont=>obtain⟨σ',H',I,q⟩:=h;exact⟨σ',H',I.unwish,q⟩
 | ret u=>obtain⟨v,σ',H',I,r,q⟩:=h;exact⟨v,σ',H',I.unwish,r,q⟩
theorem PSs.nox{st:List Stmt}{t:TS}(h:PSs X.nox st t):PSs X st t:=λpins s σ H D I hw=>
 Uk (h pins s σ H D (I.wish _) hw) (λ_ _ q=>q.unwish) λ_ _ z=>ZK z
end
section
variable {X:Cx}{st:Stmt}{rest:List Stmt}{t u:TS}{e:Expr}{te:TE}{pos:Pos}
def zgv:TS:=λD σ H=>D.nx σ H
def tSeq(t u:TS):TS:=λD σ H=>t { D with nx:=u D } σ H
theorem zog:PSs X [] zgv:=λ_ _ σ H _ I h=>Uz ⟨σ,H,I,h⟩
theorem za5(h1:PS X st t)(h2:PSs X rest u):PSs X (st::rest) (tSeq t u):=by
 intro pins s σ H D I h;refine wpAny_execs_cons (thn (h1 pins s σ H { D with nx:=u D } I h) λf s1 q=>?_)
 cases f with
 | next=>
   obtain⟨σ',H',I',q⟩:=q;exact h2 pins s1 σ' H' D I' q
 | ret v=>exact q
 | brk=>exact q
 | cont=>exact q
theorem zbz(h1:PS X st t):PSs X [st] t:=by
 intro pins s σ H D I h;refine wpAny_execs_cons (thn (h1 pins s σ H D I h) λf s1 q=>?_)
 cases f with
 | next=>exact Uz q
 | ret v=>exact q
 | brk=>exact q
 | cont=>exact q
theorem zv7:PS X (.Pass pos) zgv:=λ_ _ σ H _ I h=>wpAny_Pass ⟨σ,H,I,h⟩
theorem Inv.quiet{pins:List (Addr×Obj)}(I:Inv X pins σ H s):interactive X.env=false:=by simp[interactive,I.ok.kind]
def zps(te:TE):TS:=λD σ H=>te σ H λ_ H1=>D.nx σ H1
theorem zv9(he:PE X e te)(hs:VX e none pos.line X.env=pure false:=by rfl):PS X (.Expr e pos) (zps te):=by
 intro pins s σ H D I h;exact wpAny_Expr_any (thn (he pins s σ H _ I h) λv s1 ⟨x,H1,I1,r1,q1⟩=>⟨σ,H1,I1,q1⟩) I.quiet hs
def tRet(te:TE):TS:=λD σ H=>te σ H D.rt
theorem zdl(he:PE X e te):PS X (.Return (some e) pos) (tRet te):=by
 intro pins s σ H D I h;exact wpAny_Return_some (thn (he pins s σ H _ I h) λv s1 ⟨x,H1,I1,r1,q1⟩=>⟨x,σ,H1,I1,r1,q1⟩)
def tIfS(c:TT)(t u:TS):TS:=λD σ H=>c σ H λb H1=>if b=true then t D σ H1 else u D σ H1
theorem zvg(hc:PT X c tc)(ha:PSs X a t)(hb:PSs X b u):PS X (.If c a b pos) (tIfS tc t u):=by
 intro pins s σ H D I h;refine wpAny_If (thn (hc pins s σ H _ I h) λd s1 zz=>?_);obtain⟨H1,I1,q1⟩:=zz
 cases d with
 | true=>exact ha pins s1 σ H1 D I1 q1
 | false=>exact hb pins s1 σ H1 D I1 q1
end
abbrev TG:=V->St->Hp->(St->Hp->Prop)->Prop
abbrev TGs:=List V->St->Hp->(St->Hp->Prop)->Prop
def PG(X:Cx)(target:Expr)(t:TG):Prop :=
 ∀(pins:List (Addr×Obj)) (s:VN) (σ:St) (H:Hp) (v:V) (u:VJ) (Q:St->Hp->Prop),Inv X pins σ H s->RelV v u->t v σ H Q ->
   wpAny (model X.prog X.w) X.A (UI target X.env u) (λ_ s'=>∃σ' H',Inv X pins σ' H' s'/\Q σ' H') X.xe s
def PGs(X:Cx)(ts:List Expr)(t:TGs):Prop :=
 ∀(pins:List (Addr×Obj)) (s:VN) (σ:St) (H:Hp) (vs:List V) (us:List VJ) (Q:St->Hp->Prop),Inv X pins σ H s->Vals vs us->t vs σ H Q ->
   wpAny (model X.prog X.w) X.A (assignInOrder ((VW ts X.env).map (·.2)) us) (λ_ s'=>∃σ' H',Inv X pins σ' H' s'/\Q σ' H') X.xe s
abbrev TIp:=V->V->Hp->VK->Prop
def PIp(X:Cx)(op:Operator)(t:TIp):Prop :=
 ∀(pins:List (Addr×Obj)) (s:VN) (σ:St) (H:Hp) (x y:V) (v u:VJ) (Q:VK),Inv X pins σ H s->RelV x v->RelV y u->t x y H Q ->
   wpAny (model X.prog X.w) X.A (inplaceOp op v u) (EP X pins σ Q) X.xe s
section
variable {X:Cx}{pos:Pos}
def zap(i:Nat):TG:=λv σ H Q=>Q (σ.set i (some v)) H
theorem zc7{i:Nat}(hN:X.N.Nodup)(hi:X.N[i]? = some x)(hx:Loc X.env.scope x)(hf:X.fn x=true\/X.env.scope.names.lookup x=some .local:=by first|exact .inl rfl|exact .inr rfl|assumption):PG X (.Name x pos) (zap i):=by
 intro pins s σ H v u Q I r h;exact wpAny_assign_Name (zhs I hN hi hx r (λs' I'=>⟨_,H,I',h⟩) hf)
def gNil:TGs:=λvs σ H Q=>vs = []/\Q σ H
def zdu(t:TG)(u:TGs):TGs:=λvs σ H Q=>∃v r,vs=v::r/\t v σ H λσ' H'=>u r σ' H' Q
theorem zn2:PGs X [] gNil:=by
 intro pins s σ H vs us Q I r h;obtain⟨e,h⟩:=h;subst e;cases r;exact assignInOrder_nil ⟨σ,H,I,h⟩
theorem zhn{t:TG}(h1:PG X e t)(h2:PGs X es u)
 (hs:(VW (e::es) X.env).map (·.2)=UI e X.env::(VW es X.env).map (·.2):=by rfl):PGs X (e::es) (zdu t u):=by
 intro pins s σ H vs us Q I r h;obtain⟨v,vr,e1,h⟩:=h;subst e1
 cases r with
 | cons r rr=>
   rw[hs];refine assignInOrder_cons (thn (h1 pins s σ H _ _ _ I r h) λ_ s1 zz=>?_);obtain⟨σ1,H1,I1,q1⟩:=zz;exact h2 pins s1 σ1 H1 _ _ Q I1 rr q1
def gTup(K:Qa)(n:Nat)(t:TGs):TG:=λv σ H Q=>∃a xs,v = .ref a/\SqT K H a xs/\xs.length=n/\t xs σ H Q
theorem zmu{k:Nat}{t:TGs}{n:Nat}(hc:X.calm=true)(h:PGs X es t)
 (hn:(VW es X.env).length=n:=by rfl) (hst:(VW es X.env).findIdx? (·.1)=none:=by rfl):PG X (.Tuple es k pos) (gTup X.K n t):=by
 intro pins s σ H v u Q I r hw;obtain⟨a,xs,e1,hq,hl,hw⟩:=hw;subst e1;cases r;obtain⟨its,rv,ht,hz⟩:=I.tuple hq;refine assign_Tuple_tuple (I.ok.hd hc) ht (by simp[hn,<- hl,rv.length]) hst λh' hx=>?_;have I1:Inv X pins σ H { s with heap:=h' }:=I.kept (t':=s.toks) λb o e=>hx b o (Q5 (Qt e)) e;exact h pins _ σ H xs _ Q I1 (by simpa using rv) hw
def tAsg(te:TE)(g:TG):TS:=λD σ H=>te σ H λx H1=>g x σ H1 D.nx
theorem zbi{i:Nat}{pos':Pos}(hN:X.N.Nodup)(hi:X.N[i]? = some x)(hx:Loc X.env.scope x)(he:PE X e te)(hs:VX e (some (.Name x pos')) pos.line X.env=pure false:=by rfl)(hf:X.fn x=true\/X.env.scope.names.lookup x=some .local:=by first|exact .inl rfl|exact .inr rfl|assumption):
 PS X (.Assign [.Name x pos'] e pos) (tAsg te (zap i)):=by
 intro pins s σ H D I h;refine wpAny_Assign_Name (thn (he pins s σ H _ I h) λv s1 zz=>?_) hs;obtain⟨y,H1,I1,r1,q1⟩:=zz;exact zhs I1 hN hi hx r1 (λs2 I2=>⟨_,H1,I2,q1⟩) hf
def tAug(i:Nat)(te:TE)(ti:TIp):TS:=λD σ H=>∃x,σ[i]? = some (some x)/\te σ H λy H1=>ti x y H1 λz H2=>D.nx (σ.set i (some z)) H2
theorem zzd{i:Nat}{pos':Pos}(hN:X.N.Nodup)(hi:X.N[i]? = some x)(hx:Loc X.env.scope x)(he:PE X e te)(ho:PIp X op ti)(hf:X.fn x=true\/X.env.scope.names.lookup x=some .local:=by first|exact .inl rfl|exact .inr rfl|assumption):
 PS X (.AugAssign (.Name x pos') op e pos) (tAug i te ti):=by
 intro pins s σ H D I h;obtain⟨v,e1,h⟩:=h;obtain⟨m,hn,hl⟩:=I.loc;have vis:Vis X.env.scope x:=by rcases hx with k|k;exact .inl k;exact .inr (.inl k)
 obtain⟨u,r,l⟩:=hl i x v hi e1 vis;refine wpAny_AugAssign_Name ?_
 have go:wpAny (model X.prog X.w) X.A (eval e X.env) (λw s₂=>wpAny (model X.prog X.w) X.A (inplaceOp op u w) (λr s₃=>wpAny (model X.prog X.w) X.A (storeName X.env x r) (λ_=>SP X pins D .next) X.xe s₃) X.xe s₂) X.xe s:=by
  refine thn (he pins s σ H _ I h) λw s1 zz=>?_;obtain⟨y,H1,I1,r1,q1⟩:=zz;refine thn (ho pins s1 σ H1 v y u w _ I1 r r1 q1) λz s2 zz=>?_;obtain⟨zv,H2,I2,r2,q2⟩:=zz;exact zhs I2 hN hi hx r2 (λs3 I3=>⟨_,H2,I3,q2⟩) hf
 rcases l with ⟨hk,hm⟩|⟨hk,c,hc,hcell⟩
 .exact UL I.ok.kind hk hn hm go
 .rcases hk with hk|hk
  .exact wpAny_loadName_cell I.ok.kind hk hc hcell go
  .rcases hx with k|k
   .have:X.env.scope.names.lookup x=some .free:=hk;rw[k] at this;cases this
   .have:X.env.scope.names.lookup x=some .free:=hk;rw[k] at this;cases this
def ipI(f:Int->Int->Int):TIp:=λx y H Q=>∃i j,x = .int i/\y = .int j/\Q (.int (f i j)) H
theorem z0n:PIp X .Add (ipI λi j=>i+j):=by
 intro pins s σ H x y v u Q I r1 r2 h;obtain⟨i,j,e1,e2,q⟩:=h;subst e1;subst e2;obtain⟨t,rfl⟩:=r1;obtain⟨t',rfl⟩:=r2;exact iadd_int ⟨.int _,H,I.tok _,⟨_,rfl⟩,q⟩
end
section
variable {X:Cx}{pos:Pos}
def zfw(c:TT)(tb:TS):TS:=λD σ H=>∃W:Nat->St->Hp->Prop,(∃m,W m σ H)/\∀m σ H,W m σ H ->
 c σ H λb H1=>if b=true then ∃N:St->Hp->Prop,(∀σ' H',N σ' H'->∃m',m'<m/\W m' σ' H')/\tb { D with nx:=N,ct:=N,bk:=D.nx } σ H1 else D.nx σ H1
theorem zhv{body:List Stmt}(hp:PassesOwn (model X.prog X.w) X.A X.env X.xe)(hc:PT X c tc)(hb:PSs X body tb):PS X (.While c body [] pos) (zfw tc tb):=by
 intro pins s σ H D I h;obtain⟨W,⟨m0,w0⟩,turn⟩:=h;refine wpAny_While (codeAny_whileLoop (λn s'=>∃σ' H',Inv X pins σ' H' s'/\W n σ' H') ?_ m0 ⟨σ,H,I,w0⟩);rintro n s1 ⟨σ1,H1,I1,w1⟩;refine Um hp (thn (hc pins s1 σ1 H1 _ I1 (turn n σ1 H1 w1)) λb s2 zz=>?_);obtain⟨H2,I2,q2⟩:=zz
 cases b with
 | true=>
   obtain⟨N,hN,q2⟩:=q2;rw[Gm rfl];refine Um hp (thn (hb pins s2 σ1 H2 _ I2 q2) λf s3 q3=>?_)
   cases f with
   | next=>
     obtain⟨σ3,H3,I3,n3⟩:=q3;obtain⟨m',hm,w3⟩:=hN σ3 H3 n3;exact⟨m',hm,σ3,H3,I3,w3⟩
   | cont=>
     obtain⟨σ3,H3,I3,n3⟩:=q3;obtain⟨m',hm,w3⟩:=hN σ3 H3 n3;exact⟨m',hm,σ3,H3,I3,w3⟩
   | brk=>exact q3
   | ret v=>exact q3
 | false=>
   rw[Gn Qo];exact Uz ⟨σ1,H2,I2,q2⟩
end
structure It where
 go:Nat->Hp->Prop
 yld:Nat->Hp->V->Hp->Prop
 stop:Nat->Hp->Prop
def FpOk(X:Cx)(pins:List (Addr×Obj))(H:Hp)(b:Addr):Prop :=
 H b=none/\b≠X.env.locals/\b ∉ X.fs/\(b∈X.ex\/X.s₀.heap.objs.size<=b)/\(∀x c,X.env.cells.lookup x=some c->c≠b)/\∀p∈X.pn++pins,p.1≠b
theorem Inv.fpOk{pins:List (Addr×Obj)}(I:Inv X pins σ H s)(hb:s.heap.objs.size<=b)(hn:H' b=none):FpOk X pins H' b:=by
 refine⟨hn,YQ (Q2 I.lt hb),I.nofs hb,.inr (Q3 I.sz hb),λx c e z=>?_,λp hp z=>?_⟩
 .obtain⟨v,q⟩:=I.cell x c e;exact absurd (Q2 q.lt (by rw[z];exact hb)) (QY _)
 .exact absurd (Q2 (Qt (I.pin p hp).1) (by rw[z];exact hb)) (QY _)
structure Turn(P:VO)(w:VR)(K:Qa)(tg:Expr)(J:It)(fp:List Addr)(it:Addr)(tn:Nat->Heap->Prop):Prop where
 mem:it∈fp
 obj:∀i h,tn i h->∀b∈fp,∃o,h.get? b=some o/\∀v,o.data≠.cell v
 keep:∀i h h',tn i h->(∀b∈fp,∀o,h.get? b=some o->h'.get? b=some o)->tn i h'
 item:∀(X:Cx),X.prog=P->X.w=w->X.K=K->X.calm=true->∀(i:Nat) (pins:List (Addr×Obj)) (s:VN) (σ:St) (H:Hp) (E:VJ->VN->Prop),Inv X pins σ H s->(∀b∈fp,FpOk X pins H b)->tn i s.heap->J.go i H ->
  wpAny (model P w) X.A (UY (.ref it)) (λr s1=>∃u,r=some u /\
   wpAny (model P w) X.A (Uy tg (.ref it) u) (λ_ s2=>∃x H',Inv X pins σ H' s2/\RelV x u/\J.yld i H x H'/\tn (i+1) s2.heap/\∀b∈fp,H' b=none) E s1) E s
 done:∀(X:Cx),X.prog=P->X.w=w->X.K=K->X.calm=true->∀(i:Nat) (pins:List (Addr×Obj)) (s:VN) (σ:St) (H:Hp) (E:VJ->VN->Prop),Inv X pins σ H s->(∀b∈fp,FpOk X pins H b)->tn i s.heap->J.stop i H ->
  wpAny (model P w) X.A (UY (.ref it)) (λr s1=>r=none/\Inv X pins σ H s1) E s
 self:∀(A:VY) (i:Nat) (s:VN) (Q:VJ->VN->Prop) (E:VJ->VN->Prop),tn i s.heap->Q (.ref it) s->wpAny (model P w) A (pyIter (.ref it)) Q E s
abbrev TI:=St->Hp->(It->Hp->Prop)->Prop
def PIE(X:Cx)(pins:List (Addr×Obj))(σ:St)(tg:Expr)(R:It->Hp->Prop)(itv:VJ)(s2:VN):Prop :=
 ∃(it:Addr) (fp:List Addr) (tn:Nat->Heap->Prop) (J:It) (H':Hp),itv = .ref it/\Inv X pins σ H' s2/\Turn X.prog X.w X.K tg J fp it tn/\tn 0 s2.heap/\(∀b∈fp,FpOk X pins H' b)/\R J H'
def PI(X:Cx)(tg iter:Expr)(wi:TI):Prop :=
 ∀(pins:List (Addr×Obj)) (s:VN) (σ:St) (H:Hp) (R:It->Hp->Prop),Inv X pins σ H s->wi σ H R ->
   wpAny (model X.prog X.w) X.A (eval iter X.env) (λv s1=>wpAny (model X.prog X.w) X.A (pyIter v) (PIE X pins σ tg R) X.xe s1) X.xe s
theorem zk6(ho:s.heap.get? it=some o)(hc:o.cls = .type n)(hd:o.data = .fields vs)
 (hn:["enumerate", "zip", "dict_itemiterator", "dict_reverseitemiterator", "odict_iterator", "itertools.zip_longest", "itertools.pairwise"].contains n=false) (hQ:Q () s):wpAny M A (Uy tg (.ref it) u) Q E s:=by
 unfold Uy
 cases tg <;> first
  | exact VQ hQ
  | (cases u <;> first
   | exact VQ hQ
   | (refine VL (wpAny_load ho ?_)
      rw[hc,hd];show wpAny M A (if(["enumerate", "zip", "dict_itemiterator", "dict_reverseitemiterator", "odict_iterator", "itertools.zip_longest", "itertools.pairwise"].contains n && vs[0]? == some (Gk _))=true then _ else _) Q E s;rw[Gn (by intro h;rw[hn,JP] at h;cases h)]
      exact VQ hQ))
def Itl(K:Qa)(a:Addr):It :=
 ⟨λi H=>∃xs x,SqL K H a xs/\xs[i]? = some x,λi H x H'=>H'=H/\∀xs,SqL K H a xs->xs[i]? = some x,λi H=>∃xs,SqL K H a xs/\xs.length<=i⟩
def Itt(K:Qa)(a:Addr):It :=
 ⟨λi H=>∃xs x,SqT K H a xs/\xs[i]? = some x,λi H x H'=>H'=H/\∀xs,SqT K H a xs->xs[i]? = some x,λi H=>∃xs,SqT K H a xs/\xs.length<=i⟩
def Itr(lo:Int)(n:Nat):It:=⟨λi _=>i<n,λi H x H'=>H'=H/\x = .int (lo+i),λi _=>n<=i⟩
theorem zr2{P:VO}{w:VR}{K:Qa}{tg:Expr}(a it:Addr):Turn P w K tg (Itl K a) [it] it (λi h=>h.IsListIter it a i) where
 mem:=by simp
 obj:=λi h st b hb=>by
  have e:b=it:=by simpa using hb
  subst e;obtain⟨o,e,c,d⟩:=st;exact⟨o,e,λv z=>by rw[d] at z;cases z⟩
 keep:=λi h h' st k=>st.at λo e=>k it (by simp) o e
 item:=by
  intro X hP hw hK hc i pins s σ H E I hf st hg;subst hP hw hK;obtain⟨xs,x,hq,hx⟩:=hg;obtain⟨its,rv,p,hz⟩:=I.list hq;obtain⟨u,hu,ru⟩:=rv.get hx;obtain⟨f0,f1,f2,f3,f4,f5⟩:=hf it (by simp);refine wpAny_pyNext_list_item st p.isList (x:=u) (by simpa using hu) λh' st' sb=>?_;have I1:Inv X pins σ H { s with heap:=h' }:=I.turned (t':=s.toks) (λb o hb e=>(sb.2 b hb).trans e) f0 f1 f3 f4 f5;obtain⟨o,e,c,d⟩:=id st';exact⟨u,rfl,zk6 (s:={ s with heap:=h' }) e c d (by decide) ⟨x,H,I1,ru,⟨rfl,λys hy=>by rw[I.list_inj hy hq];exact hx⟩,st',λb hb=>(hf b hb).1⟩⟩
 done:=by
  intro X hP hw hK hc i pins s σ H E I hf st hg;subst hP hw hK;obtain⟨xs,hq,hx⟩:=hg;obtain⟨its,rv,p,hz⟩:=I.list hq;obtain⟨f0,f1,f2,f3,f4,f5⟩:=hf it (by simp);have hl:=rv.length;exact wpAny_pyNext_list_end (I.ok.hd hc) st p.isList (by simp;lia) λh' eb=>⟨rfl,I.turned (t':=s.toks) (λb o hb e=>eb b o hb e) f0 f1 f3 f4 f5⟩
 self:=λ_ _ _ _ _ st h=>wpAny_pyIter_listiter st h
theorem zpf{P:VO}{w:VR}{K:Qa}{tg:Expr}(a it:Addr):Turn P w K tg (Itt K a) [it] it (λi h=>h.IsTupleIter it a i) where
 mem:=by simp
 obj:=λi h st b hb=>by
  have e:b=it:=by simpa using hb
  subst e;obtain⟨o,e,c,d⟩:=st;exact⟨o,e,λv z=>by rw[d] at z;cases z⟩
 keep:=λi h h' st k=>st.at λo e=>k it (by simp) o e
 item:=by
  intro X hP hw hK hc i pins s σ H E I hf st hg;subst hP hw hK;obtain⟨xs,x,hq,hx⟩:=hg;obtain⟨its,rv,p,hz⟩:=I.tuple hq;obtain⟨u,hu,ru⟩:=rv.get hx;obtain⟨f0,f1,f2,f3,f4,f5⟩:=hf it (by simp);refine wpAny_pyNext_tuple_item st (show s.heap.IsTuple a its.toArray from p) (x:=u) (by simpa using hu) λh' st' sb=>?_;have I1:Inv X pins σ H { s with heap:=h' }:=I.turned (t':=s.toks) (λb o hb e=>(sb.2 b hb).trans e) f0 f1 f3 f4 f5;obtain⟨o,e,c,d⟩:=id st';exact⟨u,rfl,zk6 (s:={ s with heap:=h' }) e c d (by decide) ⟨x,H,I1,ru,⟨rfl,λys hy=>by rw[I.tuple_inj hy hq];exact hx⟩,st',λb hb=>(hf b hb).1⟩⟩
 done:=by
  intro X hP hw hK hc i pins s σ H E I hf st hg;subst hP hw hK;obtain⟨xs,hq,hx⟩:=hg;obtain⟨its,rv,p,hz⟩:=I.tuple hq;obtain⟨f0,f1,f2,f3,f4,f5⟩:=hf it (by simp);have hl:=rv.length;exact wpAny_pyNext_tuple_end (I.ok.hd hc) st (show s.heap.IsTuple a its.toArray from p) (by simp;lia) λh' eb=>⟨rfl,I.turned (t':=s.toks) (λb o hb e=>eb b o hb e) f0 f1 f3 f4 f5⟩
 self:=λ_ _ _ _ _ st h=>wpAny_pyIter_tupleiter st h
theorem zpn{P:VO}{w:VR}{K:Qa}{tg:Expr}(it:Addr)(lo:Int)(n:Nat):Turn P w K tg (Itr lo n) [it] it (λi h=>IsRangeIter h it (lo+(i:Nat) * 1) ((n:Int)-(i:Nat)) 1) where
 mem:=by simp
 obj:=λi h st b hb=>by
  have e:b=it:=by simpa using hb
  subst e
  exact⟨_,st,λv z=>by
   have z':Data.fields _=Data.cell v:=z
   cases z'⟩
 keep:=λi h h' st k=>k it (by simp) _ st
 item:=by
  intro X hP hw hK hc i pins s σ H E I hf st hg;subst hP hw hK;obtain⟨f0,f1,f2,f3,f4,f5⟩:=hf it (by simp);have W:=Walks.range (prog:=X.prog) (w:=X.w) (I.ok.hd hc) it lo 1 n;refine W.item i s _ _ hg st λv h' tk hv st' kk=>?_;obtain⟨t,rfl⟩:=hv;have I1:Inv X pins σ H { s with heap:=h',toks:=tk }:=I.turned (λb o hb e=>kk b o (by simpa using hb) e) f0 f1 f3 f4 f5;refine⟨_,rfl,zk6 (s:={ s with heap:=h',toks:=tk }) (n := "range_iterator") st' rfl rfl (by decide) ⟨.int (lo+i),H,I1,⟨t,?_⟩,⟨rfl,rfl⟩,st',λb hb=>(hf b hb).1⟩⟩;rw[Int.mul_one]
 done:=by
  intro X hP hw hK hc i pins s σ H E I hf st hg;subst hP hw hK;obtain⟨f0,f1,f2,f3,f4,f5⟩:=hf it (by simp);exact wpAny_pyNext_range_end (I.ok.hd hc) st (by have:n<=i:=hg;lia) λh' eb=>⟨rfl,I.turned (t':=s.toks) (λb o hb e=>eb b o hb e) f0 f1 f3 f4 f5⟩
 self:=λ_ _ _ _ _ st h=>wpAny_pyIter_rangeiter st h
section
variable {X:Cx}{tg:Expr}
def zgs(K:Qa)(tl:TE):TI:=λσ H R=>tl σ H λx H1=>∃a,x = .ref a/\(∃xs,SqL K H1 a xs)/\R (Itl K a) H1
def iTup(K:Qa)(tl:TE):TI:=λσ H R=>tl σ H λx H1=>∃a,x = .ref a/\(∃xs,SqT K H1 a xs)/\R (Itt K a) H1
theorem zg2(hl:PE X l tl):PI X tg l (zgs X.K tl):=by
 intro pins s σ H R I h;refine thn (hl pins s σ H _ I h) λv s1 zz=>?_;obtain⟨x,H1,I1,r1,q1⟩:=zz;obtain⟨a,e,⟨xs,hq⟩,q⟩:=q1;subst e;cases r1;obtain⟨its,rv,p,hz⟩:=I1.list hq;refine U6 p.isList ?_;refine⟨s1.heap.objs.size,[s1.heap.objs.size],_,_,H1,rfl,I1.kept (t':=s1.toks) λb o e=>Qg _ e,zr2 a _,⟨_,Qv _ rfl,rfl,rfl⟩,λb hb=>?_,q⟩;have e:b=s1.heap.objs.size:=by simpa using hb
 subst e;exact I1.fpOk (Qe _) (I1.hok.fresh (Qe _))
theorem zz7(hl:PE X l tl):PI X tg l (iTup X.K tl):=by
 intro pins s σ H R I h;refine thn (hl pins s σ H _ I h) λv s1 zz=>?_;obtain⟨x,H1,I1,r1,q1⟩:=zz;obtain⟨a,e,⟨xs,hq⟩,q⟩:=q1;subst e;cases r1;obtain⟨its,rv,p,hz⟩:=I1.tuple hq;refine U2 (show s1.heap.IsTuple a its.toArray from p) ?_;refine⟨s1.heap.objs.size,[s1.heap.objs.size],_,_,H1,rfl,I1.kept (t':=s1.toks) λb o e=>Qg _ e,zpf a _,⟨_,Qv _ rfl,rfl,rfl⟩,λb hb=>?_,q⟩;have e:b=s1.heap.objs.size:=by simpa using hb
 subst e;exact I1.fpOk (Qe _) (I1.hok.fresh (Qe _))
theorem zl3{pins:List (Addr×Obj)}{R:It->Hp->Prop}{lo hi:Int}{t:Tok}{tk:Nat}(I:Inv X pins σ H s)(h1:-(2 ^ 62)<=lo)(h2:lo<2 ^ 62)(h3:-(2 ^ 62)<=hi)(h4:hi<2 ^ 62)
 (q:R (Itr lo (hi-lo).toNat) H):wpAny (model X.prog X.w) X.A (pyIter (.ref s.heap.objs.size)) (PIE X pins σ tg R) E { s with heap:=s.heap.push { cls:=.type "range",data:=.fields #[.int lo t,.int hi u,.int 1 v] },toks:=tk }:=by
 refine wpAny_pyIter_range (IsRange.new ..) (small_one h1 h2 h3 h4) ?_;have I1:Inv X pins σ H { s with heap:=s.heap.push { cls:=.type "range",data:=.fields #[.int lo t,.int hi u,.int 1 v] },toks:=tk }:=I.kept λb o e=>Qg _ e
 refine⟨(s.heap.push { cls:=.type "range",data:=.fields #[.int lo t,.int hi u,.int 1 v] }).objs.size,[(s.heap.push { cls:=.type "range",data:=.fields #[.int lo t,.int hi u,.int 1 v] }).objs.size],_,_,H,rfl,
  I1.kept (t':=tk) λb o e=>Qg _ e,zpn _ lo (hi-lo).toNat,?_,λb hb=>?_,q⟩
 .have e1:lo+((0:Nat):Int) * 1=lo:=by simp
  have e2:(((hi-lo).toNat:Nat):Int)-((0:Nat):Int)=Builtin.Range.rangeSize lo hi 1:=by rw[rangeSize_one];split <;> lia
  show IsRangeIter _ _ (lo+((0:Nat):Int) * 1) ((((hi-lo).toNat:Nat):Int)-((0:Nat):Int)) 1;rw[e1,e2];exact Qv _ rfl
 .have e:b=(s.heap.push { cls:=.type "range",data:=.fields #[.int lo t,.int hi u,.int 1 v] }).objs.size:=by simpa using hb
  subst e;exact I1.fpOk (Qe _) (I1.hok.fresh (Qe _))
def zpl(ta:TA):TI:=λσ H R=>ta σ H λvs H1=>∃j:Int,vs = [.int j]/\-(2 ^ 62)<=j/\j<2 ^ 62/\R (Itr 0 j.toNat) H1
def zvn(ta:TA):TI:=λσ H R=>ta σ H λvs H1=>∃i j:Int,vs = [.int i,.int j]/\(-(2 ^ 62)<=i/\i<2 ^ 62/\-(2 ^ 62)<=j/\j<2 ^ 62)/\R (Itr i (j-i).toNat) H1
theorem zj4(hg:Gl X "range")(hm:X.mg "range" = none)(ha:PA X [a] ta)(hs:VM [a] X.env = [(false,eval a X.env)]:=by rfl):PI X tg (.Call (.Name "range" p) [a] [] pos) (zpl ta):=by
 intro pins s σ H R I h;refine Call_ (zcn I hg hm boot_range (QQ (thn (ha pos pins s σ H _ I h) λus s1 zz=>?_) hs rfl));obtain⟨vs,H1,I1,r1,q1⟩:=zz;obtain⟨j,e,q1,q2,q⟩:=q1;subst e
 cases r1 with
 | cons r rr=>
   cases rr;obtain⟨t,rfl⟩:=r;exact call_range_1 (zl3 I1 (by lia) (by lia) q1 q2 (by simpa using q))
theorem zq3(hg:Gl X "range")(hm:X.mg "range" = none)(ha:PA X [a,b] ta)(hs:VM [a,b] X.env = [(false,eval a X.env),(false,eval b X.env)]:=by rfl)(hs2:VM [b] X.env = [(false,eval b X.env)]:=by rfl):
 PI X tg (.Call (.Name "range" p) [a,b] [] pos) (zvn ta):=by
 intro pins s σ H R I h;refine Call_ (zcn I hg hm boot_range (QQ (thn (ha pos pins s σ H _ I h) λus s1 zz=>?_) (by rw[hs,hs2]) (by rw[hs2];rfl)));obtain⟨vs,H1,I1,r1,q1⟩:=zz;obtain⟨i,j,e,⟨q1,q2,q3,q4⟩,q⟩:=q1;subst e
 cases r1 with
 | cons r rr=>
   cases rr with
   | cons r' rr=>
     cases rr;obtain⟨t,rfl⟩:=r;obtain⟨t',rfl⟩:=r';exact call_range_2 (zl3 I1 q1 q2 q3 q4 q)
def tFor(wi:TI)(g:TG)(tb:TS):TS:=λD σ H=>wi σ H λJ H1=>∃W:Nat->Nat->St->Hp->Prop,(∃m,W 0 m σ H1)/\∀i m σ H,W i m σ H ->
 (J.stop i H/\D.nx σ H)\/(J.go i H/\∃N:St->Hp->Prop,(∀σ' H',N σ' H'->∃m',m'<m/\W (i+1) m' σ' H')/\∀x H',J.yld i H x H'->g x σ H' λσ2 H2=>tb { D with nx:=N,ct:=N,bk:=D.nx } σ2 H2)
def zfu(fp:List Addr)(h:Heap):List (Addr×Obj):=fp.filterMap λb=>(h.get? b).map λo=>(b,o)
theorem zds(hb:b∈fp)(e:h.get? b=some o):(b,o)∈zfu fp h:=Za.mpr ⟨b,hb,by rw[e];rfl⟩
theorem zqb(hp:p∈zfu fp h):p.1∈fp/\h.get? p.1=some p.2:=by
 obtain⟨b,hb,e⟩:=Za.mp hp
 cases q:h.get? b with
 | none=>rw[q] at e;cases e
 | some o=>
   rw[q] at e;have e':(b,o)=p:=QM e;subst e';exact⟨hb,q⟩
theorem Inv.pinned{pins:List (Addr×Obj)}(I:Inv X pins σ H s)(hf:∀b∈fp,FpOk X pins H b)(ho:∀b∈fp,∃o,s.heap.get? b=some o/\∀v,o.data≠.cell v):Inv X (pins++zfu fp s.heap) σ H s :=
 I.pins_of λp hp=>(Q9.mp hp).elim (λz=>I.pin p (QF _ z)) λz=>by
  obtain⟨hb,e⟩:=zqb z;obtain⟨f0,f1,f2,_⟩:=hf p.1 hb;obtain⟨o,e',d⟩:=ho p.1 hb;rw[e] at e';cases e';exact⟨e,f0,f1,f2,d⟩
theorem Inv.unpinned{pins:List (Addr×Obj)}(I:Inv X (pins++pl) σ H s):Inv X pins σ H s:=I.pins_of λp hp=>I.pin p (QF _ (ZU _ hp))
theorem zrf{iter:Expr}{body:List Stmt}(hp:PassesOwn (model X.prog X.w) X.A X.env X.xe)(hc:X.calm=true)(hi:PI X tg iter wi)(hg:PG X tg g)(hb:PSs X body tb)
 (hs:∀x,Uf iter X.env x=pure x:=by intro _;rfl):PS X (.For tg iter body [] pos) (tFor wi g tb):=by
 intro pins s σ H D I h;refine wpAny_For (thn (hi pins s σ H _ I h) λv s1 h1=>thn h1 λitv s2 h2=>?_) hs;obtain⟨it,fp,tn,J,H2,e,I2,T,st2,f2,W,⟨m0,w0⟩,turn⟩:=h2;subst e
 -- what stays true of the iterator's objects through the loop
 have stat:∀{H':Hp},(∀b∈fp,H' b=none)->∀b∈fp,FpOk X pins H' b:=λhn b hb=>⟨hn b hb,(f2 b hb).2⟩;refine codeAny_forLoop_any (λn s'=>∃i σ' H',Inv X pins σ' H' s'/\tn i s'.heap/\(∀b∈fp,H' b=none)/\W i n σ' H') ?_ m0 ⟨0,σ,H2,I2,st2,λb hb=>(f2 b hb).1,w0⟩;rintro n s3 ⟨i,σ3,H3,I3,st3,fr3,w3⟩;rcases turn i n σ3 H3 w3 with ⟨stop,qn⟩|⟨go,N,hN,step⟩
 .refine Um hp (thn (T.done X rfl rfl rfl hc i pins s3 σ3 H3 X.xe I3 (stat fr3) st3 stop) λr s4 zz=>?_);obtain⟨hr,I4⟩:=zz;subst hr;exact Uz ⟨σ3,H3,I4,qn⟩
 .refine Um hp (thn (T.item X rfl rfl rfl hc i pins s3 σ3 H3 X.xe I3 (stat fr3) st3 go) λr s4 zz=>?_);obtain⟨u,hr,h4⟩:=zz;subst hr;refine Um hp (thn h4 λ_ s5 zz=>?_);obtain⟨x,H5,I5,r5,y5,st5,fr5⟩:=zz;have I5':=I5.pinned (stat fr5) (T.obj _ _ st5);refine Um hp (thn (hg _ s5 σ3 H5 x u _ I5' r5 (step x H5 y5)) λ_ s6 zz=>?_);obtain⟨σ6,H6,I6,q6⟩:=zz;refine Um hp (thn (hb _ s6 σ6 H6 _ I6 q6) λf s7 q7=>?_)
  have again:∀{σ7:St} {H7:Hp},Inv X (pins++zfu fp s5.heap) σ7 H7 s7->N σ7 H7->∃m,m<n/\∃i σ' H',Inv X pins σ' H' s7/\tn i s7.heap/\(∀b∈fp,H' b=none)/\W i m σ' H':=λ{σ7 H7} I7 n7=>by
   obtain⟨m',hm,w7⟩:=hN σ7 H7 n7;refine⟨m',hm,i+1,σ7,H7,I7.unpinned,T.keep _ _ _ st5 λb hb o e=>(I7.pin (b,o) (QF _ (QF _ (zds hb e)))).1,λb hb=>?_,w7⟩;obtain⟨o,e,d⟩:=T.obj _ _ st5 b hb;exact(I7.pin (b,o) (QF _ (QF _ (zds hb e)))).2.1
  cases f with
  | next=>obtain⟨σ7,H7,I7,n7⟩:=q7;exact again I7 n7
  | cont=>obtain⟨σ7,H7,I7,n7⟩:=q7;exact again I7 n7
  | brk=>obtain⟨σ7,H7,I7,q7⟩:=q7;exact⟨σ7,H7,I7.unpinned,q7⟩
  | ret v=>obtain⟨x7,σ7,H7,I7,r7,q7⟩:=q7;exact⟨x7,σ7,H7,I7.unpinned,r7,q7⟩
end
theorem zst{K:Qa}{a:Addr}{xs:List V}{g:TG}{tb:TS}{D:Ends}{σ:St}{H:Hp}(Pv:Nat->St->Hp->Prop)(h0:Pv 0 σ H)(hl:∀i σ H,i<=xs.length->Pv i σ H->SqL K H a xs)
 (hs:∀i x σ H,xs[i]? = some x->Pv i σ H->g x σ H λσ2 H2=>tb { D with nx:=Pv (i+1),ct:=Pv (i+1),bk:=D.nx } σ2 H2) (hd:∀σ H,Pv xs.length σ H->D.nx σ H) :
 ∃W:Nat->Nat->St->Hp->Prop,(∃m,W 0 m σ H)/\∀i m σ H,W i m σ H ->
   ((Itl K a).stop i H/\D.nx σ H)\/((Itl K a).go i H/\∃N:St->Hp->Prop,(∀σ' H',N σ' H'->∃m',m'<m/\W (i+1) m' σ' H')/\∀x H',(Itl K a).yld i H x H'->g x σ H' λσ2 H2=>tb { D with nx:=N,ct:=N,bk:=D.nx } σ2 H2):=by
 refine⟨λi m σ H=>m=xs.length-i/\i<=xs.length/\Pv i σ H,⟨xs.length,by simp,QC _,h0⟩,?_⟩;rintro i m σ H ⟨rfl,hi,p⟩;have q:=hl i σ H hi p
 by_cases hlt:i<xs.length
 .refine .inr ⟨⟨xs,xs[i],q,by simp[hlt]⟩,Pv (i+1),λσ' H' p'=>⟨xs.length-(i+1),by lia,rfl,hlt,p'⟩,λx H' y=>?_⟩;obtain⟨e,y⟩:=y;subst e;exact hs i x σ _ (y xs q) p
 .have e:i=xs.length:=by lia
  subst e;exact .inl ⟨⟨xs,q,Qe _⟩,hd σ H p⟩
abbrev R2:=V->V->Hp->VK->Prop
def OpR(X:Cx)(f:VJ->VJ->Sem VJ)(r:R2):Prop :=
 ∀(pins:List (Addr×Obj)) (s:VN) (σ:St) (H:Hp) (x y:V) (v u:VJ) (Q:VK),Inv X pins σ H s->RelV x v->RelV y u->r x y H Q ->
   wpAny (model X.prog X.w) X.A (f v u) (EP X pins σ Q) X.xe s
def zca(X:Cx)(f:VJ)(r:List V->Hp->VK->Prop):Prop :=
 ∀(pins:List (Addr×Obj)) (s:VN) (σ:St) (H:Hp) (xs:List V) (us:List VJ) (Q:VK),Inv X pins σ H s->Vals xs us->r xs H Q ->
   wpAny (model X.prog X.w) X.A (call f us) (EP X pins σ Q) X.xe s
def TruR(X:Cx)(r:V->Hp->(Bool->Hp->Prop)->Prop):Prop :=
 ∀(pins:List (Addr×Obj)) (s:VN) (σ:St) (H:Hp) (x:V) (v:VJ) (Q:Bool->Hp->Prop),Inv X pins σ H s->RelV x v->r x H Q ->
   wpAny (model X.prog X.w) X.A (truthy v) (TP X pins σ Q) X.xe s
def tOp(r:R2)(ta tb:TE):TE:=λσ H Q=>ta σ H λx H1=>tb σ H1 λy H2=>r x y H2 Q
def rI(C:Int->Int->Prop)(g:Int->Int->V):R2:=λx y H Q=>∃i j,x = .int i/\y = .int j/\C i j/\Q (g i j) H
def rI0(g:Int->Int->V):R2:=λx y H Q=>∃i j,x = .int i/\y = .int j/\Q (g i j) H
section
variable {X:Cx}{a b c:Expr}{ta tb tc:TE}{pos:Pos}
theorem binT(ha:PE X a ta)(hb:PE X b tb){pins:List (Addr×Obj)}{s:VN}{σ:St}{H:Hp}{R:V->V->Hp->Prop}(I:Inv X pins σ H s)
 (h:ta σ H λx H1=>tb σ H1 λy H2=>R x y H2) {Q:VJ->VN->Prop} {f:VJ->VJ->Sem VJ}
 (hf:∀v u s2 x y H2,Inv X pins σ H2 s2->RelV x v->RelV y u->R x y H2->wpAny (model X.prog X.w) X.A (f v u) Q X.xe s2) :
 wpAny (model X.prog X.w) X.A (eval a X.env) (λv s₁=>wpAny (model X.prog X.w) X.A (eval b X.env) (λu s₂=>wpAny (model X.prog X.w) X.A (f v u) Q X.xe s₂) X.xe s₁) X.xe s:=by
 refine thn (ha pins s σ H _ I h) λv s1 zz=>?_;obtain⟨x,H1,I1,r1,q1⟩:=zz;refine thn (hb pins s1 σ H1 _ I1 q1) λu s2 zz=>?_;obtain⟨y,H2,I2,r2,q2⟩:=zz;exact hf v u s2 x y H2 I2 r1 r2 q2
theorem za8(ho:OpR X (binaryOp op) r)(ha:PE X a ta)(hb:PE X b tb):PE X (.BinOp a op b pos) (tOp r ta tb):=by
 intro pins s σ H Q I h;exact wpAny_BinOp (binT ha hb I h λv u s2 x y H2 I2 rx ry q=>ho pins s2 σ H2 x y v u Q I2 rx ry q)
theorem opI{f:VJ->VJ->Sem VJ}{C:Int->Int->Prop}{g:Int->Int->Int}
 (rule:∀(i j:Int) (t u:Tok) (s:VN) (Q:VJ->VN->Prop) (E:VJ->VN->Prop),C i j->Q (.int (g i j) s.toks) { s with toks:=s.toks+1 }->wpAny (model X.prog X.w) X.A (f (.int i t) (.int j u)) Q E s) :
 OpR X f (rI C λi j=>.int (g i j)):=by
 intro pins s σ H x y v u Q I rx ry h;obtain⟨i,j,rfl,rfl,hc,q⟩:=h;obtain⟨t,rfl⟩:=rx;obtain⟨t',rfl⟩:=ry;exact rule i j t t' s _ _ hc ⟨.int (g i j),H,I.tok _,⟨_,rfl⟩,q⟩
theorem opI0{f:VJ->VJ->Sem VJ}{g:Int->Int->Int}
 (rule:∀(i j:Int) (t u:Tok) (s:VN) (Q:VJ->VN->Prop) (E:VJ->VN->Prop),Q (.int (g i j) s.toks) { s with toks:=s.toks+1 }->wpAny (model X.prog X.w) X.A (f (.int i t) (.int j u)) Q E s) :
 OpR X f (rI0 λi j=>.int (g i j)):=by
 intro pins s σ H x y v u Q I rx ry h;obtain⟨i,j,rfl,rfl,q⟩:=h;obtain⟨t,rfl⟩:=rx;obtain⟨t',rfl⟩:=ry;exact rule i j t t' s _ _ ⟨.int (g i j),H,I.tok _,⟨_,rfl⟩,q⟩
theorem opB0{f:VJ->VJ->Sem VJ}{g:Int->Int->Bool}
 (rule:∀(i j:Int) (t u:Tok) (s:VN) (Q:VJ->VN->Prop) (E:VJ->VN->Prop),Q (.bool (g i j)) s->wpAny (model X.prog X.w) X.A (f (.int i t) (.int j u)) Q E s) :
 OpR X f (rI0 λi j=>.bl (g i j)):=by
 intro pins s σ H x y v u Q I rx ry h;obtain⟨i,j,rfl,rfl,q⟩:=h;obtain⟨t,rfl⟩:=rx;obtain⟨t',rfl⟩:=ry;exact rule i j t t' s _ _ ⟨.bl (g i j),H,I,rfl,q⟩
def CDiv(i j:Int):Prop:=0<j/\j<1073741824
def CPow(i j:Int):Prop:=0<=j/\j<=1000000/\i.natAbs<2 ^ 64
def CMul(i j:Int):Prop:=(-(2 ^ 64)<i/\i<2 ^ 64)\/(-(2 ^ 64)<j/\j<2 ^ 64)
theorem CMul.ok{i j:Int}(h:CMul i j):IntMulOk i j:=by
 rcases h with ⟨h1,h2⟩|⟨h1,h2⟩
 .exact .of_left (intBits_le_64 h1 h2)
 .exact .of_right (intBits_le_64 h1 h2)
theorem op_add:OpR X (binaryOp .Add) (rI0 λi j=>.int (i+j)):=opI0 λ_ _ _ _ _ _ _ q=>add_int q
theorem zri:OpR X (binaryOp .Sub) (rI0 λi j=>.int (i-j)):=opI0 λ_ _ _ _ _ _ _ q=>sub_int q
theorem op_mul:OpR X (binaryOp .Mult) (rI CMul λi j=>.int (i * j)):=opI λ_ _ _ _ _ _ _ hc q=>mul_int q hc.ok
theorem zyl:OpR X (binaryOp .FloorDiv) (rI CDiv λi j=>.int (i / j)):=opI λi j _ _ _ _ _ hc q=>by
 have h1:(0:Int)<j:=hc.1;have h2:j<1073741824:=hc.2;exact floordiv_int (by lia) (by rw[Int.fdiv_eq_ediv_of_nonneg i (by lia)];exact q) (.inl (PyProof.noPylong_small (by lia)))
theorem zdi:OpR X (binaryOp .Mod) (rI (λ_ j=>0<j) λi j=>.int (i % j)):=opI λi j _ _ _ _ _ hc q=>by
 have h1:(0:Int)<j:=hc;exact mod_int' (by lia) (by rw[Int.fmod_eq_emod_of_nonneg i (by lia)];exact q)
theorem zz9:OpR X (binaryOp .Pow) (rI CPow λi j=>.int (i ^ j.toNat)):=opI λ_ _ _ _ _ _ _ hc q=>pow_int_small hc.1 hc.2.1 hc.2.2 q
end
def scal:V->V->Bool
 | .non,.non=>true | .non,.int _=>true | .int _,.non=>true | .non,.bl _=>true | .bl _,.non=>true | .non,.str _=>true | .str _,.non=>true
 | .int _,.int _=>true | .bl _,.bl _=>true | .str _,.str _=>true | .byt _,.byt _=>true
 | .int _,.str _=>true | .str _,.int _=>true | .bl _,.str _=>true | .str _,.bl _=>true
 | _,_=>false
def rEq:R2:=λx y H Q=>scal x y=true/\Q (.bl (decide (x=y))) H
theorem zwn{i j:Int}:decide (V.int i=V.int j)=(i == j):=by
 rw[Ji];simp
theorem zy1{i j:Bool}:decide (V.bl i=V.bl j)=(i == j):=by
 rw[Ji];simp
theorem zx1: decide (V.str i=V.str j)=(i == j):=by
 rw[Ji];simp
theorem zx7: decide (V.byt i=V.byt j)=(i.toList == j.toList):=by
 rw[Ji];cases i;cases j;simp
section
variable {X:Cx}{a b c:Expr}{ta tb tc:TE}{pos:Pos}
theorem zbo{pins:List (Addr×Obj)}{k k':Bool}(I:Inv X pins σ H s)(q:Q (.bl k) H)(e:k=k'):EP X pins σ Q (.bool k') s:=by
 subst e;exact⟨.bl k,H,I,rfl,q⟩
theorem z2b:OpR X (Ub .Eq) rEq:=by
 intro pins s σ H x y v u Q I rx ry h;obtain⟨hs,q⟩:=h
 cases x with
 | non=>
   cases rx
   cases y with
   | non=>cases ry;exact PySem.EqNone.eq_none_none (zbo I q (by simp))
   | bl j=>cases ry;exact PySem.EqNone.eq_none_bool (zbo I q (by simp))
   | int j=>obtain⟨t',rfl⟩:=ry;exact PySem.EqNone.eq_none_int (zbo I q (by simp))
   | str j=>obtain⟨t',rfl⟩:=ry;exact PySem.EqNone.eq_none_str (zbo I q (by simp))
   | _=>exact absurd (show false=true from hs) Qo
 | bl i=>
   cases rx
   cases y with
   | non=>cases ry;exact PySem.EqNone.eq_bool_none (zbo I q (by simp))
   | bl j=>cases ry;exact eq_bool (zbo I q zy1)
   | str j=>obtain⟨t',rfl⟩:=ry;exact PySem.EqMixed.eq_bool_str (zbo I q (by simp))
   | _=>exact absurd (show false=true from hs) Qo
 | int i=>
   obtain⟨t,rfl⟩:=rx
   cases y with
   | non=>cases ry;exact PySem.EqNone.eq_int_none (zbo I q (by simp))
   | int j=>obtain⟨t',rfl⟩:=ry;exact eq_int (zbo I q zwn)
   | str j=>obtain⟨t',rfl⟩:=ry;exact PySem.EqMixed.eq_int_str (zbo I q (by simp))
   | _=>exact absurd (show false=true from hs) Qo
 | str i=>
   obtain⟨t,rfl⟩:=rx
   cases y with
   | non=>cases ry;exact PySem.EqNone.eq_str_none (zbo I q (by simp))
   | bl j=>cases ry;exact PySem.EqMixed.eq_str_bool (zbo I q (by simp))
   | int j=>obtain⟨t',rfl⟩:=ry;exact PySem.EqMixed.eq_str_int (zbo I q (by simp))
   | str j=>obtain⟨t',rfl⟩:=ry;exact eq_str (zbo I q zx1)
   | _=>exact absurd (show false=true from hs) Qo
 | byt i=>
   obtain⟨t,rfl⟩:=rx
   cases y with
   | byt j=>obtain⟨t',rfl⟩:=ry;exact PySem.W.eq_bytes (zbo I q zx7)
   | _=>exact absurd (show false=true from hs) Qo
 | _=>cases y <;> exact absurd (show false=true from hs) Qo
theorem z1u:OpR X (Ub .Lt) (rI0 λi j=>.bl (decide (i<j))):=opB0 λ_ _ _ _ _ _ _ q=>lt_int q
theorem zvb:OpR X (Ub .Gt) (rI0 λi j=>.bl (decide (j<i))):=opB0 λ_ _ _ _ _ _ _ q=>gt_int q
theorem z1w:OpR X (Ub .GtE) (rI0 λi j=>.bl (decide (j<=i))):=opB0 λ_ _ _ _ _ _ _ q=>ge_int q
theorem zqr:OpR X (Ub .Is) (λx y H Q=>y = .non/\Q (.bl (decide (x = .non))) H):=by
 intro pins s σ H x y v u Q I rx ry h;obtain⟨rfl,q⟩:=h;cases ry;refine is_none_gen (zbo I q ?_)
 cases x <;> first
  | (cases rx;rfl)
  | (obtain⟨t,rfl⟩:=rx;rfl)
theorem OpR.or(h:OpR X f r)(h':OpR X f r'):OpR X f (λx y H Q=>r x y H Q\/r' x y H Q):=by
 intro pins s σ H x y v u Q I rx ry q;rcases q with q|q
 .exact h pins s σ H x y v u Q I rx ry q
 .exact h' pins s σ H x y v u Q I rx ry q
theorem zcp(b:Expr)(h:op≠.In:=by decide)(h2:op≠.NotIn:=by decide):VU op b=false:=by
 have e1:(op == CmpOp.In)=false:=by cases op <;> first|rfl|exact absurd rfl h
 have e2:(op == CmpOp.NotIn)=false:=by cases op <;> first|rfl|exact absurd rfl h2
 cases b <;> simp[VU,e1,e2]
theorem zxy(ho:OpR X (Ub op) r)(ha:PE X a ta)(hb:PE X b tb)(hm:VU op b=false):PE X (.Compare a [op] [b] pos) (tOp r ta tb):=by
 intro pins s σ H Q I h;exact wpAny_Compare1 (binT ha hb I h λv u s2 x y H2 I2 rx ry q=>ho pins s2 σ H2 x y v u Q I2 rx ry q) hm
def zfm(t:TE):TT:=λσ H Q=>t σ H λx H'=>∃k,x = .bl k/\Q k H'
theorem zex(ho:OpR X (Ub op) r)(ha:PE X a ta)(hb:PE X b tb)(hm:VU op b=false):PT X (.Compare a [op] [b] pos) (zfm (tOp r ta tb)):=by
 intro pins s σ H Q I h
 refine UH (thn (ha pins s σ H _ I h) λv s1 ⟨x,H1,I1,r1,q1⟩=>thn (hb pins s1 σ H1 _ I1 q1) λu s2 ⟨y,H2,I2,r2,q2⟩=>
  thn (ho pins s2 σ H2 x y v u _ I2 r1 r2 q2) λc s3 ⟨z,H3,I3,r3,k,e,q3⟩=>?_) hm
 subst e;cases r3;exact Uh ⟨H3,I3,q3⟩
def TruV(K:Qa)(x:V)(H:Hp)(k:Bool):Prop :=
 match x with
 | .non=>k=false
 | .bl b=>k=b
 | .int i=>k=(i != 0)
 | .str y=>y.length<=sizeLine/\k=((y.length:Int) != 0)
 | .byt y=>y.size<=sizeLine/\k=((y.size:Int) != 0)
 | .ref p=>(∃xs,SqL K H p xs/\k = !xs.isEmpty)\/(∃xs,SqT K H p xs/\k = !xs.isEmpty)\/∃kvs,H p=some (.dK kvs)/\k = !kvs.isEmpty
 | _=>False
theorem zo3{κ:Type}{kvs:List (κ×V)}{vs:List (κ×VJ)}(r:KV kvs vs):(!vs.isEmpty) = !kvs.isEmpty:=by
 cases r <;> rfl
theorem ziw(r:Vals xs its):(!its.toArray.isEmpty) = !xs.isEmpty:=by
 cases r <;> simp
theorem zf6:(sizeLine:Nat)<2 ^ 63:=by rw[VP];decide
theorem z0c:TruR X (λx H Q=>∃k,TruV X.K x H k/\Q k H):=by
 intro pins s σ H x v Q I rx h;obtain⟨k,e,q⟩:=h;have hl:=zf6;have hs:sizeLine=16777216:=VP
 cases x with
 | non=>
   cases rx;have e':k=false:=e;subst e';exact truthy_none ⟨H,I,q⟩
 | bl b=>
   cases rx;have e':k=b:=e;subst e';exact Uh ⟨H,I,q⟩
 | int i=>
   obtain⟨t,rfl⟩:=rx;have e':k=(i != 0):=e;subst e';exact PySem.P.truthy_int ⟨H,I,q⟩
 | str y=>
   obtain⟨t,rfl⟩:=rx;obtain⟨hy,e'⟩:y.length<=sizeLine/\k=((y.length:Int) != 0):=e;subst e';exact PySem.P.truthy_str (by lia) ⟨H,I.tok _,q⟩
 | byt y=>
   obtain⟨t,rfl⟩:=rx;obtain⟨hy,e'⟩:y.size<=sizeLine/\k=((y.size:Int) != 0):=e;subst e';exact PySem.W.truthy_bytes (by lia) ⟨H,I.tok _,q⟩
 | ref p=>
   cases rx;have e':(∃xs,SqL X.K H p xs/\k = !xs.isEmpty)\/(∃xs,SqT X.K H p xs/\k = !xs.isEmpty)\/∃kvs,H p=some (.dK kvs)/\k = !kvs.isEmpty:=e;rcases e' with ⟨xs,hx,e'⟩|⟨xs,hx,e'⟩|⟨kvs,hx,e'⟩
   .subst e';obtain⟨its,r,pl,hz⟩:=I.list hx;have hlen:=r.length;exact wpAny_truthy_list pl.isList (by simp only[Qq];lia) ⟨H,I.tok _,by rw[ziw r];exact q⟩
   .subst e';obtain⟨its,r,pl,hz⟩:=I.tuple hx;have hlen:=r.length;exact truthy_tuple pl (by simp only[Qq];lia) ⟨H,I.tok _,by rw[ziw r];exact q⟩
   .subst e';obtain⟨hz,hS,vs,r,m⟩:kvs.length<=sizeLine/\(p == Uj)=false/\∃vs,KV kvs vs/\s.heap.DictOf (za4 X.prog X.w) p vs:=I.hok p _ hx;have hlen:kvs.length=vs.length:=JC r;exact wpAny_truthy_dict hS m (by lia) ⟨H,I.tok _,by rw[zo3 r];exact q⟩
 | _=>exact(show False from e).elim
theorem zti(ha:PE X a ta)(he:∀whole,isTrue a X.env whole=(do let v <- whole;standAt a.pos;holding [v] (truthy v))):
 PT X a (λσ H Q=>ta σ H λx H'=>∃k,TruV X.K x H' k/\Q k H'):=by
 intro pins s σ H Q I h;exact isTrue_plain (thn (ha pins s σ H _ I h) λv s1 ⟨x,H1,I1,r1,q1⟩=>z0c pins s1 σ H1 x v Q I1 r1 q1) (he _)
theorem op_add_str:OpR X (binaryOp .Add) (λx y H Q=>∃i j,x = .str i/\y = .str j/\i.length+j.length<=sizeLine/\Q (.str (i++j)) H):=by
 intro pins s σ H x y v u Q I rx ry h;obtain⟨i,j,rfl,rfl,hz,q⟩:=h;obtain⟨t,rfl⟩:=rx;obtain⟨t',rfl⟩:=ry;exact add_str (λt' tk=>⟨.str (i++j),H,I.tok _,⟨_,rfl⟩,q⟩) hz
theorem zlb(r:Vals [x] us):∃u,us = [u]/\RelV x u:=by
 cases r with
 | cons r1 r2=>cases r2;exact⟨_,rfl,r1⟩
theorem zv6(r:Vals [x,y] us):∃u w',us = [u,w']/\RelV x u/\RelV y w':=by
 cases r with
 | cons r1 r2=>
   cases r2 with
   | cons r3 r4=>cases r4;exact⟨_,_,rfl,r1,r3⟩
theorem zqa(hc:X.calm=true):zca X (.builtin "max") (λxs H Q=>∃i j,xs = [.int i,.int j]/\Q (.int (if j > i then j else i)) H):=by
 intro pins s σ H xs us Q I r h;obtain⟨i,j,rfl,q⟩:=h;obtain⟨u,w',rfl,⟨t,rfl⟩,⟨t',rfl⟩⟩:=zv6 r;refine max_two_ints (I.ok.hd hc) λh' tk k=>⟨_,H,I.kept k,?_,q⟩
 by_cases hj:j > i
 .rw[Gm hj,Gm hj];exact⟨_,rfl⟩
 .rw[Gn hj,Gn hj];exact⟨_,rfl⟩
theorem zro(hc:X.calm=true):zca X (.builtin "min") (λxs H Q=>∃i j,xs = [.int i,.int j]/\Q (.int (if j<i then j else i)) H):=by
 intro pins s σ H xs us Q I r h;obtain⟨i,j,rfl,q⟩:=h;obtain⟨u,w',rfl,⟨t,rfl⟩,⟨t',rfl⟩⟩:=zv6 r;refine min_two_ints (I.ok.hd hc) λh' tk k=>⟨_,H,I.kept k,?_,q⟩
 by_cases hj:j<i
 .rw[Gm hj,Gm hj];exact⟨_,rfl⟩
 .rw[Gn hj,Gn hj];exact⟨_,rfl⟩
theorem zsa:zca X (.type "int") (λxs H Q=>(∃i,xs = [.int i]/\Q (.int i) H)\/∃k,xs = [.bl k]/\Q (.int (if k then 1 else 0)) H):=by
 intro pins s σ H xs us Q I r h;rcases h with ⟨i,rfl,q⟩|⟨k,rfl,q⟩
 .obtain⟨u,rfl,t,rfl⟩:=zlb r;exact call_int_int ⟨.int i,H,I,⟨_,rfl⟩,q⟩
 .obtain⟨u,rfl,r1⟩:=zlb r;cases r1;exact call_int_bool ⟨.int (if k then 1 else 0),H,I.tok _,⟨_,rfl⟩,q⟩
def LenV(K:Qa)(x:V)(H:Hp)(n:Nat):Prop :=
 match x with
 | .str y=>y.length<=sizeLine/\n=y.length
 | .byt y=>y.size<=sizeLine/\n=y.size
 | .ref p=>(∃xs,SqL K H p xs/\n=xs.length)\/∃xs,SqT K H p xs/\n=xs.length
 | _=>False
theorem zhr:zca X (.builtin "len") (λxs H Q=>∃x n,xs = [x]/\LenV X.K x H n/\Q (.int n) H):=by
 intro pins s σ H xs us Q I r h;obtain⟨x,n,rfl,e,q⟩:=h;obtain⟨u,rfl,rx⟩:=zlb r;have hl:=zf6;have hs:sizeLine=16777216:=VP
 cases x with
 | str y=>
   obtain⟨t,rfl⟩:=rx;obtain⟨hy,e'⟩:y.length<=sizeLine/\n=y.length:=e;subst e';exact len_str (by lia) ⟨.int _,H,I.tok _,⟨_,rfl⟩,q⟩
 | byt y=>
   obtain⟨t,rfl⟩:=rx;obtain⟨hy,e'⟩:y.size<=sizeLine/\n=y.size:=e;subst e';exact PySem.W.len_bytes (by lia) ⟨.int _,H,I.tok _,⟨_,rfl⟩,q⟩
 | ref p=>
   cases rx;have e':(∃xs,SqL X.K H p xs/\n=xs.length)\/∃xs,SqT X.K H p xs/\n=xs.length:=e;rcases e' with ⟨xs,hx,e'⟩|⟨xs,hx,e'⟩
   .subst e';obtain⟨its,r',pl,hz⟩:=I.list hx;have hlen:=r'.length;exact Calls.call_len_list pl.isList (by simp only[Qq];lia) ⟨.int xs.length,H,I.tok _,⟨_,by simp only[Qq];rw[hlen]⟩,q⟩
   .subst e';obtain⟨its,r',pl,hz⟩:=I.tuple hx;have hlen:=r'.length;exact len_tuple pl (by simp only[Qq];lia) ⟨.int xs.length,H,I.tok _,⟨_,by simp only[Qq];rw[hlen]⟩,q⟩
 | _=>exact(show False from e).elim
end
structure ObjM(h:Heap)(x dx C:Addr)(mA:Str->Option VJ):Prop where
 obj:h.get? x=some (Ys C dx)
 ns:h.Ns1 dx mA
 ne:dx≠x
theorem zrr{h:Heap}{dx:Addr}{mA:Str->Option VJ}(n:h.Ns1 dx mA):∃od,h.get? dx=some od/\∀name,Y4 name od=some (mA name):=by
 obtain⟨o,es,ep,ho,hd,hk,_,hm⟩:=n;refine⟨o,ho,λname=>?_⟩;have e:=hm name;unfold nsFind findBy at e;rw[<- Array.find?_toList] at e;unfold Y4;rw[hd];dsimp only
 split
 .rename_i y q
  rw[q] at e;exact Gr some e
 .rename_i q
  rw[q] at e
  have a:es.toList.any (·.refKey)=false:=by
   rw[List.any_eq_false];intro y hy;obtain⟨z,t,hkey⟩:=hk y (Array.mem_toList_iff.mp hy);simp[DictEntry.refKey,hkey]
  have a':¬es.toList.any (·.refKey)=true:=by rw[a];exact Qo
  rw[Gn a'];exact Gr some e
theorem ObjM.look(I:ObjM h x dx C mA):∃od,PySem.W.InstAt h x (Ys C dx) C (some od)/\∀name,Y4 name od=some (mA name) :=
 let ⟨od,ho,hl⟩:=zrr I.ns
 ⟨od,⟨I.obj,rfl,rfl,ho⟩,hl⟩
theorem RelO.some_of(r:RelO (some v) o):∃u,o=some u/\RelV v u:=by
 cases o with
 | none=>exact(show False from r).elim
 | some u=>exact⟨u,rfl,r⟩
section
variable {P:VO}{w:VR}{H H':Hp}{h h':Heap}{a C dx:Addr}{fs fs':List (Str×V)}
theorem zxi(hok:HOk P w H h)(e:H a=some (.ins C dx fs)):∃mA,ObjM h a dx C mA/\(∀f,RelO (fs.lookup f) (mA f))/\VC mA (fs.map (·.1))/\fs.length<=1000/\H dx=some (.own a):=by
 obtain⟨d,z,ne,ob,mA,n,r,q⟩:=(show ObjOk P w H h a (.ins C dx fs) from hok a _ e);exact⟨mA,⟨ob,n,ne⟩,r,q,z,d⟩
end
structure Cls(K:Qa)(C:Addr):Prop where
 pg:Vi K C Str.empty=true
 hd:PySem.W.hasDictIn K C=true
 po:PySem.W.plainOver K C=true
 sa:Vy K (.ref C) "__setattr__" = some (some (.builtin "object.__setattr__"))
theorem Cls.get{K:Qa}{C:Addr}(c:Cls K C)(f:Str):Vi K C f=true:=c.pg
section
variable {X:Cx}{pins:List (Addr×Obj)}{σ:St}{H:Hp}{s:VN}{A:VY}{E:VJ->VN->Prop}{Q:VJ->VN->Prop}{c:VJ}{b:Bool}
inductive TyOf(K:Qa)(H:Hp):V->VJ->Prop where
 | non:TyOf K H .non (.type "NoneType")
 | bl (x:Bool):TyOf K H (.bl x) (.type "bool")
 | int (i:Int):TyOf K H (.int i) (.type "int")
 | str (x:Str):TyOf K H (.str x) (.type "str")
 | flt (x:UInt64):TyOf K H (.flt x) (.type "float")
 | lst {a:Addr} {xs:List V} (e:H a=some (.lst xs)):TyOf K H (.ref a) (.type "list")
 | frz {a:Addr} {o:Obj} {xs:List V} (e:H a=some (.frz o (.lst xs))):TyOf K H (.ref a) (.type "list")
 | tup {a:Addr} {xs:List V} (e:H a=some (.tup xs)):TyOf K H (.ref a) (.type "tuple")
 | dK {a:Addr} {kvs:List (Key×V)} (e:H a=some (.dK kvs)):TyOf K H (.ref a) (.type "dict")
 | dT {a:Addr} {kvs:List (List Key×V)} (e:H a=some (.dT kvs)):TyOf K H (.ref a) (.type "dict")
 | ins {a C dx:Addr} {fs:List (Str×V)} (e:H a=some (.ins C dx fs)) (cl:Cls K C) (ha:Vy K (.ref C) "__class__" = some (some (.builtin "object.__class__")))
  (hn:PySem.W.specialIn K (.builtin "object.__class__") "__get__" = some (some (.builtin "getset_descriptor.__get__"))) (htk:PySem.W.takesIn K (.builtin "object.__class__")=some true)
  (hm:PySem.W.mroIn K C (.type "object")=some true):TyOf K H (.ref a) (.ref C)
theorem zdk{t:VJ}(I:Inv X pins σ H s)(rx:RelV x u)(ty:TyOf X.K H x t)(e:Vz X.K t c=some b)(h:∀tk,Q (.bool b) { s with toks:=tk }):
 wpAny (model X.prog X.w) A (call (.builtin "isinstance") [u,c]) Q E s:=by
 cases ty with
 | non=>cases (show u=Jl from rx);exact Zc PySem.W.kitx_none I.kIn Z1 e (λz=>nomatch z) h
 | bl y=>cases (show u=ZJ y from rx);exact Zc PySem.W.kitx_bool I.kIn Z1 e (λz=>nomatch z) h
 | int i=>obtain⟨t,q⟩:=(show ∃t,u=Vg i t from rx);cases q;exact Zc PySem.W.kitx_int I.kIn Z1 e (λz=>nomatch z) h
 | str y=>obtain⟨t,q⟩:=(show ∃t,u=Vh y t from rx);cases q;exact Zc PySem.W.kitx_str I.kIn Z1 e (λz=>nomatch z) h
 | flt y=>obtain⟨t,q⟩:=(show ∃t,u=Value.float y t from rx);cases q;exact Zc PySem.W.kitx_float I.kIn Z1 e (λz=>nomatch z) h
 | @lst a xs ea=>
   cases (show u=QS a from rx);obtain⟨_,_,n,_,h1⟩:=(show ObjOk X.prog X.w H s.heap a (.lst xs) from I.hok a _ ea);exact Zc YR I.kIn ⟨_,h1,rfl⟩ e (λz=>nomatch z) h
 | @frz a ob xs ea=>
   cases (show u=QS a from rx);obtain⟨_,_,_,n,_,h1⟩:=(show ObjOk X.prog X.w H s.heap a (.frz ob (.lst xs)) from I.hok a _ ea);exact Zc YR I.kIn ⟨_,h1,rfl⟩ e (λz=>nomatch z) h
 | @tup a xs ea=>
   cases (show u=QS a from rx);obtain⟨_,_,_,p⟩:=(show ObjOk X.prog X.w H s.heap a (.tup xs) from I.hok a _ ea);obtain⟨o,h1,h2,_⟩:=p;exact Zc YI I.kIn ⟨o,h1,h2⟩ e (λz=>nomatch z) h
 | @dK a kvs ea=>
   cases (show u=QS a from rx);obtain⟨_,_,vs,_,p⟩:=(show ObjOk X.prog X.w H s.heap a (.dK kvs) from I.hok a _ ea);obtain⟨o,es,ep,h1,h2,_⟩:=p;exact Zc YS I.kIn ⟨o,h1,h2.1⟩ e (λz=>nomatch z) h
 | @dT a kvs ea=>
   cases (show u=QS a from rx);obtain⟨_,_,xs,_,o,es,ep,h1,h2,_⟩:=(show ObjOk X.prog X.w H s.heap a (.dT kvs) from I.hok a _ ea);exact Zc YS I.kIn ⟨o,h1,h2.1⟩ e (λz=>nomatch z) h
 | @ins a C dx fs ea cl ha hn htk hm=>
   cases (show u=QS a from rx);obtain⟨mA,O,_⟩:=zxi I.hok ea;obtain⟨od,J,_⟩:=O.look;exact Zc (PySem.W.kitx_own (cl.get _) cl.hd ha hn htk hm) I.kIn J e (λz=>nomatch z) h
end
structure Room(k:Nat)(A:VY):Prop where
 hd:A.handled=none
 dp:A.depth+3 * k+5<recursionLimit
 un:A.units+16 * k+200<U5
 gd:A.guards=some []
theorem Room.mono{j k:Nat}(r:Room k A)(h:j<=k):Room j A:=⟨r.hd,by have:=r.dp;lia,by have:=r.un;lia,r.gd⟩
theorem Room.deeper{k:Nat}(r:Room (k+1) A)(env:Env):Room k (A.deeper env) :=
 ⟨r.hd,by have:=r.dp;show A.depth+1+3 * k+5<_;lia,by have:=r.un;show A.units+3+16 * k+200<_;lia,r.gd⟩
theorem Room.depth{k:Nat}(r:Room k A):A.depth<recursionLimit:=by have:=r.dp;lia
theorem Room.units{k:Nat}(r:Room k A):A.units+64<U5:=by have:=r.un;lia
def tNil:TA:=λ_ H Q=>Q [] H
def zaw(ta:TE)(tr:TA):TA:=λσ H Q=>ta σ H λx H1=>tr σ H1 λxs H2=>Q (x::xs) H2
section
variable {X:Cx}{e:Expr}{es:List Expr}{te:TE}{t:TA}{pos:Pos}
theorem zbj:PA X [] tNil:=λ_ _ _ _ H Q I h=>ZA ⟨[],H,I,.nil,h⟩
theorem zas(ha:PE X e te)(hr:PA X es t)(hs:VM (e::es) X.env=(false,eval e X.env)::VM es X.env:=by rfl):PA X (e::es) (zaw te t):=by
 intro pos pins s σ H Q I h;rw[hs];show wpAny _ _ (UW ((false,eval e X.env)::Ui pos (VM es X.env))) _ _ s;refine Zm (thn (ha pins s σ H _ I h) λu s1 zz=>?_);obtain⟨x,H1,I1,r1,q1⟩:=zz;exact thn (hr pos pins s1 σ H1 _ I1 q1) λus s2 ⟨xs,H2,I2,r2,q2⟩=>⟨x::xs,H2,I2,.cons r1 r2,q2⟩
def tTup(t:TA):TE:=λσ H Q=>t σ H λxs H1=>xs.length<=sizeLine/\∀p,H1 p=none->Q (.ref p) (upd H1 p (.tup xs))
def tLst(t:TA):TE:=λσ H Q=>t σ H λxs H1=>xs.length<=sizeLine/\∀p,H1 p=none->Q (.ref p) (upd H1 p (.lst xs))
theorem zse{x1}(h:PA X es t):PE X (.Tuple es x1 pos) (tTup t):=by
 intro pins s σ H Q I hq;refine wpAny_Tuple_spliced (thn (h pos pins s σ H _ I hq) λus s1 ⟨xs,H1,I1,r,z,q⟩=>⟨by rw[<- r.length];exact z,?_⟩);have hf:H1 s1.heap.objs.size=none:=I1.hok.fresh (Qe _);refine⟨.ref s1.heap.objs.size,upd H1 s1.heap.objs.size (.tup xs),I1.laid (t':=s1.toks) (λb u e=>Qg _ e) (Qe _) ?_,rfl,q _ hf⟩;exact⟨z,us,r,⟨_,Qv _ rfl,rfl,_,rfl⟩⟩
theorem z0r(h:PA X es t):PE X (.List es pos) (tLst t):=by
 intro pins s σ H Q I hq;refine wpAny_List_spliced (thn (h pos pins s σ H _ I hq) λus s1 ⟨xs,H1,I1,r,z,q⟩=>⟨by rw[<- r.length];exact z,?_⟩);have hf:H1 s1.heap.objs.size=none:=I1.hok.fresh (Qe _);refine⟨.ref s1.heap.objs.size,upd H1 s1.heap.objs.size (.lst xs),I1.laid (t':=s1.toks) (λb u e=>Qg _ e) (Qe _) ?_,rfl,q _ hf⟩;exact⟨z,us,0,r,Qv _ rfl⟩
end
abbrev Sp:=List V->Hp->VK->XK->Prop
abbrev CXT:=List Env->Hp->VN->XK->VJ->VN->Prop
structure Env0(P:VO)(w:VR)(K:Qa)(mg:Str->Option VJ)(base:Heap)(A:VY)(outer:List Env)(s:VN)(H:Hp):Prop where
 frames:A.frames=some outer
 mod:Mod K mg base
 bs:∀b o,base.get? b=some o->s.heap.get? b=some o/\H b=none
 bsz:base.objs.size<=s.heap.objs.size
 funs:s.heap.FunFrames base outer
 frf:∀b∈frs outer,H b=none
 hok:HOk P w H s.heap
 bare:U4 s.gens
def CE(outer:List Env)(P:VO)(w:VR)(H:Hp)(s:VN)(Q:VK)(u:VJ)(s':VN):Prop :=
 ∃v H',s'.os=s.os/\U4 s'.gens/\Un (frs outer) [] H H' s.heap s'.heap/\HOk P w H' s'.heap/\RelV v u/\Q v H'
def CR(CX:CXT)(outer:List Env)(P:VO)(w:VR)(H:Hp)(s:VN)(Q:VK)(E:XK)(r:Result)(s':VN):Prop :=
 match r with
 | .ok (.ret u)=>CE outer P w H s Q u s'
 | .ok _=>False
 | .error e=>CX outer H s E e s'
structure FnOk(P:VO)(w:VR)(K:Qa)(mg:Str->Option VJ)(base:Heap)(CX:CXT)(k:Nat)(f:Addr)(fd:Us)(ps:List Str)(sp:Sp):Prop where
 len:∀vs H Q E,sp vs H Q E->vs.length=ps.length
 run:∀(A:VY) (outer:List Env) (s:VN) (H:Hp) (args:Args) (us:List VJ) (vs:List V) (Q:VK) (E:XK),Room k A->Env0 P w K mg base A outer s H->US s fd args (ps.zip us)->Vals vs us->sp vs H Q E ->
  UT (model P w) A (.call (.ref f) args) (CR CX outer P w H s Q E) s
theorem FnOk.mono{P:VO}{w:VR}{K:Qa}{mg:Str->Option VJ}{base:Heap}{CX:CXT}{j k:Nat}{f:Addr}{fd:Us}{ps:List Str}{sp:Sp}(F:FnOk P w K mg base CX j f fd ps sp)(h:j<=k):
 FnOk P w K mg base CX k f fd ps sp:=⟨F.len,λA outer s H args us vs Q E hr=>F.run A outer s H args us vs Q E (hr.mono h)⟩
section
variable {X:Cx}{pins:List (Addr×Obj)}{σ:St}{H:Hp}{s s':VN}
theorem Inv.env0(I:Inv X pins σ H s):Env0 X.prog X.w X.K X.mg X.base X.A X.stack s H :=
 ⟨I.ok.frames,I.ok.mod,I.bs,Q3 I.ok.bsz I.sz,I.stack,I.stkFree,I.hok,I.bare⟩
theorem Inv.after(I:Inv X pins σ H s)(h:CE X.stack X.prog X.w H s Q u s'):EP X pins σ Q u s':=by
 obtain⟨v,H',os,bare,un,hok,r,q⟩:=h;obtain⟨hh,g,d,t,os'⟩:=s';obtain rfl:os'=s.os:=os;exact⟨v,H',I.call (h':=hh) (g':=g) (d':=d) (t':=t) (ch:=[]) un hok bare (λb z=>absurd z (by simp)),r,q⟩
end
def zbp(sp:Sp)(dvs:List V)(E:XK)(t:TA):TE:=λσ H Q=>t σ H λvs H1=>sp (vs++dvs) H1 Q E
def Binds(K:Qa)(fd:Us)(ps:List Str)(ds:List VJ):Prop :=
 ∀(s:VN) (us:List VJ),K.In s.heap->(us++ds).length=ps.length->US s fd ⟨us,[]⟩ (ps.zip (us++ds))
theorem Binds.all{K:Qa}{fd:Us}{ps:List Str}(h:∀us:List VJ,us.length=ps.length->Uc fd ⟨us,[]⟩=pure (ps.zip us)):Binds K fd ps []:=λs us _ hl=>by
 rw[QJ] at hl ⊢;exact .of_eq (h us hl)
def zlp(CX:CXT)(X:Cx)(E:XK):Prop:=∀(pins:List (Addr×Obj)) (σ:St) (H:Hp) (s:VN) (e:VJ) (s':VN),Inv X pins σ H s->CX X.stack H s E e s'->X.xe e s'
section
variable {X:Cx}{CX:CXT}{k:Nat}{f C:Addr}{fd:Us}{ps:List Str}{sp:Sp}{dvs:List V}{ds:List VJ}{E:XK}{x m:Str}{p pos apos:Pos}{e o:Expr}{es:List Expr}{ta:TE}{t:TA}
theorem zyq{pins:List (Addr×Obj)}(F:FnOk X.prog X.w X.K X.mg X.base CX k f fd ps sp)(hr:Room k X.A)(hb:Binds X.K fd ps ds)(hd:Vals dvs ds)(hx:zlp CX X E)
 (I:Inv X pins σ H s) (r:Vals vs us) (h:sp (vs++dvs) H Q E):wpAny (model X.prog X.w) X.A (call (.ref f) us) (EP X pins σ Q) X.xe s:=by
 have r2:Vals (vs++dvs) (us++ds):=r.append hd;have hl:(us++ds).length=ps.length:=by rw[<- r2.length];exact F.len _ _ _ _ h
 refine wpAny_call (UU (F.run X.A X.stack s H ⟨us,[]⟩ (us++ds) (vs++dvs) Q E hr I.env0 (hb s us I.kIn hl) r2 h) λr s' hq=>?_)
 cases r with
 | error e=>exact hx pins σ H s e s' I hq
 | ok fl=>
   cases fl with
   | ret u=>exact I.after hq
   | next=>exact ZK hq
   | brk=>exact ZK hq
   | cont=>exact ZK hq
theorem zb7(F:FnOk X.prog X.w X.K X.mg X.base CX k f fd ps sp)(hr:Room k X.A)(hg:Gl X x)(hm:X.mg x=some (.ref f))(hk:ZV X.K (.ref f)=true)(hb:Binds X.K fd ps ds)(hd:Vals dvs ds)(hx:zlp CX X E)
 (ha:PA X (e::es) t) (hdb:(x == ("__debug__" : Str))=false:=by decide) (he:VM (e::es) X.env=(false,eval e X.env)::VM es X.env:=by rfl) (hpl:(Ui pos (VM es X.env)).any (·.1)=false:=by rfl) :
 PE X (.Call (.Name x p) (e::es) [] pos) (zbp sp dvs E t):=by
 intro pins s σ H Q I h;refine Ue (zwt I hg hm ?_ hdb);refine PySem.W.callWith_K (h₀:=X.base) I.ok.mod.kin hk (thn (ha pos pins s σ H _ I h) λus s1 ⟨vs,H1,I1,r,q⟩=>⟨I1.kIn,?_⟩) he hpl;exact zyq F hr hb hd hx I1 r q
end
structure FnScope(N P:List Str)(sc:Uo):Prop where
 kind:sc.kind = .function
 co:sc.isCoroutine=false
 gen:sc.isGenerator=false
 nd:N.Nodup
 pre:N.take P.length=P
 par:∀x∈P,sc.names.lookup x=some .local\/sc.names.lookup x=some .cell
 nofree:∀y∈sc.names,y.2≠.free
theorem zkh{kindOf:Str->Option Up}: ∀{binds:List (Str×VJ)} {m:Str->Option VJ},(∀v,(x,v) ∉ binds)->Gj kindOf binds m x=m x
 | [],_,_=>rfl
 | (n,v)::r,m,h=>by
   unfold Gj;rw[zkh λw hw=>h w (Qc _ hw)]
   split
   .have:x≠n:=by rintro rfl;exact h v Qm
    simp[this]
   .rfl
theorem zkd{kindOf:Str->Option Up}: ∀{binds:List (Str×VJ)} {m:Str->Option VJ},(∀v,(x,v) ∉ binds)->Gi kindOf binds m x=m x
 | [],_,_=>rfl
 | (n,v)::r,m,h=>by
   unfold Gi;rw[zkd λw hw=>h w (Qc _ hw)]
   split
   .rfl
   .have:x≠n:=by rintro rfl;exact h v Qm
    simp[this]
theorem zkb{kindOf:Str->Option Up}: ∀{P:List Str} {vs:List VJ} {i:Nat} {m:Str->Option VJ},P.Nodup->P[i]? = some x->vs[i]? = some v->kindOf x=some .local ->
 Gj kindOf (P.zip vs) m x=some v
 | [],_,_,_,_,h,_,_=>by simp at h
 | _::_,[],_,_,_,_,h,_=>by simp at h
 | p::P,w::vs,0,m,nd,h1,h2,hk=>by
   simp at h1 h2;subst h1;subst h2;show Gj kindOf ((p,w)::P.zip vs) m p=_;unfold Gj;rw[zkh λv hv=>(Zr.mp nd).1 (Yt hv).1,Gm hk];simp
 | p::P,w::vs,i+1,m,nd,h1,h2,hk=>by
   show Gj kindOf ((p,w)::P.zip vs) m x=_;unfold Gj;exact zkb (i:=i) (Zr.mp nd).2 (by simpa using h1) (by simpa using h2) hk
theorem zkl{kindOf:Str->Option Up}: ∀{P:List Str} {vs:List VJ} {i:Nat} {m:Str->Option VJ},P.Nodup->P[i]? = some x->vs[i]? = some v->kindOf x≠some .local ->
 Gi kindOf (P.zip vs) m x=some v
 | [],_,_,_,_,h,_,_=>by simp at h
 | _::_,[],_,_,_,_,h,_=>by simp at h
 | p::P,w::vs,0,m,nd,h1,h2,hk=>by
   simp at h1 h2;subst h1;subst h2;show Gi kindOf ((p,w)::P.zip vs) m p=_;unfold Gi;rw[zkd λv hv=>(Zr.mp nd).1 (Yt hv).1,Gn hk];simp
 | p::P,w::vs,i+1,m,nd,h1,h2,hk=>by
   show Gi kindOf ((p,w)::P.zip vs) m x=_;unfold Gi;exact zkl (i:=i) (Zr.mp nd).2 (by simpa using h1) (by simpa using h2) hk
def start(N:List Str)(vs:List V):St:=vs.map some++Qh (N.length-vs.length) none
def cxOf(CX:CXT)(P:VO)(w:VR)(K:Qa)(mg:Str->Option VJ)(base:Heap)(N:List Str)(qual:Str)(scope:Uo)(f:Addr)(cd:VJ)(A:VY)(outer:List Env)(s:VN)(H:Hp)(E:XK):Cx where
 prog:=P
 w:=w
 K:=K
 mg:=mg
 base:=base
 A:=A.deeper (UB qual scope s.heap.objs.size f cd)
 N:=N
 s₀:=s
 H₀:=H
 env:=UB qual scope s.heap.objs.size f cd
 outer:=outer
 stack:=UB qual scope s.heap.objs.size f cd::outer
 ex:=[]
 calm:=true
 fn:=λ_=>true
 pn:=[]
 xe:=λe s'=>wpAny (model P w) (A.deeper (UB qual scope s.heap.objs.size f cd)) (leaving (UB qual scope s.heap.objs.size f cd) e) (λ_ s''=>CX outer H s E e s'') (λe' s''=>CX outer H s E e' s'') s'
theorem zl2{sc:Uo}{n:Nat}{x:Str}(h:sc.names.lookup x=some .cell):∃c,(Ud n sc.names []).lookup x=some c:=by
 have q:=Jt sc.names n [] (.inl h);exact Zk.mp q
theorem zp7{CX:CXT}{P:VO}{w:VR}{K:Qa}{mg:Str->Option VJ}{base:Heap}{N ps:List Str}{qual:Str}{scope:Uo}{f:Addr}{cd:VJ}{A:VY}{outer:List Env}{s s1:VN}{H:Hp}{E:XK}{us:List VJ}{vs:List V}
 (S:FnScope N ps scope) (hd:A.handled=none) (e0:Env0 P w K mg base A outer s H) (hl:vs.length=ps.length) (r:Vals vs us)
 (x:InCallC s s.heap.objs.size (Gj (UB qual scope s.heap.objs.size f cd).kindOf (ps.zip us) λ_=>none) (Ud (s.heap.objs.size+1) scope.names []) (Gi (UB qual scope s.heap.objs.size f cd).kindOf (ps.zip us) λ_=>none) s1) :
 Inv (cxOf CX P w K mg base N qual scope f cd A outer s H E) [] (start N vs) H s1:=by
 have hpl:ps.length<=N.length:=by have:=Gr Vr S.pre;rw[QT] at this;lia
 obtain⟨h1,tk,rfl,hk⟩:=x.done;have noA:∀b:Addr,b ∉ (cxOf CX P w K mg base N qual scope f cd A outer s H E).ex:=λb z=>absurd (show b∈([]:List Addr) from z) (by simp)
 refine⟨⟨e0.mod,S.kind,rfl,rfl,Qe _,λy z c h1 h2=>?_,λy hy=>?_,λy c _ h=>?_,λ_=>hd,Around.frames_deeper e0.frames,.inr ⟨rfl,rfl⟩,λb z=>absurd z (noA b),e0.bs,e0.bsz,λb _ _=>noA b,λb z=>absurd z (noA b),e0.funs,e0.frf⟩,
  rfl,e0.bare,Un.kept hk,⟨_,x.toInCall.ns,λi y v h1 h2 h3=>?_⟩,λy c h=>⟨_,x.cell y c h⟩,e0.hok.fresh (Qe _),λy c h=>?_,λp hp=>absurd (show p∈([]:List (Addr×Obj)) from hp) (by simp),e0.hok.kept hk,?_⟩
 .exact name_of_addr x.apart (Zi h1) (Zi h2)
 .have hy:scope.names.lookup y=some .cell\/scope.names.lookup y=some .free:=hy;rcases hy with hy|hy
  .exact zl2 hy
  .exact absurd rfl (S.nofree _ (Zi hy))
 .exact Yn (x.above y c (Zi h))
 .have hi:i<vs.length:=by
   unfold start at h2
   by_cases hi:i<vs.length
   .exact hi
   .rw[Q7 (by simpa using hi)] at h2;rw[QU] at h2
    split at h2 <;> cases h2
  have ha:vs[i]? = some v:=by
   unfold start at h2;rw[Qy (by simpa using hi),Qj] at h2
   cases e:vs[i]? with
   | none=>rw[e] at h2;cases h2
   | some a=>rw[e] at h2;cases h2;rfl
  obtain⟨u,hu,rv⟩:=r.get ha
  have hp:ps[i]? = some y:=by
   rw[<- S.pre,List.getElem?_take_of_lt (by lia)];exact h1
  have ndP:ps.Nodup:=by rw[<- S.pre];exact S.nd.sublist (List.take_sublist _ _)
  refine⟨u,rv,?_⟩;rcases S.par y (Qw hp) with k|k
  .exact .inl ⟨k,zkb ndP hp hu k⟩
  .obtain⟨c,e⟩:=zl2 (n:=s.heap.objs.size+1) k;refine .inr ⟨.inl k,c,e,?_⟩;have q:=x.cell y c e;rw[zkl ndP hp hu (by show scope.names.lookup y≠_;rw[k];decide)] at q;exact q
 .exact e0.hok.fresh (Yn (x.above y c (Zi h)))
 .unfold start;show _=N.length;rw[Qi,Qb,QG];lia
theorem z2a{CX:CXT}{P:VO}{w:VR}{K:Qa}{mg:Str->Option VJ}{base:Heap}{k:Nat}{f:Addr}{name qual:Str}{params:Arguments}{body:List Stmt}{scope:Uo}{dV kV doc pm cdv ct oc:VJ}{an od:Option Addr}
 {osl:Array (Option VJ)} {N ps:List Str} {sp:Sp} (lk:K.lookup f=some ⟨oc,od,.func (Zb name qual params body scope dV kV doc pm an cdv ct),osl⟩) (hcd:Ju K cdv qual=true) (S:FnScope N ps scope)
 (len:∀vs H Q E,sp vs H Q E->vs.length=ps.length)
 (hbody:∀(A:VY) (outer:List Env) (s:VN) (H:Hp) (vs:List V) (Q:VK) (E:XK),Room k (A.deeper (UB qual scope s.heap.objs.size f cdv))->sp vs H Q E ->
  ∃t,PSs (cxOf CX P w K mg base N qual scope f cdv A outer s H E) body t/\t { nx:=λ_ H'=>Q .non H',rt:=Q } (start N vs) H) :
 FnOk P w K mg base CX (k+1) f (Zb name qual params body scope dV kV doc pm an cdv ct) ps sp:=by
 refine⟨len,λA outer s H args us vs Q E hr e0 hb r hsp=>?_⟩;have hl:=len _ _ _ _ hsp;have KX:K.In s.heap:=e0.mod.kin.keeps λb o e=>(e0.bs b o e).1;have lim:s.heap.NoLimit:=e0.mod.nolimit.keeps λb o e=>(e0.bs b o e).1
 have hkind:∀y∈ps.zip us,scope.names.lookup y.1=some .local\/(scope.names.lookup y.1=some .cell/\((Ud (s.heap.objs.size+1) scope.names []).lookup y.1).isSome=true):=λ⟨n,v⟩ hy=>by
  rcases S.par n (Yt hy).1 with q|q
  .exact .inl q
  .exact .inr ⟨q,Jt _ _ _ (.inl q)⟩
 refine codeAny_call_function hr.depth (KX _ _ lk) rfl S.co S.gen rfl (PySem.W.codeRec_of KX hcd) (hb _ _ _ _ ?_);refine wpAny_newFunctionEnv_cells S.kind hkind λenv he s1 x=>?_;subst he;refine⟨lim.keeps x.toInCall.keep,codeAny_func ?_⟩;obtain⟨t,ht,hq⟩:=hbody A outer s H vs Q E (hr.deeper _) hsp;have I:Inv (cxOf CX P w K mg base N qual scope f cdv A outer s H E) [] (start N vs) H s1:=zp7 S hr.hd e0 hl r x;refine Uk (ht [] s1 (start N vs) H _ I hq) (λfl s' hs=>?_) λe s' hs=>hs
 have fin:∀{σ':St} {H':Hp} {v:V} {u:VJ},Inv (cxOf CX P w K mg base N qual scope f cdv A outer s H E) [] σ' H' s'->RelV v u->Q v H'->CE outer P w H s Q u s' :=
  λ{σ' H' v u} J rv q=>⟨v,H',J.os,J.bare,J.base,J.hok,rv,q⟩
 cases fl with
 | ret u=>
   obtain⟨v,σ',H',J,rv,q⟩:=hs;exact fin J rv q
 | next=>
   obtain⟨σ',H',J,q⟩:=hs;exact fin (v:=V.non) (u:=Jl) J rfl q
 | brk=>
   obtain⟨_,_,_,q⟩:=hs;exact ZK q
 | cont=>
   obtain⟨_,_,_,q⟩:=hs;exact ZK q
section
variable {X:Cx}{x:Str}{p pos:Pos}{e:Expr}{es:List Expr}{t:TA}{id T:String}{r:List V->Hp->VK->Prop}
def tCB(r:List V->Hp->VK->Prop)(t:TA):TE:=λσ H Q=>t σ H λvs H1=>r vs H1 Q
theorem zd8(hc:zca X (.builtin id) r)(hg:Gl X x)(hm:X.mg x=none)(hv:VS x=some (.builtin id))(ha:PA X (e::es) t)(hn:x ≠ "__name__" := by decide)(hdb:(x == ("__debug__" : Str))=false:=by decide)
 (he:VM (e::es) X.env=(false,eval e X.env)::VM es X.env:=by rfl) (hpl:(Ui pos (VM es X.env)).any (·.1)=false:=by rfl):PE X (.Call (.Name x p) (e::es) [] pos) (tCB r t):=by
 intro pins s σ H Q I h;refine Ue (zcn I hg hm hv ?_ hn hdb);exact J5 (thn (ha pos pins s σ H _ I h) λus s1 ⟨vs,H1,I1,r1,q1⟩=>hc pins s1 σ H1 vs us Q I1 r1 q1) he hpl
theorem zf5(hc:zca X (.type T) r)(hg:Gl X x)(hm:X.mg x=none)(hv:VS x=some (.type T))(ha:PA X (e::es) t)(hn:x ≠ "__name__" := by decide)(hdb:(x == ("__debug__" : Str))=false:=by decide)
 (he:VM (e::es) X.env=(false,eval e X.env)::VM es X.env:=by rfl) (hpl:(Ui pos (VM es X.env)).any (·.1)=false:=by rfl):PE X (.Call (.Name x p) (e::es) [] pos) (tCB r t):=by
 intro pins s σ H Q I h;refine Ue (zcn I hg hm hv ?_ hn hdb);exact QQ (thn (ha pos pins s σ H _ I h) λus s1 ⟨vs,H1,I1,r1,q1⟩=>hc pins s1 σ H1 vs us Q I1 r1 q1) he hpl
end
end L2
namespace HT
open PySem PyProof.Rows
section
variable {prog:VO}{w:VR}{A:VY}{E:VJ->VN->Prop}{s:VN}
theorem cat_tup{t:Addr}(ht:IsTup s.heap t vs.toArray)(hb:IsTup s.heap b ws.toArray)(hv:vs≠[])
 (h1:ws = []->Q (.ref t) s) (h2:ws≠[]->Q (.ref s.heap.objs.size) { s with heap:=s.heap.push { cls:=.type "tuple",data:=.seq (vs++ws).toArray } })
 (hsz:vs.length+ws.length<=sizeLine):wpAny (model prog w) A (binaryOp .Add (.ref t) (.ref b)) Q E s:=by
 obtain⟨⟨cls,dd,data,sl⟩,ho,hc,n,hd⟩:=id ht;obtain⟨⟨cls2,dd2,data2,sl2⟩,ho2,hc2,n2,hd2⟩:=id hb;simp only at hc hd hc2 hd2;subst hc hd hc2 hd2;have e:vs.toArray++ws.toArray=(vs++ws).toArray:=by simp
 by_cases hw:ws = []
 .exact UV ⟨_,ho,rfl⟩ ⟨_,ho2,rfl⟩ U7 UO Jv Jp (Jd _ _)
   (tuple_addW1 t b vs.toArray ws.toArray n n2 dd dd2 sl sl2 (by simpa using hv) (by simp[hw])) ⟨ho,ho2,h1 hw⟩
 .refine UV ⟨_,ho,rfl⟩ ⟨_,ho2,rfl⟩ U7 UO Jv Jp (Jd _ _)
   (tuple_addW2 t b vs.toArray ws.toArray n n2 dd dd2 sl sl2 (by simpa using hv) (by simpa using hw) (by rw[Qq,Qq];exact hsz)) ⟨ho,ho2,?_⟩
  rw[e];exact h2 hw
def sIx(n d:Nat):Option Int->Nat
 | none=>d
 | some v=>if v<0 then(v+(n:Int)).toNat else min v.toNat n
theorem sIx_le(n d:Nat)(hd:d<=n)(o:Option Int):sIx n d o<=n:=by
 cases o with
 | none=>exact hd
 | some v=>
   show(if v<0 then(v+(n:Int)).toNat else min v.toNat n)<=n
   by_cases hv:v<0
   .rw[Gm hv];lia
   .rw[Gn hv];exact Nat.min_le_right _ _
theorem clip_eq(v:Int)(n d:Nat):(if v<0 then max (v+(n:Int)) 0 else min v (n:Int))=((sIx n d (some v):Nat):Int):=by
 show(if v<0 then max (v+(n:Int)) 0 else min v (n:Int))=(((if v<0 then(v+(n:Int)).toNat else min v.toNat n):Nat):Int)
 by_cases hv:v<0
 .simp only[Gm hv];lia
 .simp only[Gn hv];lia
theorem zo0(lo hi:Option Int)(n:Nat):Jb lo hi 1 (n:Int)=(((sIx n 0 lo:Nat):Int),((sIx n n hi:Nat):Int)):=by
 have h1:¬((1:Int)<0):=by lia
 unfold Jb;simp only[h1,Gv];refine Prod.ext ?_ ?_
 .cases lo with
  | none=>rfl
  | some v=>exact clip_eq v n 0
 .cases hi with
  | none=>rfl
  | some v=>exact clip_eq v n n
theorem zox(i j:Nat):Z6 (i:Int) (j:Int) 1=j-i:=by
 unfold Z6;have h1:(1:Int) > 0:=by lia
 simp only[h1,Gu,Int.ediv_one]
 split <;> lia
theorem zit(p:UA v o)(h:Q o s):wpAny (model prog w) A (Builtin.Slice.slicePartIndex v) Q E s:=by
 cases p with
 | none=>exact slicePart_none h
 | int i t=>exact slicePart_int h
theorem sliceApplied_gen{sl:Addr}{vl vu:VJ}{lo hi:Option Int}{n:Nat}{Q:Int×Int×Nat->VN->Prop}(hs:s.heap.IsSliceOf sl vl vu .none)(pl:UA vl lo)(pu:UA vu hi)
 (h:Q (((sIx n 0 lo:Nat):Int),1,sIx n n hi-sIx n 0 lo) s):wpAny (model prog w) A (JQ (.ref sl) (pure (n:Int))) Q E s:=by
 obtain⟨os,hos,hcs,hds⟩:=id hs;unfold JQ Builtin.Slice.sliceFields;refine VL (VL (VT hos hds (x:=vl) rfl (VL (VT hos hds (x:=vu) rfl (VL (VT hos hds (x:=.none) rfl (VQ ?_)))))));refine VL (slicePart_none ?_);show wpAny _ _ (if((1:Int) == 0)=true then _ else _) _ _ s;rw[Gn (by decide)];refine VL (zit pl (VL (zit pu (VL (VQ ?_)))));show wpAny _ _ (match Jb lo hi 1 (n:Int) with|(lo,hi)=>pure (lo,(1:Int),Z6 lo hi 1)) _ _ s;rw[zo0 lo hi n];show wpAny _ _ (pure (((sIx n 0 lo:Nat):Int),(1:Int),Z6 ((sIx n 0 lo:Nat):Int) ((sIx n n hi:Nat):Int) 1)) _ _ s;rw[zox];exact VQ h
theorem ztk(xs:Array VJ)(i k:Nat):((QL k).filterMap λ(m:Nat)=>xs[((i:Int)+(m:Int) * 1).toNat]?).toArray=((xs.toList.drop i).take k).toArray:=by
 have e:(λ(m:Nat)=>xs[((i:Int)+(m:Int) * 1).toNat]?)=λm=>xs[i+m]?:=by
  funext m;have:((i:Int)+(m:Int) * 1).toNat=i+m:=by lia
  rw[this]
 rw[e];have:=pick_run xs i k;rw[List.filterMap_map] at this;have e2:((λx=>xs[x]?) ∘ λx=>i+x)=λm=>xs[i+m]?:=rfl;rw[e2] at this;rw[this]
theorem getItem_tuple_cut{t sl:Addr}{items:Array VJ}{vl vu:VJ}{lo hi:Option Int}{Q:VJ->VN->Prop}(ht:IsTup s.heap t items)(hs:s.heap.IsSliceOf sl vl vu .none)(pl:UA vl lo)(pu:UA vu hi)
 (hw:¬(sIx items.size 0 lo=0/\sIx items.size items.size hi=items.size))
 (h:Q (.ref s.heap.objs.size) { s with heap:=s.heap.push { cls:=.type "tuple",data:=.seq ((items.toList.drop (sIx items.size 0 lo)).take (sIx items.size items.size hi-sIx items.size 0 lo)).toArray } })
 (hsz:items.size<=sizeLine):wpAny (model prog w) A (Uw (.ref t) (.ref sl)) Q E s:=by
 have htake:sizeOk (.seq ((items.toList.drop (sIx items.size 0 lo)).take (sIx items.size items.size hi-sIx items.size 0 lo)).toArray):=by
  show((items.toList.drop (sIx items.size 0 lo)).take (sIx items.size items.size hi-sIx items.size 0 lo)).toArray.size<=sizeLine;rw[Qq,QT,Zh,JI];lia
 have hj:sIx items.size items.size hi<=items.size:=sIx_le _ _ (Qe _) hi;obtain⟨os,hos,hcs,hds⟩:=id hs;have hTs:s.TypeIs (.ref sl) "slice" := ⟨os,hos,hcs⟩;unfold Uw
 try with_reducible refine UQ ?_
 first|refine VL (VQ ?_)|skip
 refine VL (wpAny_sequenceKey ht.typeIs (by decide) ?_)
 refine VL (VZ (name:=Zf "__getitem__") ht.typeIs QR
  (Ua QR ht.typeIs entry_tuple_getitem ?_ (args_tuple_getitem _ _)))
 show wpAny _ _ (JR (.ref t) >>= _) _ _ s;refine VL (tupleItemsOf_ ht ?_);refine VL (UE hTs ?_);rw[Gm (by decide)];refine VL (sliceApplied_gen hs pl pu ?_)
 have hno:¬((((sIx items.size 0 lo:Nat):Int) == 0 && (1:Int) == 1 && (sIx items.size items.size hi-sIx items.size 0 lo) == items.size)=true):=by
  intro q;rw[QV,QV] at q;have q1:((sIx items.size 0 lo:Nat):Int)=0:=eq_of_beq q.1.1;have q2:sIx items.size items.size hi-sIx items.size 0 lo=items.size:=eq_of_beq q.2;exact hw ⟨by lia,by lia⟩
 show wpAny _ _ (if(((sIx items.size 0 lo:Nat):Int) == 0 && (1:Int) == 1 && (sIx items.size items.size hi-sIx items.size 0 lo) == items.size)=true then _ else _) _ _ s;rw[Gn hno,ztk]
 first
  | exact VL (m:=ZC _) (Ug (VQ ⟨_,rfl,VQ h⟩) htake)
  | exact VL (m:=ZC _) (Ug (VL (VQ (VQ ⟨_,rfl,VQ h⟩))) htake)
  | exact VL (VL (m:=ZC _) (Ug (VQ (VQ ⟨_,rfl,VQ h⟩)) htake))
  | exact VL (VL (m:=ZC _) (Ug (VQ ⟨_,rfl,VQ h⟩) htake))
end
end HT
namespace L2
open PySem PySem.Spec PyProof.Rows
abbrev TO:=St->Hp->(Option Int->Hp->Prop)->Prop
def PO(X:Cx)(e:Option Expr)(t:TO):Prop :=
 ∀(pins:List (Addr×Obj)) (s:VN) (σ:St) (H:Hp) (Q:Option Int->Hp->Prop),Inv X pins σ H s->t σ H Q ->
   wpAny (model X.prog X.w) X.A (evalPart e X.env) (λu s'=>∃o H',Inv X pins σ H' s'/\UA u o/\Q o H') X.xe s
def znn:TO:=λ_ H Q=>Q none H
def zle(t:TE):TO:=λσ H Q=>t σ H λx H1=>∃i,x = .int i/\Q (some i) H1
section
variable {X:Cx}{e:Expr}{te:TE}{lo hi:Option Expr}{tl th:TO}{pos p2:Pos}
theorem zwd:PO X none znn:=by
 intro pins s σ H Q I h;rw[evalPart_none];exact VQ ⟨none,H,I,.none,h⟩
theorem zje(h:PE X e te):PO X (some e) (zle te):=by
 intro pins s σ H Q I hw;rw[evalPart_some];refine thn (h pins s σ H _ I hw) λu s1 zz=>?_;obtain⟨x,H1,I1,r1,q1⟩:=zz;obtain⟨i,rfl,q⟩:=q1;obtain⟨t,rfl⟩:=r1;exact⟨some i,H1,I1,.int i t,q⟩
def SlR(X:Cx)(r:V->Option Int->Option Int->Hp->VK->Prop):Prop :=
 ∀(pins:List (Addr×Obj)) (s:VN) (σ:St) (H:Hp) (x:V) (v vl vu:VJ) (lo hi:Option Int) (sl:Addr) (Q:VK),Inv X pins σ H s->RelV x v->s.heap.IsSliceOf sl vl vu .none->UA vl lo->UA vu hi->r x lo hi H Q ->
   ∃T id,UR (.type T) "__getitem__" = pure (some (.builtin id))/\s.TypeIs v T/\wpAny (model X.prog X.w) X.A (Uw v (.ref sl)) (EP X pins σ Q) X.xe s
theorem SlR.or(h:SlR X r)(h':SlR X r'):SlR X (λx lo hi H Q=>r x lo hi H Q\/r' x lo hi H Q):=by
 intro pins s σ H x v vl vu lo hi sl Q I rx hs pl pu q;rcases q with q|q
 .exact h pins s σ H x v vl vu lo hi sl Q I rx hs pl pu q
 .exact h' pins s σ H x v vl vu lo hi sl Q I rx hs pl pu q
def tSl(r:V->Option Int->Option Int->Hp->VK->Prop)(te:TE)(tl th:TO):TE:=λσ H Q=>te σ H λx H1=>tl σ H1 λl H2=>th σ H2 λu H3=>r x l u H3 Q
theorem zlv(hr:SlR X r)(he:PE X e te)(hl:PO X lo tl)(hu:PO X hi th):PE X (.Subscript e (.Slice lo hi none p2) pos) (tSl r te tl th):=by
 intro pins s σ H Q I h;refine Subscript_ (thn (he pins s σ H _ I h) λv s1 zz=>?_);obtain⟨x,H1,I1,r1,q1⟩:=zz;refine wpAny_Slice (thn (hl pins s1 σ H1 _ I1 q1) λvl s2 ⟨l,H2,I2,pl,q2⟩=>thn (hu pins s2 σ H2 _ I2 q2) λvu s3 zz=>?_);obtain⟨u,H3,I3,pu,q3⟩:=zz;rw[evalPart_none];refine VQ ?_;have I4:Inv X pins σ H3 { s3 with heap:=s3.heap.push { cls:=.type "slice",data:=.fields #[vl,vu,.none] } }:=I3.kept (t':=s3.toks) λb ob q=>Qg _ q;obtain⟨T,id,hT,ht,hg⟩:=hr pins { s3 with heap:=s3.heap.push { cls:=.type "slice",data:=.fields #[vl,vu,.none] } } σ H3 x v vl vu l u s3.heap.objs.size Q I4 r1 (Heap.IsSliceOf.new ..) pl pu q3;show wpAny (model X.prog X.w) X.A (UP e (.Slice lo hi none p2) v (.ref s3.heap.objs.size)) (EP X pins σ Q) X.xe { s3 with heap:=s3.heap.push { cls:=.type "slice",data:=.fields #[vl,vu,.none] } };exact tail_any (ops:=[.ref s3.heap.objs.size,v]) ht hT hg (by with_unfolding_all rfl)
def cutV(xs:List V)(lo hi:Option Int):List V:=(xs.drop (HT.sIx xs.length 0 lo)).take (HT.sIx xs.length xs.length hi-HT.sIx xs.length 0 lo)
theorem zha(xs:List V)(lo hi:Option Int):(cutV xs lo hi).length<=xs.length:=by
 unfold cutV;rw[QT,Zh];lia
def rSlT(K:Qa):V->Option Int->Option Int->Hp->VK->Prop:=λx lo hi H Q=>∃a xs,x = .ref a/\SqT K H a xs /\
 ¬(HT.sIx xs.length 0 lo=0/\HT.sIx xs.length xs.length hi=xs.length)/\∀p,H p=none->Q (.ref p) (upd H p (.tup (cutV xs lo hi)))
theorem sl_tup:SlR X (rSlT X.K):=by
 intro pins s σ H x v vl vu lo hi sl Q I rx hs pl pu h;obtain⟨a,xs,rfl,hx,hw,q⟩:=h;cases rx;obtain⟨its,r,ht,hz⟩:=I.tuple hx;have hlen:its.toArray.size=xs.length:=by rw[Qq];exact r.length.symm
 refine⟨"tuple",_,QR.lookup,ht.typeIs,?_⟩;refine HT.getItem_tuple_cut ht hs pl pu (by rw[hlen];exact hw) ?_ (by rw[hlen];exact hz);rw[hlen];refine⟨.ref s.heap.objs.size,_,I.laid (t':=s.toks) (o:=.tup (cutV xs lo hi)) (λb ob q=>Qg _ q) (Qe _) ?_,rfl,q _ (I.hok.fresh (Qe _))⟩;exact⟨Q3 (zha xs lo hi) hz,_,(r.drop (HT.sIx xs.length 0 lo)).take (HT.sIx xs.length xs.length hi-HT.sIx xs.length 0 lo),YC _ _⟩
def zux(K:Qa):R2:=λx y H Q=>∃a b xs ys,x = .ref a/\y = .ref b/\SqT K H a xs/\SqT K H b ys/\xs≠[]/\xs.length+ys.length<=sizeLine /\
 (ys = []->Q (.ref a) H)/\(ys≠[]->∀p,H p=none->Q (.ref p) (upd H p (.tup (xs++ys))))
theorem Vals.nil_iff(r:Vals xs us):us = []↔xs = []:=by
 cases r with
 | nil=>simp
 | cons _ _=>simp
theorem op_catT:OpR X (binaryOp .Add) (zux X.K):=by
 intro pins s σ H x y v u Q I rx ry h;obtain⟨a,b,xs,ys,rfl,rfl,ha,hb,hx,hz,q1,q2⟩:=h;cases rx;cases ry;obtain⟨its,r1,p1,_⟩:=I.tuple ha;obtain⟨its2,r2,p2,_⟩:=I.tuple hb;refine HT.cat_tup p1 p2 (λz=>hx (r1.nil_iff.mp z)) (λz=>⟨.ref a,H,I,rfl,q1 (r2.nil_iff.mp z)⟩) (λz=>?_) (by rw[<- r1.length,<- r2.length];exact hz);refine⟨.ref s.heap.objs.size,_,I.laid (t':=s.toks) (o:=.tup (xs++ys)) (λb ob q=>Qg _ q) (Qe _) ?_,rfl,q2 (λw=>z (r2.nil_iff.mpr w)) _ (I.hok.fresh (Qe _))⟩;exact⟨by rw[Qi];exact hz,_,r1.append r2,YC _ _⟩
end
def ixN(n:Nat)(i:Int):Option Nat:=if 0<=i then(if i<n then some i.toNat else none) else if -(n:Int)<=i then some (i+n).toNat else none
def atI{α:Type}(xs:List α)(i:Int):Option α:=(ixN xs.length i).bind λj=>xs[j]?
theorem zxz{n:Nat}{i:Int}{j:Nat}(h:ixN n i=some j):UM i n=some j/\j<n/\-(n:Int)<=i/\i<n:=by
 unfold ixN at h
 by_cases h0:0<=i
 .rw[Gm h0] at h
  by_cases h1:i<n
  .rw[Gm h1] at h;have e:i.toNat=j:=QM h;exact⟨by rw[seqIndex_of h0 h1,e],by lia,by lia,h1⟩
  .rw[Gn h1] at h;cases h
 .rw[Gn h0] at h
  by_cases h1:-(n:Int)<=i
  .rw[Gm h1] at h;have e:(i+n).toNat=j:=QM h;exact⟨by rw[seqIndex_neg (by lia) h1,e],by lia,h1,by lia⟩
  .rw[Gn h1] at h;cases h
theorem zju{α:Type}{xs:List α}{i:Int}{v:α}(h:atI xs i=some v):∃j,UM i xs.length=some j/\xs[j]? = some v/\j<xs.length/\-(xs.length:Int)<=i/\i<xs.length:=by
 unfold atI at h
 cases e:ixN xs.length i with
 | none=>rw[e] at h;cases h
 | some j=>
   rw[e] at h;obtain⟨h1,h2,h3,h4⟩:=zxz e;exact⟨j,h1,h,h2,h3,h4⟩
theorem zoh{α:Type}{xs:List α}{j:Nat}{v:α}(h:xs[j]? = some v):atI xs (j:Int)=some v:=by
 have hj:j<xs.length:=(Qx.mp h).1
 have e:ixN xs.length (j:Int)=some j:=by
  unfold ixN;rw[Gm (by lia),Gm (by lia)];simp
 unfold atI;rw[e];exact h
def zob(b:Expr):Prop:=∀o i,subscripted b false o i=operate [o,i] (Uw o i)
def IxR(X:Cx)(r:R2):Prop :=
 ∀(value slice:Expr) (pins:List (Addr×Obj)) (s:VN) (σ:St) (H:Hp) (x y:V) (v u:VJ) (Q:VK),Inv X pins σ H s->RelV x v->RelV y u->r x y H Q ->
   subscripted slice false v u=operate [v,u] (Uw v u)->wpAny (model X.prog X.w) X.A (UP value slice v u) (EP X pins σ Q) X.xe s
def MtR(X:Cx)(id:String)(r:V->List V->Hp->VK->Prop):Prop :=
 ∀(pins:List (Addr×Obj)) (s:VN) (σ:St) (H:Hp) (x:V) (xs:List V) (v:VJ) (us:List VJ) (Q:VK),Inv X pins σ H s->RelV x v->Vals xs us->r x xs H Q ->
   wpAny (model X.prog X.w) X.A (call (.builtin id) (v::us)) (EP X pins σ Q) X.xe s
section
variable {X:Cx}{a b:Expr}{ta tb:TE}{pos:Pos}
theorem IxR.or(h:IxR X r)(h':IxR X r'):IxR X (λx y H Q=>r x y H Q\/r' x y H Q):=by
 intro value slice pins s σ H x y v u Q I rx ry q hs;rcases q with q|q
 .exact h value slice pins s σ H x y v u Q I rx ry q hs
 .exact h' value slice pins s σ H x y v u Q I rx ry q hs
theorem z1i(hr:IxR X r)(ha:PE X a ta)(hb:PE X b tb)(hs:zob b):PE X (.Subscript a b pos) (tOp r ta tb):=by
 intro pins s σ H Q I h;exact Subscript_ (binT ha hb I h λv u s2 x y H2 I2 rx ry q=>hr a b pins s2 σ H2 x y v u Q I2 rx ry q (hs _ _))
def rIxL(K:Qa):R2:=λx y H Q=>∃p xs i v,x = .ref p/\y = .int i/\SqL K H p xs/\atI xs i=some v/\Q v H
def rIxT(K:Qa):R2:=λx y H Q=>∃p xs i v,x = .ref p/\y = .int i/\SqT K H p xs/\atI xs i=some v/\Q v H
def rIxS:R2:=λx y H Q=>∃z i c,x = .str z/\y = .int i/\z.length<=sizeLine/\atI z.cps.toList i=some c/\Q (.str ⟨#[c]⟩) H
theorem ix_list:IxR X (rIxL X.K):=by
 intro value slice pins s σ H x y v u Q I rx ry h hs;obtain⟨p,xs,i,z,rfl,rfl,hq,he,q⟩:=h;cases rx;obtain⟨t,rfl⟩:=ry;obtain⟨its,r,pl,hz⟩:=I.list hq;obtain⟨j,h1,h2,h3,h4,h5⟩:=zju he;obtain⟨w,ew,rw'⟩:=r.get h2;have hl:=r.length;have hn:=zf6;have fin:EP X pins σ Q w s:=⟨z,H,I,rw',q⟩
 by_cases h0:0<=i
 .have hj:i.toNat=j:=by
   rw[seqIndex_of h0 h5] at h1;exact QM h1
  exact item_listR pl.isList h0 (by lia) (by rw[hj];simpa using ew) fin hs
 .have hj:(i+(its.toArray.size:Int)).toNat=j:=by
   rw[seqIndex_neg (by lia) h4] at h1;rw[Qq,<- hl];exact QM h1
  exact UC (x:=w) pl.isList.typeIs slot_list_getitem.lookup
   (wpAny_getItem_list_neg (Q:=λr s'=>r=w/\EP X pins σ Q r s') pl.isList (by lia) (by rw[Qq] <;> lia) (by lia) (by rw[hj];simpa using ew) ⟨rfl,fin⟩) hs
theorem ix_tup:IxR X (rIxT X.K):=by
 intro value slice pins s σ H x y v u Q I rx ry h hs;obtain⟨p,xs,i,z,rfl,rfl,hq,he,q⟩:=h;cases rx;obtain⟨t,rfl⟩:=ry;obtain⟨its,r,pl,hz⟩:=I.tuple hq;obtain⟨j,h1,h2,h3,h4,h5⟩:=zju he;obtain⟨w,ew,rw'⟩:=r.get h2;have hl:=r.length;have hn:=zf6;have fin:EP X pins σ Q w s:=⟨z,H,I,rw',q⟩
 exact UC (x:=w) pl.typeIs slot_tuple_getitem.lookup
  (getItem_tuple (j:=j) (Q:=λr s'=>r=w/\EP X pins σ Q r s') pl (by lia) (by lia) (by rw[Qq,<- hl];exact h1) (by simpa using ew) ⟨rfl,fin⟩) hs
theorem zzw:IxR X rIxS:=by
 intro value slice pins s σ H x y v u Q I rx ry h hs;obtain⟨z,i,c,rfl,rfl,hz,he,q⟩:=h;obtain⟨t,rfl⟩:=rx;obtain⟨t',rfl⟩:=ry;obtain⟨j,h1,h2,h3,h4,h5⟩:=zju he;have hl:z.cps.toList.length=z.length:=by simp[JS]
 rw[hl] at h1 h4 h5;have hn:=zf6
 exact tail_any (typeIs_str s z t) slot_str_getitem.lookup (getItem_str (c:=c) (by
  have e1:decide (i < -(2 ^ 63:Int))=false:=Gp (by lia);have e2:decide (i ≥ 2 ^ 63)=false:=Gp (by lia)
  rw[e1,e2,V5]) (by rw[h1];simpa using h2) ⟨.str ⟨#[c]⟩,H,I.tok _,⟨_,rfl⟩,q⟩) hs
def rIx(K:Qa):R2:=λx y H Q=>rIxL K x y H Q\/rIxT K x y H Q\/rIxS x y H Q
theorem z0s:IxR X (rIx X.K):=ix_list.or (ix_tup.or zzw)
theorem zl6(lo hi:Option Int)(n:Nat):(Uu lo hi none n).1=((HT.sIx n 0 lo:Nat):Int)/\(Uu lo hi none n).2.1=((HT.sIx n n hi:Nat):Int)/\(Uu lo hi none n).2.2=1:=by
 refine⟨?_,?_,rfl⟩
 .cases lo with
  | none=>simp[Uu,HT.sIx]
  | some i=>
    simp only[Uu,HT.sIx,Vj,show(1:Int) > 0 by decide,Gu]
    by_cases h:i<0
    .simp only[h,Gu] <;> lia
    .simp only[h,Gv] <;> lia
 .cases hi with
  | none=>simp[Uu,HT.sIx]
  | some i=>
    simp only[Uu,HT.sIx,Vj,show(1:Int) > 0 by decide,Gu]
    by_cases h:i<0
    .simp only[h,Gu] <;> lia
    .simp only[h,Gv] <;> lia
theorem zkx(its:List VJ)(lo hi:Option Int):slicePick its.toArray lo hi none=((its.drop (HT.sIx its.length 0 lo)).take (HT.sIx its.length its.length hi-HT.sIx its.length 0 lo)).toArray:=by
 obtain⟨h1,h2,h3⟩:=zl6 lo hi its.toArray.size;unfold slicePick;rw[h1,h2,h3];simp only[sliceRange_one,pick_run,Qq] <;> rfl
def rSlL(K:Qa):V->Option Int->Option Int->Hp->VK->Prop:=λx lo hi H Q=>∃a xs,x = .ref a/\SqL K H a xs/\∀p,H p=none->Q (.ref p) (upd H p (.lst (cutV xs lo hi)))
theorem sl_list:SlR X (rSlL X.K):=by
 intro pins s σ H x v vl vu lo hi sl Q I rx hs pl pu h;obtain⟨a,xs,rfl,hx,q⟩:=h;cases rx;obtain⟨its,r,ht,hz⟩:=I.list hx;have hlen:=r.length;refine⟨"list",_,slot_list_getitem.lookup,ht.isList.typeIs,?_⟩;refine wpAny_getItem_list_slice ht.isList hs pl pu .none (by simp) ?_ (by rw[Qq] <;> lia);rw[zkx,<- hlen];refine⟨.ref s.heap.objs.size,_,I.laid (t':=s.toks) (o:=.lst (cutV xs lo hi)) (λb ob q=>Qg _ q) (Qe _) ?_,rfl,q _ (I.hok.fresh (Qe _))⟩;exact⟨Q3 (zha xs lo hi) hz,_,0,(r.drop (HT.sIx xs.length 0 lo)).take (HT.sIx xs.length xs.length hi-HT.sIx xs.length 0 lo),Qv _ rfl⟩
theorem zk0:zca X (.type "tuple") (λxs H Q=>∃p ys,xs = [.ref p]/\((SqL X.K H p ys/\∀l,H l=none->Q (.ref l) (upd H l (.tup ys)))\/(SqT X.K H p ys/\Q (.ref p) H))):=by
 intro pins s σ H xs us Q I r h;obtain⟨p,ys,rfl,h⟩:=h;obtain⟨u,rfl,rx⟩:=zlb r;cases rx;rcases h with ⟨hq,q⟩|⟨hq,q⟩
 .obtain⟨its,r',pl,hz⟩:=I.list hq;have hlen:=r'.length;refine call_tuple_list pl.isList (λh' kp=>?_) (by simp only[Qq] <;> lia);have I1:Inv X pins σ H { s with heap:=h' }:=I.kept (t':=s.toks) kp
  have I2:Inv X pins σ (upd H h'.objs.size (.tup ys)) { s with heap:=h'.push { cls:=.type "tuple",data:=.seq its.toArray } } :=
   I1.laid (t':=s.toks) (λb o e=>Qg _ e) (Qe _) (show ObjOk X.prog X.w _ _ _ (.tup ys) from⟨hz,its,r',YC _ _⟩)
  exact⟨.ref h'.objs.size,_,I2,rfl,q _ (I1.hok.fresh (Qe _))⟩
 .obtain⟨its,r',pl,hz⟩:=I.tuple hq;exact call_tuple_same pl ⟨.ref p,H,I,rfl,q⟩
def tyV(K:Qa)(T:String)(x:V)(H:Hp):Prop:=match x with
 | .str _=>T = "str"
 | .int _=>T = "int"
 | .ref p=>(T = "list" /\ ∃xs,SqL K H p xs)\/(T = "tuple" /\ ∃o,K.lookup p=some o/\o.cls = .type "tuple" /\ o.dict=none) \/
  (T = "dict" /\ ((∃kvs,H p=some (.dK kvs))\/∃kvs,H p=some (.dT kvs)))\/(T = "set" /\ ∃S n,H p=some (.set S n))
 | _=>False
theorem zp9{pins:List (Addr×Obj)}(I:Inv X pins σ H s)(r:RelV x v)(ty:tyV X.K T x H):
 s.TypeIs v T/\∀a,v = .ref a->∃ob,s.heap.get? a=some ob/\ob.dict=none:=by
 cases x with
 | str z=>
   obtain⟨t,rfl⟩:=r;cases (show T = "str" from ty);exact⟨typeIs_str s z t,λ_ e=>nomatch e⟩
 | int i=>
   obtain⟨t,rfl⟩:=r;cases (show T = "int" from ty);exact⟨UD s i t,λ_ e=>nomatch e⟩
 | ref p=>
   cases r;rcases ty with ⟨rfl,xs,hq⟩|⟨rfl,o,hk,hc,hd⟩|⟨rfl,hk⟩|⟨rfl,S,n,hk⟩
   .obtain⟨its,_,pl,_⟩:=I.list hq;refine⟨pl.isList.typeIs,λa e=>?_⟩;cases e;obtain⟨o,n,e,c,hd,_⟩:=pl;exact⟨o,e,hd⟩
   .refine⟨⟨o,I.kIn p o hk,hc⟩,λa e=>?_⟩;cases e;exact⟨o,I.kIn _ o hk,hd⟩
   .have z:∃o,s.heap.get? p=some o/\o.ExactDict:=by
     rcases hk with ⟨kvs,hk⟩|⟨kvs,hk⟩
     .obtain⟨_,_,_,_,o,_,_,e,ex,_⟩:=I.hok p _ hk;exact⟨o,e,ex⟩
     .obtain⟨_,_,_,_,o,_,_,e,ex,_⟩:=I.hok p _ hk;exact⟨o,e,ex⟩
    obtain⟨o,e,ex⟩:=z;refine⟨⟨o,e,ex.1⟩,λa e2=>?_⟩;cases e2;exact⟨o,e,ex.2.1⟩
   .obtain⟨o,_,_,_,e,ex,_⟩:=I.hok p _ hk;refine⟨⟨o,e,ex.1⟩,λa e2=>?_⟩;cases e2;exact⟨o,e,ex.2.1⟩
 | _=>exact ZK ty
def tBM0(K:Qa)(T:String)(r:V->List V->Hp->VK->Prop)(to:TE):TE:=λσ H Q=>to σ H λx H1=>tyV K T x H1/\r x [] H1 Q
def tBM(K:Qa)(T:String)(r:V->List V->Hp->VK->Prop)(to:TE)(t:TA):TE:=λσ H Q=>to σ H λx H1=>tyV K T x H1/\t σ H1 λxs H2=>r x xs H2 Q
variable {o e:Expr}{es:List Expr}{to:TE}{t:TA}{name:Str}{apos cpos:Pos}{T id:String}{r:V->List V->Hp->VK->Prop}
theorem zzf(pa:PlainAttrs T)(slot:Slot T name id)(hty:typeOf (.builtin id)=pure (.type "method_descriptor"))(hm:MtR X id r)(ho:PE X o to)
 (hbase:Ul o name X.env (eval o X.env)=eval o X.env:=by rfl) (hline:(apos.endLine == cpos.line)=true:=by rfl):PE X (.Call (.Attribute o name apos) [] [] cpos) (tBM0 X.K T r to):=by
 intro pins s σ H Q I h;refine U8 hbase hline (thn (ho pins s σ H _ I h) λv s1 zz=>?_);obtain⟨x,H1,I1,r1,ty,q1⟩:=zz;obtain⟨h1,h2⟩:=zp9 I1 r1 ty;exact⟨T,id,pa,slot,hty,h1,h2,ZL rfl (YD (hm pins s1 σ H1 x [] v [] Q I1 r1 .nil q1))⟩
theorem zli(pa:PlainAttrs T)(slot:Slot T name id)(hty:typeOf (.builtin id)=pure (.type "method_descriptor"))(hm:MtR X id r)(ho:PE X o to)(ha:PA X (e::es) t)
 (hbase:Ul o name X.env (eval o X.env)=eval o X.env:=by rfl)
 (hfew:((Ui cpos (VM (e::es) X.env)).all (λx=>!x.1) && (UJ cpos (Ux [] X.env)).all (λx=>x.1.isSome)
  && decide ((e::es).length+([]:List Uv).length+(if([]:List Uv).isEmpty then 0 else 1)<30))=true:=by rfl)
 (hline:(apos.endLine == cpos.line)=true:=by rfl) (hs:VM (e::es) X.env=(false,eval e X.env)::VM es X.env:=by rfl) (hplain:(Ui cpos (VM es X.env)).any (·.1)=false:=by rfl) :
 PE X (.Call (.Attribute o name apos) (e::es) [] cpos) (tBM X.K T r to t):=by
 intro pins s σ H Q I h;refine wpAny_Call_method_late hbase hfew hline rfl (thn (ho pins s σ H _ I h) λv s1 zz=>?_);obtain⟨x,H1,I1,r1,ty,q1⟩:=zz;obtain⟨h1,h2⟩:=zp9 I1 r1 ty;refine⟨T,id,pa,slot,hty,h1,h2,?_⟩;have hA:=ha cpos pins s1 σ H1 _ I1 q1;rw[hs] at hA ⊢;refine ZL (by show(false || (Ui cpos (VM es X.env)).any (·.1))=false;rw[hplain] <;> rfl) (Y5 ?_);exact thn hA λus s2 ⟨vs,H2,I2,r2,q2⟩=>hm pins s2 σ H2 x vs v us Q I2 r1 r2 q2
/- xs.append(e),list.index on a module's tuple .. are MtR facts of 06m -/
end
def MtM(X:Cx)(id:String)(r:V->List V->Hp->VK->Prop):Prop :=
 ∀(pins:List (Addr×Obj)) (s:VN) (σ:St) (H:Hp) (x:V) (xs:List V) (v:VJ) (us:List VJ) (Q:VK),Inv X pins σ H s->RelV x v->Vals xs us->r x xs H Q ->
   wpAny (model X.prog X.w) X.A (call (.builtin id) (v::us)) (EP X pins σ Q) X.xe s
theorem Vals.one:∀{x:V} {us:List VJ},Vals [x] us->∃u,us = [u]/\RelV x u
 | _,_,h=>by
   cases h with
   | cons r t=>cases t;exact⟨_,rfl,r⟩
theorem Vals.zero:∀{us:List VJ},Vals [] us->us = []
 | _,.nil=>rfl
theorem Vals.dropLast(h:Vals xs us):Vals xs.dropLast us.dropLast:=by
 induction h with
 | nil=>exact .nil
 | cons r t ih=>
   cases t with
   | nil=>exact .nil
   | cons q t'=>exact .cons r ih
theorem Vals.eraseIdx:∀{xs:List V} {us:List VJ} (i:Nat),Vals xs us->Vals (xs.eraseIdx i) (us.eraseIdx i)
 | _,_,_,.nil=>.nil
 | _,_,0,.cons _ t=>t
 | _,_,i+1,.cons r t=>.cons r (Vals.eraseIdx i t)
theorem Vals.reverse(h:Vals xs us):Vals xs.reverse us.reverse:=by
 induction h with
 | nil=>exact .nil
 | cons r t ih=>rw[YT,YT];exact Vals.append ih (.cons r .nil)
theorem Vals.rep(h:Vals xs us):∀k:Nat,Vals (Qh k xs).flatten (Qh k us).flatten
 | 0=>.nil
 | k+1=>by
   rw[Zd,Zd,Zw,Zw];exact Vals.append h (Vals.rep h k)
theorem zph{α:Type}(l:List α):l.eraseIdx (l.length-1)=l.dropLast:=by
 induction l with
 | nil=>rfl
 | cons a r ih=>
   cases r with
   | nil=>rfl
   | cons b r=>
     have e:(a::b::r).length-1=((b::r).length-1)+1:=by
      have h1:(a::b::r).length=r.length+2:=rfl;have h2:(b::r).length=r.length+1:=rfl;lia
     rw[e,Jq,ih]
     all_goals rfl
theorem zks{α:Type}:∀(l:List α) (i:Nat),(l.eraseIdx i).length<=l.length
 | [],_=>Qe _
 | _::_,0=>Jr _
 | _::r,i+1=>Nat.succ_le_succ (zks r i)
theorem zfv(its:List VJ):∀(k:Nat) (acc:List VJ),
 J7 (λx1 x2=>x1++x2) acc.toArray (Qh k its.toArray)=(acc++(Qh k its).flatten).toArray
 | 0,acc=>by simp
 | k+1,acc=>by
   have e:acc.toArray++its.toArray=(acc++its).toArray:=by simp
   have e2:(acc++its)++(Qh k its).flatten=acc++(Qh (k+1) its).flatten:=by
    rw[Zd,Zw,QZ]
   rw[<- e2,<- zfv its k (acc++its),<- e,Zd,Z9]
section
variable {X:Cx}{pins:List (Addr×Obj)}{σ:St}{H:Hp}{s:VN}{l b:Addr}{xs ys zs:List V}
theorem Inv.lset{its its':List VJ}{n:Nat}{f:Array VJ->Array VJ}{t':Nat}(I:Inv X pins σ H s)(hH:H l=some (.lst xs))
 (e:s.heap.get? l=some { cls:=.type "list",data:=.seq its.toArray n }) (hf:f its.toArray=its'.toArray) (hv:Vals ys its') (hz:ys.length<=sizeLine) :
 Inv X pins σ (upd H l (.lst ys)) { s with heap:=s.heap.update l (J8 f),toks:=t' }:=by
 have q:=PySem.IsL.update e f;rw[hf] at q;refine I.write (x:=l) (e:=l) (by rw[hH];exact trivial) (.inl rfl) (λb' u hb hu=>(ZM s.heap (J8 f) (Zt hb)).trans hu) ⟨_,q⟩ ?_;exact⟨hz,its',_,hv,q⟩
theorem Inv.lnew{t':Nat}(I:Inv X pins σ H s)(hv:Vals ys its)(hz:ys.length<=sizeLine):
 Inv X pins σ (upd H s.heap.objs.size (.lst ys)) { s with heap:=s.heap.push { cls:=.type "list",data:=.seq its.toArray },toks:=t' } :=
 I.laid (λ_ _ q=>Qg _ q) (Qe _) ⟨hz,its,0,hv,Qv _ rfl⟩
theorem Inv.fresh(I:Inv X pins σ H s):H s.heap.objs.size=none:=I.hok.fresh (Qe _)
theorem Inv.lstM(I:Inv X pins σ H s)(hH:H l=some (.lst xs)):xs.length<=sizeLine/\∃(its:List VJ) (n:Nat),Vals xs its/\xs.length=its.length/\s.heap.get? l=some { cls:=.type "list",data:=.seq its.toArray n }:=by
 obtain⟨z,its,n,r,e⟩:=I.hok l _ hH;exact⟨z,its,n,r,r.length,e⟩
theorem zut{n:Nat}(h:n<=sizeLine):Je n=false:=by
 unfold Je;exact Gp (by lia)
end
section
variable {X:Cx}
def zgo:V->List V->Hp->VK->Prop:=λx vs H Q=>∃l xs y,x = .ref l/\vs = [y]/\H l=some (.lst xs)/\xs.length<sizeLine/\Q .non (upd H l (.lst (xs ++ [y])))
theorem zkq:MtM X "list.append" zgo:=by
 intro pins s σ H x vs v us Q I rx rv h;obtain⟨l,xs,y,rfl,rfl,hH,hz,q⟩:=h;cases rx;obtain⟨u,rfl,ru⟩:=rv.one;obtain⟨z,its,n,r,hl,e⟩:=I.lstM hH;refine Ut F.slot_list_append ⟨_,e,rfl⟩ F.entry_list_append (F.args_list_append_2 _ _) (PySem.list_append l its.toArray n u (by rw[Qq];lia)) ⟨e,?_⟩;refine⟨.non,_,I.lset (its':=its ++ [u]) hH e (by simp) (r.append (.cons ru .nil)) ?_,rfl,q⟩;rw[Qi,QH];lia
def rPop:V->List V->Hp->VK->Prop:=λx vs H Q=>∃l xs y,x = .ref l/\vs = []/\H l=some (.lst xs)/\xs[xs.length-1]? = some y/\Q y (upd H l (.lst xs.dropLast))
theorem zzx:MtM X "list.pop" rPop:=by
 intro pins s σ H x vs v us Q I rx rv h;obtain⟨l,xs,y,rfl,rfl,hH,hy,q⟩:=h;cases rx;have hus:=rv.zero;subst hus;obtain⟨z,its,n,r,hl,e⟩:=I.lstM hH;obtain⟨u,hu,ru⟩:=r.get hy
 have hy':its.toArray[its.toArray.size-1]? = some u:=by
  show its.toArray[its.length-1]? = some u;rw[<- Yz,<- hl];exact hu
 refine Ut F.slot_list_pop ⟨_,e,rfl⟩ Vk (F.args_list_pop_1 _) (MeetsSeq.list_pop_last l its.toArray n u hy' (by rw[Qq];lia)) ⟨e,?_⟩;refine⟨y,_,I.lset (its':=its.dropLast) hH e ?_ r.dropLast ?_,ru,q⟩
 .show its.toArray.eraseIdxIfInBounds (its.toArray.size-1)=its.dropLast.toArray;rw[Qq,J0,zph]
 .rw[List.length_dropLast];lia
def zgd:V->List V->Hp->VK->Prop:=λx vs H Q=>∃l xs i k y,x = .ref l/\vs = [.int i]/\H l=some (.lst xs)/\-(2 ^ 63)<=i/\i<2 ^ 63/\UM i xs.length=some k/\xs[k]? = some y/\Q y (upd H l (.lst (xs.eraseIdx k)))
theorem zt3:MtM X "list.pop" zgd:=by
 intro pins s σ H x vs v us Q I rx rv h;obtain⟨l,xs,i,k,y,rfl,rfl,hH,h1,h2,hk,hy,q⟩:=h;cases rx;obtain⟨u,rfl,ru⟩:=rv.one;obtain⟨t,rfl⟩:=ru;obtain⟨z,its,n,r,hl,e⟩:=I.lstM hH;obtain⟨w,hw,rw'⟩:=r.get hy
 refine Ut F.slot_list_pop ⟨_,e,rfl⟩ Vk (F.args_list_pop_2 _ _)
  (MeetsSeq.list_pop_at l its.toArray n i t k w (fitsIndex_both h1 h2) (by rw[Qq,<- hl];exact hk) (by rw[<- Yz];exact hw) (by rw[Qq];lia)) ⟨e,?_⟩
 refine⟨y,_,I.lset (its':=its.eraseIdx k) hH e ?_ (r.eraseIdx k) ?_,rw',q⟩
 .show its.toArray.eraseIdxIfInBounds k=(its.eraseIdx k).toArray;rw[J0]
 .have:=zks xs k;lia
def rCat:R2:=λx y H Q=>∃l b xs zs,x = .ref l/\y = .ref b/\H l=some (.lst xs)/\H b=some (.lst zs)/\xs.length+zs.length<=sizeLine/\∀p,H p=none->Q (.ref p) (upd H p (.lst (xs++zs)))
theorem op_cat:OpR X (binaryOp .Add) rCat:=by
 intro pins s σ H x y v u Q I rx ry h;obtain⟨l,b,xs,zs,rfl,rfl,hH,hB,hz,q⟩:=h;cases rx;cases ry;obtain⟨z,its,n,r,hl,e⟩:=I.lstM hH;obtain⟨z2,its2,n2,r2,hl2,e2⟩:=I.lstM hB;refine PySem.P.add_list e e2 ?_ (by rw[Qq,Qq];lia);have ea:its.toArray++its2.toArray=(its++its2).toArray:=by simp
 rw[ea];exact⟨.ref _,_,I.lnew (t':=s.toks) (r.append r2) (by rw[Qi];lia),rfl,q _ I.fresh⟩
def rRep:R2:=λx y H Q=>∃l k xs,x = .ref l/\y = .int k/\H l=some (.lst xs)/\-(2 ^ 63)<=k/\k<2 ^ 63/\xs.length * k.toNat<=sizeLine /\
 ∀p,H p=none->Q (.ref p) (upd H p (.lst (Qh k.toNat xs).flatten))
theorem zg5{α:Type}(xs:List α)(k:Nat):(Qh k xs).flatten.length=k * xs.length:=by
 induction k with
 | zero=>simp
 | succ k ih=>rw[Zd,Zw,Qi,ih,Nat.succ_mul,YU]
theorem op_rep:OpR X (binaryOp .Mult) rRep:=by
 intro pins s σ H x y v u Q I rx ry h;obtain⟨l,k,xs,rfl,rfl,hH,h1,h2,hz,q⟩:=h;cases rx;obtain⟨t,rfl⟩:=ry;obtain⟨z,its,n,r,hl,e⟩:=I.lstM hH;have hlen:its.toArray.size * k.toNat<=sizeLine:=by rw[Qq,<- hl];exact hz
 have hcap:¬its.toArray.size * k.toNat > (2 ^ 63-1) / 8:=by
  have:(sizeLine:Nat)<=(2 ^ 63-1) / 8:=by decide
  lia
 have hfit:¬(!Builtin.List.listFitsIndex k)=true:=by
  rw[fitsIndex_both h1 h2];exact Qo
 have hlong:¬Je (its.toArray.size * k.toNat)=true:=by
  rw[zut hlen];exact Qo
 have hnew:J7 (λx1 x2=>x1++x2) #[] (Qh (if its.toArray.isEmpty=true then 0 else k.toNat) its.toArray)=(Qh k.toNat its).flatten.toArray:=by
  have f0:∀m:Nat,J7 (λx1 x2=>x1++x2) #[] (Qh m its.toArray)=(Qh m its).flatten.toArray:=λm=>by
   have:=zfv its m [];rw[Jj] at this;exact this
  rw[f0]
  cases its with
  | nil=>simp
  | cons a r'=>rw[Gn (by simp)]
 refine U3 (T := "list") (U := "int") (by decide) ⟨_,e,rfl⟩ (λs'=>UD s' k t) noFill_list_mul F.fills_int_mul JF repeat_list Vl.lookup
  (Ut JF (UD s k t) Vm (YV _ _) (int___rmul___int_list k t l its.toArray n)
   ⟨e,rfl,⟨_,e,rfl⟩,Ut F.slot_list_mul ⟨_,e,rfl⟩ F.entry_list_mul (F.args_list_mul_2 _ _) (AutoListH.list___mul___list_int_3 l its.toArray n k t hfit hcap hlong) ⟨e,?_⟩⟩)
 rw[hnew];exact⟨.ref _,_,I.lnew (t':=s.toks) (r.rep k.toNat) (by rw[zg5,Jw];exact hz),rfl,q _ I.fresh⟩
end
section
variable {κ:Type}[DecidableEq κ]
def valV(kvs:List (κ×V))(k:κ):Option V:=(kvs.find? λkv=>decide (kv.1=k)).map (·.2)
def putK(kvs:List (κ×V))(k:κ)(v:V):List (κ×V) :=
 if(kvs.any λkv=>decide (kv.1=k))=true then kvs.map (λkv=>if kv.1=k then(kv.1,v) else kv) else kvs ++ [(k,v)]
theorem zfq{p:κ×V}{r:List (κ×V)}{k:κ}(e:p.1=k):valV (p::r) k=some p.2:=by simp[valV,Zs,e]
theorem zfn{p:κ×V}{r:List (κ×V)}{k:κ}(e:¬p.1=k):valV (p::r) k=valV r k:=by simp[valV,Zs,e]
theorem zeb(k:κ):∀kvs:List (κ×V),(kvs.any λkv=>decide (kv.1=k))=(valV kvs k).isSome
 | []=>rfl
 | p::r=>by
   rw[YF]
   by_cases e:p.1=k
   .simp only[zfq e,Gq e,Bool.true_or,YJ]
   .rw[zfn e,Gp e,Bool.false_or];exact zeb k r
theorem zel(kvs:List (κ×V))(k:κ)(v:V):(putK kvs k v).length<=kvs.length+1:=by
 unfold putK
 split
 .rw[Qb];lia
 .rw[Qi,Qs,Yu];lia
theorem RelO.isSome_eq(r:RelO o u):o.isSome=u.isSome:=by
 cases o with
 | none=>cases u with
   | none=>rfl
   | some _=>exact(show False from r).elim
 | some _=>cases u with
   | none=>exact(show False from r).elim
   | some _=>rfl
theorem RelO.getD{d:V}(r:RelO o u)(rd:RelV d d'):RelV (o.getD d) (u.getD d'):=by
 cases o with
 | none=>cases u with
   | none=>exact rd
   | some _=>exact(show False from r).elim
 | some _=>cases u with
   | none=>exact(show False from r).elim
   | some _=>exact r
theorem KV.val(r:KV kvs vs)(k:κ):RelO (valV kvs k) (UN vs k):=by
 unfold KV at r
 induction r with
 | nil=>exact Z1
 | @cons p q ps qs h t ih=>
   obtain⟨h1,h2⟩:=h
   by_cases e:p.1=k
   .have e':q.1=k:=h1.symm.trans e;have b:UN (q::qs) k=some q.2:=by simp[UN,Zs,e']
    rw[zfq e,b];exact h2
   .have e':¬q.1=k:=λz=>e (h1.trans z);have b:UN (q::qs) k=UN qs k:=by simp[UN,Zs,e']
    rw[zfn e,b];exact ih
theorem KV.any(r:KV kvs vs)(k:κ):(kvs.any λkv=>decide (kv.1=k))=vs.any λkv=>decide (kv.1=k):=by
 unfold KV at r
 induction r with
 | nil=>rfl
 | cons h t ih=>rw[YF,YF,ih,h.1]
theorem KV.repl(r:KV kvs vs)(k:κ)(ry:RelV y u):
 KV (kvs.map λkv=>if kv.1=k then(kv.1,y) else kv) (vs.map λkv=>if kv.1=k then(kv.1,u) else kv):=by
 unfold KV at r ⊢
 induction r with
 | nil=>exact .nil
 | @cons p q ps qs h t ih=>
   rw[Qp,Qp];refine .cons ?_ ih;obtain⟨h1,h2⟩:=h
   by_cases e:p.1=k
   .rw[Gm e,Gm (h1.symm.trans e)];exact⟨h1,ry⟩
   .rw[Gn e,Gn (λz=>e (h1.trans z))];exact⟨h1,h2⟩
theorem KV.put(r:KV kvs vs)(k:κ)(ry:RelV y u):KV (putK kvs k y) (stored vs k u):=by
 unfold putK stored;rw[r.any k]
 by_cases e:(vs.any λkv=>decide (kv.1=k))=true
 .rw[Gm e,Gm e];exact r.repl k ry
 .rw[Gn e,Gn e];exact VF r ⟨rfl,ry⟩
theorem KV.length(r:KV kvs vs):kvs.length=vs.length:=JC r
end
theorem zfo{k:Key}(r:RelV (kV k) u):(za4 P w).is k u=true:=by
 cases k with
 | inl i=>obtain⟨t,e⟩:=(show ∃t,u=Vg i t from r);subst e;exact zm7 P w i t
 | inr x=>obtain⟨t,e⟩:=(show ∃t,u=Vh x t from r);subst e;exact zni P w x t
theorem zkg: ∀{ks:List Key} {us:List VJ},Vals (ks.map kV) us->ItemsAre (za4 P w) ks us
 | [],_,r=>by rw[Yo] at r;cases r;exact .nil
 | k::ks,_,r=>by
   rw[Qp] at r
   cases r with
   | cons h t=>exact .cons (zfo h) (zkg t)
abbrev KT(H:Hp):List (List Key×V)->List (List Key×Addr×VJ)->Prop:=UX λp q=>p.1=q.1/\H q.2.1=some (.tup (p.1.map kV))/\RelV p.2 q.2.2
theorem KT.val(r:KT H kvs xs)(k:List Key):RelO (valV kvs k) ((UZ xs k).map (·.2)):=by
 induction r with
 | nil=>exact Z1
 | @cons p q ps qs h t ih=>
   obtain⟨h1,_,h2⟩:=h
   by_cases e:p.1=k
   .have e':q.1=k:=h1.symm.trans e;have b:UZ (q::qs) k=some q.2:=by simp[UZ,Zs,e']
    rw[zfq e,b];exact h2
   .have e':¬q.1=k:=λz=>e (h1.trans z);have b:UZ (q::qs) k=UZ qs k:=by simp[UZ,Zs,e']
    rw[zfn e,b];exact ih
theorem KT.repl(r:KT H kvs xs)(k:List Key)(ry:RelV y u):
 KT H (kvs.map λkv=>if kv.1=k then(kv.1,y) else kv) (xs.map (putAt k u)):=by
 induction r with
 | nil=>exact .nil
 | @cons p q ps qs h t ih=>
   rw[Qp,Qp];refine .cons ?_ ih;obtain⟨h1,h2,h3⟩:=h;unfold putAt
   by_cases e:p.1=k
   .rw[Gm e,Gm (h1.symm.trans e)];exact⟨h1,h2,ry⟩
   .rw[Gn e,Gn (λz=>e (h1.trans z))];exact⟨h1,h2,h3⟩
theorem KT.put(r:KT H kvs xs)(k:List Key)(hb:H b=some (.tup (k.map kV)))(ry:RelV y u):
 KT H (putK kvs k y) (storedH xs k b u):=by
 have e:(kvs.any λkv=>decide (kv.1=k))=(UZ xs k).isSome:=by
  rw[zeb,(r.val k).isSome_eq,Zg]
 unfold putK storedH;rw[e]
 by_cases q:(UZ xs k).isSome=true
 .rw[Gm q,Gm q];exact r.repl k ry
 .rw[Gn q,Gn q];exact VF r ⟨rfl,hb,ry⟩
theorem KT.keeps(r:KT H kvs xs)(ht:∀b ys,H b=some (.tup ys)->H' b=some (.tup ys)):KT H' kvs xs :=
 Paired.mapP r λ_ _ z=>⟨z.1,ht _ _ z.2.1,z.2.2⟩
section
variable {P:VO}{w:VR}{H:Hp}{h:Heap}{a:Addr}
theorem zuw(ok:HOk P w H h)(e:Rd H a u):ObjOk P w H h a u:=e.ok ok
theorem zei(ok:HOk P w H h)(e:Rd H a (.dK kvs)):kvs.length<=sizeLine/\(a == Uj)=false/\∃vs,KV kvs vs/\h.DictOf (za4 P w) a vs :=
 show ObjOk P w H h a (.dK kvs) from zuw ok e
theorem zv4(ok:HOk P w H h)(e:H a=some (.dK kvs)):kvs.length<=sizeLine/\(a == Uj)=false/\∃vs,KV kvs vs/\h.DictOf (za4 P w) a vs:=zei ok (.inl e)
theorem zev(ok:HOk P w H h)(e:H a=some (.tup (ks.map kV))):(tupleKind (za4 P w)).is h ks a:=by
 obtain⟨_,its,r,o,h1,h2,n,h3⟩:=(show ObjOk P w H h a (.tup (ks.map kV)) from ok a _ e);exact⟨o,its.toArray,n,h1,h2,h3,by simpa using zkg r⟩
theorem zfk(ok:HOk P w H h)(e:Rd H a (.dT kvs)):kvs.length<=sizeLine/\(a == Uj)=false /\
 ∃xs,KT H kvs xs/\h.DictOfH (tupleKind (za4 P w)) a xs:=by
 obtain⟨z,y,xs,r,o,es,ep,h1,h2,h3,h4,h5⟩:=(show ObjOk P w H h a (.dT kvs) from zuw ok e);refine⟨z,y,xs,r,o,es,ep,h1,h2,h3,h4,λx hx=>?_,h5⟩
 have all:∀{l:List (List Key×V)} {m:List (List Key×Addr×VJ)},KT H l m->∀x∈m,(tupleKind (za4 P w)).is h x.1 x.2.1:=by
  intro l m q
  induction q with
  | nil=>intro x hx;exact nomatch hx
  | @cons p q ps qs hq t ih=>
    intro x hx;rcases Q1.mp hx with e|hx
    .subst e;exact zev ok (by rw[<- hq.1];exact hq.2.1)
    .exact ih x hx
 exact all r x hx
theorem z0v(ok:HOk P w H h)(e:H a=some (.dT kvs)):kvs.length<=sizeLine/\(a == Uj)=false /\
 ∃xs,KT H kvs xs/\h.DictOfH (tupleKind (za4 P w)) a xs:=zfk ok (.inl e)
end
def DGet(H:Hp)(a:Addr)(y:V)(r:Option V):Prop :=
 (∃kvs k,Rd H a (.dK kvs)/\y=kV k/\r=valV kvs k)\/∃kvs k b,Rd H a (.dT kvs)/\y = .ref b/\H b=some (.tup (k.map kV))/\r=valV kvs k
def DPut(H:Hp)(a:Addr)(y v:V)(H':Hp):Prop :=
 (∃kvs k,H a=some (.dK kvs)/\y=kV k/\kvs.length<sizeLine/\H'=upd H a (.dK (putK kvs k v))) \/
 ∃kvs k b,H a=some (.dT kvs)/\y = .ref b/\H b=some (.tup (k.map kV))/\kvs.length<sizeLine/\H'=upd H a (.dT (putK kvs k v))
theorem DGet.k{k:Key}(e:H a=some (.dK kvs)):DGet H a (kV k) (valV kvs k):=.inl ⟨kvs,k,.inl e,rfl,rfl⟩
theorem DGet.t{k:List Key}(e:H a=some (.dT kvs))(eb:H b=some (.tup (k.map kV))):DGet H a (.ref b) (valV kvs k):=.inr ⟨kvs,k,b,.inl e,rfl,eb,rfl⟩
theorem DPut.k{k:Key}(e:H a=some (.dK kvs))(hl:kvs.length<sizeLine):DPut H a (kV k) v (upd H a (.dK (putK kvs k v))):=.inl ⟨kvs,k,e,rfl,hl,rfl⟩
theorem DPut.t{k:List Key}(e:H a=some (.dT kvs))(eb:H b=some (.tup (k.map kV)))(hl:kvs.length<sizeLine):
 DPut H a (.ref b) v (upd H a (.dT (putK kvs k v))):=.inr ⟨kvs,k,b,e,rfl,eb,hl,rfl⟩
section
variable {X:Cx}{pins:List (Addr×Obj)}{σ:St}{H:Hp}{s:VN}{a:Addr}{y v:V}{u r:VJ}{o:Option V}{A:VY}{E:VJ->VN->Prop}
theorem Inv.big(I:Inv X pins σ H s):Uj<s.heap.objs.size:=by
 have h:mainGlobals<s.heap.objs.size:=(I.mod.glob.keeps I.bk).lt;exact Nat.lt_trans (by decide) h
theorem zso(hu:A.units+1<U5)(I:Inv X pins σ H s)(g:DGet H a y (some v))(ry:RelV y u)(h:∀w' s',Inv X pins σ H s'->RelV v w'->Q w' s'):
 wpAny (model X.prog X.w) A (Uw (.ref a) u) Q E s:=by
 rcases g with ⟨kvs,k,e,ey,l⟩|⟨kvs,k,b,e,ey,eb,l⟩
 .subst ey;obtain⟨z,hd,vs,rel,dd⟩:=zei I.hok e;obtain⟨w',hw,rw'⟩:=RelO.some_of (v:=v) (o:=UN vs k) (by rw[l];exact rel.val k);exact wpAny_getItem_of (zfo ry) dd.mapOf hw (h w' _ (I.tok _) rw')
 .subst ey;cases (show u=QS b from ry);obtain⟨z,hd,xs,rel,dd⟩:=zfk I.hok e;obtain⟨w',hw,rw'⟩:=RelO.some_of (v:=v) (o:=(UZ xs k).map (·.2)) (by rw[l];exact rel.val k);obtain⟨p,hp,hp2⟩:=Qf.mp hw;refine wpAny_getItem_heap (Uq hu) (zev I.hok eb) dd hp ?_;rw[hp2];exact h w' _ (I.tok _) rw'
theorem d_in(hu:A.units+1<U5)(I:Inv X pins σ H s)(g:DGet H a y o)(ry:RelV y u)(h:∀s',Inv X pins σ H s'->Q (.bool o.isSome) s'):
 wpAny (model X.prog X.w) A (Ub .In u (.ref a)) Q E s:=by
 rcases g with ⟨kvs,k,e,ey,l⟩|⟨kvs,k,b,e,ey,eb,l⟩
 .subst ey;obtain⟨z,hd,vs,rel,dd⟩:=zei I.hok e;refine wpAny_in_of (zfo ry) hd dd.mapOf ?_;rw[<- (rel.val k).isSome_eq,<- l];exact h _ (I.tok _)
 .subst ey;cases (show u=QS b from ry);obtain⟨z,hd,xs,rel,dd⟩:=zfk I.hok e;refine wpAny_in_heap (Uq hu) (zev I.hok eb) hd dd ?_;have q:=(rel.val k).isSome_eq;rw[Zg] at q;rw[<- q,<- l];exact h _ (I.tok _)
theorem zw0(hu:A.units+1<U5)(I:Inv X pins σ H s)(g:DGet H a y o)(ry:RelV y u)(h:∀s',Inv X pins σ H s'->Q (.bool (!o.isSome)) s'):
 wpAny (model X.prog X.w) A (Ub .NotIn u (.ref a)) Q E s:=by
 rcases g with ⟨kvs,k,e,ey,l⟩|⟨kvs,k,b,e,ey,eb,l⟩
 .subst ey;obtain⟨z,hd,vs,rel,dd⟩:=zei I.hok e;refine wpAny_notIn_of (zfo ry) hd dd.mapOf ?_;rw[<- (rel.val k).isSome_eq,<- l];exact h _ (I.tok _)
 .subst ey;cases (show u=QS b from ry);obtain⟨z,hd,xs,rel,dd⟩:=zfk I.hok e;refine wpAny_notIn_heap (Uq hu) (zev I.hok eb) hd dd ?_;have q:=(rel.val k).isSome_eq;rw[Zg] at q;rw[<- q,<- l];exact h _ (I.tok _)
theorem zja{t':Nat}(I:Inv X pins σ H s)(mu:Mut (H a))(hs:Zo a s.heap h')(he:∃q,h'.get? a=some q)(new:ObjOk X.prog X.w (upd H a ob) h' a ob):
 Inv X pins σ (upd H a ob) { s with heap:=h',toks:=t' } :=
 I.write (x:=a) (e:=a) mu (.inl rfl) (λb q hb z=>(hs.2 b hb).trans z) he new
theorem zmm(z:kvs.length<=sizeLine)(hd:(a == Uj)=false)(rel:KV kvs vs)(dd:h'.DictOf (za4 P w) a vs):
 ObjOk P w H' h' a (.dK kvs):=⟨z,hd,vs,rel,dd⟩
theorem zqx(hu:A.units+1<U5)(I:Inv X pins σ H s)(g:DPut H a y v H')(ry:RelV y u)(rv:RelV v r)(h:∀s',Inv X pins σ H' s'->Q () s'):
 wpAny (model X.prog X.w) A (setItem (.ref a) u r) Q E s:=by
 rcases g with ⟨kvs,k,e,ey,l,eH⟩|⟨kvs,k,b,e,ey,eb,l,eH⟩
 .subst ey eH;obtain⟨z,hd,vs,rel,dd⟩:=zv4 I.hok e;have hz:vs.length<=sizeLine:=by rw[<- rel.length];exact z
  have hl:(putK kvs k v).length<=sizeLine:=by have:=zel kvs k v;lia
  refine wpAny_setItem_pairs (hsz:=hz) (zfo ry) dd λh' dd' hs=>h _ ?_;have he:∃q,h'.get? a=some q:=let ⟨q,_,_,hq,_⟩:=dd';⟨q,hq⟩
  exact zja I (by rw[e];exact Z1) hs he (zmm hl hd (rel.put k rv) dd')
 .subst ey eH;cases (show u=QS b from ry);obtain⟨z,hd,xs,rel,dd⟩:=z0v I.hok e;have hz:xs.length<=sizeLine:=by rw[<- JC rel];exact z
  have hl:(putK kvs k v).length<=sizeLine:=by have:=zel kvs k v;lia
  refine wpAny_setItem_heap (hsz:=hz) (Uq hu) (zev I.hok eb) dd λh' dd' hs=>h _ ?_;obtain⟨q,es,ep,hq,h2,h3,h4,_,h5⟩:=dd';refine zja I (by rw[e];exact Z1) hs ⟨q,hq⟩ ⟨hl,hd,_,(rel.put k eb rv).keeps λc ys ec=>?_,q,es,ep,hq,h2,h3,h4,h5⟩;rw[zac (z1j ec e (λz=>nomatch z))];exact ec
end
def NoSl(i:Expr):Prop:=∀ov iv,subscripted i false ov iv=operate [ov,iv] (Uw ov iv)
theorem zxf{prog:VO}{w:VR}{A:VY}{E:VJ->VN->Prop}{s:VN}{env:Env}{value slice:Expr}{pos:Pos}{T id:String}{Q:VJ->VN->Prop}
 (hl:UR (.type T) "__getitem__" = pure (some (.builtin id))) (hs:NoSl slice)
 (h:wpAny (model prog w) A (eval value env) (λo s₁=>wpAny (model prog w) A (eval slice env) (λi s₂=>s₂.TypeIs o T/\wpAny (model prog w) A (Uw o i) Q E s₂) E s₁) E s) :
 wpAny (model prog w) A (eval (.Subscript value slice pos) env) Q E s:=by
 refine Subscript_ (Uk h (λo s₁ h₁=>Uk h₁ (λi s₂ h₂=>?_) λ_ _ x=>x) λ_ _ x=>x);obtain⟨hT,h₂⟩:=h₂;unfold UP;refine VL ?_;rw[getitemInPython_of_ne hT.not_modules];refine VL (U1 hT hl ?_)
 have fin:wpAny (model prog w) A (subscripted slice false o i) (λr s₃=>wpAny (model prog w) A (letTemporaryGo value o r >>= λ_=>pure r) Q E s₃) E s₂:=by
  rw[hs o i];exact wpAny_operating (Uk h₂ (λr s₃ h₃=>VL (wpAny_letTemporaryGo (VQ h₃))) λ_ _ x=>x)
 first
  | exact VQ (VL fin)
  | exact VL (VQ (VL fin))
  | exact VL fin
theorem zng{pins:List (Addr×Obj)}(I:Inv X pins σ H s)(g:DGet H a y o):s.TypeIs (.ref a) "dict" := by
 rcases g with ⟨kvs,k,e,_,_⟩|⟨kvs,k,b,e,_,_,_⟩
 .obtain⟨_,_,vs,_,dd⟩:=zei I.hok e;exact dd.typeIs
 .obtain⟨_,_,xs,_,dd⟩:=zfk I.hok e;exact dd.typeIs
def zk4(td ty:TE):TE:=λσ H Q=>td σ H λx H1=>ty σ H1 λy H2=>∃a v,x = .ref a/\DGet H2 a y (some v)/\Q v H2
def tDIn(ty td:TE):TE:=λσ H Q=>ty σ H λy H1=>td σ H1 λx H2=>∃a o,x = .ref a/\DGet H2 a y o/\Q (.bl o.isSome) H2
def zjl(ty td:TE):TE:=λσ H Q=>ty σ H λy H1=>td σ H1 λx H2=>∃a o,x = .ref a/\DGet H2 a y o/\Q (.bl (!o.isSome)) H2
def ze1(td ty tv:TE):TS:=λD σ H=>tv σ H λv H1=>td σ H1 λx H2=>ty σ H2 λy H3=>∃a H4,x = .ref a/\DPut H3 a y v H4/\D.nx σ H4
section
variable {X:Cx}{o i e value:Expr}{pos pos' tpos:Pos}{td ty tv:TE}
theorem zck(hu:X.A.units+1<U5)(ho:PE X o td)(hi:PE X i ty)(hs:NoSl i):PE X (.Subscript o i pos) (zk4 td ty):=by
 intro pins s σ H Q I h;refine zxf PySem.F.slot_dict_getitem.lookup hs (thn (ho pins s σ H _ I h) λu s1 ⟨x,H1,I1,rx,q1⟩=>thn (hi pins s1 σ H1 _ I1 q1) λiv s2 zz=>?_);obtain⟨y,H2,I2,ry,a,v,ex,g,q2⟩:=zz;subst ex;obtain rfl:u=QS a:=rx;exact⟨zng I2 g,zso hu I2 g ry λw' s3 I3 rw'=>⟨v,H2,I3,rw',q2⟩⟩
theorem zqz(hu:X.A.units+1<U5)(hi:PE X i ty)(ho:PE X o td):PC X .In i o (tDIn ty td):=by
 intro pins s σ H Q I h;refine thn (hi pins s σ H _ I h) λiv s1 ⟨y,H1,I1,ry,q1⟩=>thn (ho pins s1 σ H1 _ I1 q1) λu s2 zz=>?_;obtain⟨x,H2,I2,rx,a,ov,ex,g,q2⟩:=zz;subst ex;obtain rfl:u=QS a:=rx;exact d_in hu I2 g ry λs3 I3=>⟨.bl ov.isSome,H2,I3,rfl,q2⟩
theorem zjx(hu:X.A.units+1<U5)(hi:PE X i ty)(ho:PE X o td):PC X .NotIn i o (zjl ty td):=by
 intro pins s σ H Q I h;refine thn (hi pins s σ H _ I h) λiv s1 ⟨y,H1,I1,ry,q1⟩=>thn (ho pins s1 σ H1 _ I1 q1) λu s2 zz=>?_;obtain⟨x,H2,I2,rx,a,ov,ex,g,q2⟩:=zz;subst ex;obtain rfl:u=QS a:=rx;exact zw0 hu I2 g ry λs3 I3=>⟨.bl (!ov.isSome),H2,I3,rfl,q2⟩
theorem zdz(hu:X.A.units+1<U5)(ho:PE X o td)(hi:PE X i ty)(hv:PE X value tv)(hs:VX value (some (.Subscript o i pos')) pos.line X.env=pure false):
 PS X (.Assign [.Subscript o i pos'] value pos) (ze1 td ty tv):=by
 intro pins s σ H D I h;refine wpAny_Assign_Subscript (thn (hv pins s σ H _ I h) λr s1 ⟨v,H1,I1,rv,q1⟩=>thn (ho pins s1 σ H1 _ I1 q1) λu s2 ⟨x,H2,I2,rx,q2⟩=>thn (hi pins s2 σ H2 _ I2 q2) λiv s3 zz=>?_) hs;obtain⟨y,H3,I3,ry,a,H4,ex,g,q3⟩:=zz;subst ex;obtain rfl:u=QS a:=rx;exact zqx hu I3 g ry rv λs4 I4=>⟨σ,H4,I4,q3⟩
end
theorem zly(h:Heap)(hb:Uj<h.objs.size):ObjOk P w H (h.push { cls:=.type "dict",data:=.dict #[] }) h.objs.size (.dK []) :=
 ⟨QC _,beq_eq_false_iff_ne.mpr (Zt (Q5 hb)),[],.nil,Heap.DictOf.new h⟩
theorem zud(h:Heap)(hb:Uj<h.objs.size):ObjOk P w H (h.push { cls:=.type "dict",data:=.dict #[] }) h.objs.size (.dT []) :=
 ⟨QC _,beq_eq_false_iff_ne.mpr (Zt (Q5 hb)),[],.nil,_,#[],0,Qv _ rfl,⟨rfl,rfl,rfl⟩,rfl,rfl,List.nodup_nil⟩
def zr8:TE:=λ_ H Q=>∀p,H p=none->Q (.ref p) (upd H p (.dK []))
def zr1:TE:=λ_ H Q=>∀p,H p=none->Q (.ref p) (upd H p (.dT []))
section
variable {X:Cx}{pos:Pos}
theorem zta:PE X (.Dict [] [] pos) zr8:=λpins s σ H Q I h=>
 wpAny_Dict_empty ⟨.ref s.heap.objs.size,_,I.laid (a:=s.heap.objs.size) (o:=.dK []) (t':=s.toks) (λ_ _ q=>Qg _ q) (Qe _) (zly s.heap I.big),rfl,h _ (I.hok.fresh (Qe _))⟩
theorem zsv:PE X (.Dict [] [] pos) zr1:=λpins s σ H Q I h=>
 wpAny_Dict_empty ⟨.ref s.heap.objs.size,_,I.laid (a:=s.heap.objs.size) (o:=.dT []) (t':=s.toks) (λ_ _ q=>Qg _ q) (Qe _) (zud s.heap I.big),rfl,h _ (I.hok.fresh (Qe _))⟩
end
def zml:List (TE×TE)->St->Hp->(List (V×V)->Hp->Prop)->Prop
 | [],_,H,Q=>Q [] H
 | (tk,tv)::r,σ,H,Q=>tk σ H λx H1=>tv σ H1 λy H2=>zml r σ H2 λps H3=>Q ((x,y)::ps) H3
abbrev VV:List (V×V)->List (VJ×VJ)->Prop:=UX λp q=>RelV p.1 q.1/\RelV p.2 q.2
def PPs(X:Cx)(pos:Pos)(keys:List (Option Expr))(values:List Expr)(trs:List (TE×TE)):Prop :=
 ∀(pins:List (Addr×Obj)) (s:VN) (σ:St) (H:Hp) (Q:List (V×V)->Hp->Prop),Inv X pins σ H s->zml trs σ H Q ->
   wpAny (model X.prog X.w) X.A (evalPairs (pairTrees keys values X.env pos)) (λvs s'=>∃ps H',Inv X pins σ H' s'/\VV ps vs/\Q ps H') X.xe s
theorem zny: PPs X pos [] [] []:=λpins s σ H Q I h=>pairTrees_nil_walk ⟨[],H,I,.nil,h⟩
theorem zfe{k:Expr}(hk:PE X k tk)(hv:PE X v tv)(hr:PPs X pos ks vs trs):
 PPs X pos (some k::ks) (v::vs) ((tk,tv)::trs):=λpins s σ H Q I h=>
 pairTrees_cons_walk (thn (hk pins s σ H _ I h) λu s1 ⟨x,H1,I1,rx,q1⟩=>thn (hv pins s1 σ H1 _ I1 q1) λw2 s2 ⟨y,H2,I2,ry,q2⟩=>
  thn (hr pins s2 σ H2 _ I2 q2) λws s3 ⟨ps,H3,I3,rel,q3⟩=>⟨(x,y)::ps,H3,I3,.cons ⟨rx,ry⟩ rel,q3⟩)
def zd3(kvs more:List (Key×V)):List (Key×V):=more.foldl (λacc kv=>putK acc kv.1 kv.2) kvs
theorem KV.merge:∀{more:List (Key×V)} {rs:List (Key×VJ)} {kvs:List (Key×V)} {vs:List (Key×VJ)},KV more rs->KV kvs vs->KV (zd3 kvs more) (merged vs rs):=by
 intro more rs kvs vs r;unfold KV at r
 induction r generalizing kvs vs with
 | nil=>intro q;exact q
 | @cons p q ps qs h t ih=>
   intro r0
   have e:KV (putK kvs p.1 p.2) (stored vs q.1 q.2):=by
    have:=r0.put p.1 h.2;rw[<- h.1];exact this
   exact ih e
theorem zfr:∀(more kvs:List (Key×V)),(zd3 kvs more).length<=kvs.length+more.length
 | [],kvs=>by show kvs.length<=kvs.length+0;lia
 | p::r,kvs=>by
   have h1:=zfr r (putK kvs p.1 p.2);have h2:=zel kvs p.1 p.2;show(zd3 (putK kvs p.1 p.2) r).length<=_;rw[Qs];lia
theorem zir: ∀{kvs:List (Key×V)} {ws:List (VJ×VJ)},VV (kvs.map λkv=>(kV kv.1,kv.2)) ws->∃rs,Carries (za4 P w) ws rs/\KV kvs rs
 | [],_,r=>by rw[Yo] at r;cases r;exact⟨[],Z1,.nil⟩
 | p::kvs,_,r=>by
   rw[Qp] at r
   cases r with
   | @cons a b as bs h t=>
     obtain⟨rs,c,q⟩:=zir (P:=P) (w:=w) t;obtain⟨b1,b2⟩:=b;exact⟨(p.1,b2)::rs,⟨zfo h.1,rfl,c⟩,.cons ⟨rfl,h.2⟩ q⟩
def zp0(trs:List (TE×TE)):TE:=λσ H Q=>∀p,H p=none->zml trs σ (upd H p (.dK [])) λps H2=>H2 p=some (.dK [])/\∃kvs:List (Key×V),ps=kvs.map (λkv=>(kV kv.1,kv.2))/\kvs.length<=15/\Q (.ref p) (upd H2 p (.dK (zd3 [] kvs)))
theorem zon{keys:List (Option Expr)}{values:List Expr}(h:PPs X pos keys values trs)(hall:keys.all (·.isSome)=true)(hl:keys.length=values.length)(h0:keys≠[])
 (h15:keys.length<=15):PE X (.Dict keys values pos) (zp0 trs):=by
 intro pins s σ H Q I q;have hn:=I.hok.fresh (Qe s.heap.objs.size);have I1:=I.laid (a:=s.heap.objs.size) (o:=.dK []) (h':=s.heap.push { cls:=.type "dict",data:=.dict #[] }) (t':=s.toks) (λ_ _ q=>Qg _ q) (Qe _) (zly s.heap I.big);refine wpAny_Dict_walk (knd:=za4 X.prog X.w) hall hl h0 h15 (thn (h pins _ σ _ _ I1 (q _ hn)) λws s2 zz=>?_);obtain⟨ps,H2,I2,rel,e,kvs,ep,lk,q2⟩:=zz;subst ep;obtain⟨rs,c,rk⟩:=zir (P:=X.prog) (w:=X.w) rel;obtain⟨z,hd,vs0,r0,dd⟩:=zv4 I2.hok e;cases r0;refine⟨rs,c,dd,λh' dd' hs=>⟨.ref s.heap.objs.size,_,?_,rfl,q2⟩⟩
 have hz:(zd3 [] kvs).length<=sizeLine:=by
  have h1:=zfr kvs [];rw[Yu] at h1;rw[VP];lia
 have he:∃q,h'.get? s.heap.objs.size=some q:=let ⟨q,_,_,hq,_⟩:=dd';⟨q,hq⟩
 exact zja I2 (by rw[e];exact Z1) hs he (zmm hz hd (rk.merge .nil) dd')
structure M2(X:Cx)(o:Expr)(m:Str)(apos:Pos)(e f:Expr)(cpos:Pos):Prop where
 base:Ul o m X.env (eval o X.env)=eval o X.env
 few:((Ui cpos (VM [e,f] X.env)).all (λx=>!x.1) && (UJ cpos (Ux [] X.env)).all (λx=>x.1.isSome)
  && decide (([e,f]:List Expr).length+([]:List Uv).length+(if([]:List Uv).isEmpty then 0 else 1)<30))=true
 line:(apos.endLine == cpos.line)=true
 trees:Ui cpos (VM [e,f] X.env) = [(false,eval e X.env),(false,eval f X.env)]
def IsD(H:Hp)(a:Addr):Prop:=(∃kvs,Rd H a (.dK kvs))\/∃kvs,Rd H a (.dT kvs)
theorem z0j{pins:List (Addr×Obj)}(I:Inv X pins σ H s)(d:IsD H a):
 s.TypeIs (.ref a) "dict" /\ (∀b,QS a = .ref b->∃ob,s.heap.get? b=some ob/\ob.dict=none)/\(a == Uj)=false:=by
 rcases d with ⟨kvs,e⟩|⟨kvs,e⟩
 .obtain⟨_,hd,vs,_,dd⟩:=zei I.hok e;refine⟨dd.typeIs,λb q=>?_,hd⟩;cases q;obtain⟨ob,_,_,h1,h2,_⟩:=dd;exact⟨ob,h1,h2.2.1⟩
 .obtain⟨_,hd,xs,_,dd⟩:=zfk I.hok e;refine⟨dd.typeIs,λb q=>?_,hd⟩;cases q;obtain⟨ob,_,_,h1,h2,_⟩:=dd;exact⟨ob,h1,h2.2.1⟩
section
variable {X:Cx}{pins:List (Addr×Obj)}{σ:St}{H:Hp}{s:VN}{a:Addr}{y d:V}{u r:VJ}{o:Option V}{A:VY}{E:VJ->VN->Prop}
theorem zy9(hu:A.units+1<U5)(I:Inv X pins σ H s)(g:DGet H a y o)(ry:RelV y u)(rd:RelV d r)(h:∀w' s',Inv X pins σ H s'->RelV (o.getD d) w'->Q w' s'):
 wpAny (model X.prog X.w) A (call (.builtin "dict.get") [.ref a,u,r]) Q E s:=by
 rcases g with ⟨kvs,k,e,ey,l⟩|⟨kvs,k,b,e,ey,eb,l⟩
 .subst ey;obtain⟨z,hd,vs,rel,dd⟩:=zei I.hok e;refine call_meetsIn J1 dd.typeIs Yp (Ye _ _ _) (meets_dict_get_default (za4 X.prog X.w) a (zfo ry) hd r) ⟨_,dd.mapOf,h _ _ (I.tok _) ?_⟩;rw[l];exact(rel.val k).getD rd
 .subst ey;cases (show u=QS b from ry);obtain⟨z,hd,xs,rel,dd⟩:=zfk I.hok e;refine call_meetsIn J1 dd.typeIs Yp (Ye _ _ _) (meetsH_dict_get_default (tupleKind (za4 X.prog X.w)) a b hd r) ⟨Uq hu,k,xs,zev I.hok eb,dd,h _ _ (I.tok _) ?_⟩;rw[l];exact(rel.val k).getD rd
end
def zfz(td ty tx:TE):TE:=λσ H Q=>td σ H λx H1=>∃a,x = .ref a/\IsD H1 a/\ty σ H1 λy H2=>tx σ H2 λz H3=>∃o,DGet H3 a y o/\Q (o.getD z) H3
section
variable {X:Cx}{o e f:Expr}{apos cpos:Pos}{td ty tx:TE}
theorem zhu(hu:X.A.units+1<U5)(ho:PE X o td)(he:PE X e ty)(hf:PE X f tx)(m:M2 X o "get" apos e f cpos):PE X (.Call (.Attribute o "get" apos) [e,f] [] cpos) (zfz td ty tx):=by
 intro pins s σ H Q I h;refine wpAny_Call_method m.base m.few m.line PySem.F.plainAttrs_dict J1 PySem.F.type_dict_get (thn (ho pins s σ H _ I h) λu s1 zz=>?_);obtain⟨x,H1,I1,rx,a,ex,d,q1⟩:=zz;subst ex;obtain rfl:u=QS a:=rx;obtain⟨t1,t2,_⟩:=z0j I1 d;refine⟨t1,t2,?_⟩;rw[m.trees]
 refine ZL rfl (Y5 (Zm (thn (he pins s1 σ H1 _ I1 q1) λiv s2 ⟨y,H2,I2,ry,q2⟩=>
  Zm (thn (hf pins s2 σ H2 _ I2 q2) λfv s3 ⟨z,H3,I3,rz,ov,g,q3⟩=>ZA ?_))))
 exact zy9 hu I3 g ry rz λw' s4 I4 rw'=>⟨_,H3,I4,rw',q3⟩
end
section
variable {X:Cx}{pins:List (Addr×Obj)}{σ:St}{H:Hp}{s:VN}{a:Addr}{kvs:List (Key×V)}{A:VY}{E:VJ->VN->Prop}
theorem ztd(I:Inv X pins σ H s)(e:Rd H a (.dK kvs))(h:∀p s',H p=none->Inv X pins σ (upd H p (.dK kvs)) s'->Q (.ref p) s'):wpAny (model X.prog X.w) A (call (.type "dict") [.ref a]) Q E s:=by
 obtain⟨z,hd,vs,rel,dd⟩:=zei I.hok e;refine kt_call_dict hd dd (by rw[<- rel.length];exact z) λh' dd' hs=>?_;refine h _ _ (I.hok.fresh (Qe _)) (I.laid (a:=s.heap.objs.size) (o:=.dK kvs) (t':=s.toks) (λb q hq=>?_) (Qe _) (zmm z (beq_eq_false_iff_ne.mpr (Zt (Q5 I.big))) rel dd'));exact(hs.2 b (Q5 (Qt hq))).trans (Qg _ hq)
end
end L2
namespace Att
open PySem PySem.W PySem.Calls PyProof.Rows
theorem zh8: ∀(ns:List Int) (vs:List VJ),WellAll P h vs (ns.map WData.int)->Ge vs ns:=by
 intro ns
 induction ns with
 | nil=>
   intro vs w;rw[Yo] at w;cases w;exact .nil
 | cons n ns ih=>
   intro vs w;rw[Qp] at w
   cases w with
   | cons a b=>
     cases a;exact .cons _ _ (ih _ b)
theorem zqy{l:OpenLaw}{n:Nat}(hn:l.most=some n){P:Params}{h:Heap}{args:List WData}{vals:List VJ}
 (hpre:l.row.toRowW.claim.pre args=true) (hwl:WellAll P h vals args) :
 ∃a vs ns,vals = [QS a]/\args = [WData.list (ns.map WData.int)]/\h.get? a=some { cls:=.type "list",data:=.seq vs.toArray }/\Ge vs ns/\ns.length<=n:=by
 have hsh:WShape.hasAll [] args [.list .int]=true:=(pre_splitW hpre).1;have hc:l.pre.holds [] { args:=args }=true:=(pre_splitW hpre).2;obtain⟨d,r,rfl,h1,h2⟩:=hasAllW_cons hsh;obtain rfl:=hasAllW_nil h2;obtain⟨xs,rfl,h3⟩:=hasW_list h1;obtain⟨ns,rfl⟩:=items_int h3
 have hlen:ns.length<=n:=by
  unfold OpenLaw.pre at hc
  have h4:(WTm.not (.lt (.lit (.int (n:Int))) (.len (.arg 0)))).holds [] { args:=[.list (ns.map .int)] }=true:=by
   have h4:=(holds_andW hc).1;rw[hn] at h4;exact h4
  have h5:=condW_of h4 (w_not (w_lt w_lit (w_len_list (w_arg rfl))));rw[Qb] at h5;refine Yf λq=>?_;have q':(n:Int)<((ns.length:Nat):Int):=by lia
  first
   | (rw[Gq q'] at h5;exact absurd h5 (by decide))
   | (simp at h5;lia)
 cases hwl with
 | cons w1 w2=>
   cases w2
   cases w1 with
   | list ho hall=>exact⟨_,_,ns,rfl,rfl,ho,zh8 ns _ hall,hlen⟩
theorem zqi(l:OpenLaw)(args:List WData):l.row.toRowW.claim.post args (.bool true) args=true :=
 postW_of (r:=l.row.toRowW) (X:=(true == true))
  (show WShape.has [] (.bool true) .bool=true by first|rfl|decide|simp[WShape.has,WShape.arms,WShape.armsAll])
  (show(WTm.eq .res (.lit (.bool true))).value [] { args:=args,res:=some (.bool true),after:=args }=some (.bool (true == true)) from w_eq_bool (w_res rfl) w_lit) rfl
theorem attach_call{l:OpenLaw}{n:Nat}{q:VO}{loose:List Str}{XP:(Str->Option VJ)->Heap->Prop}{YP:VR->Heap->Prop}{d:DefRec}
 (hn:l.most=some n) (hdf:d.params.defaults = [])
 (call:∀(w:VR) (s₀ s₁:VN) (mg mb:Str->Option VJ) (fa:Addr) (o:Obj) (pm cd doc:VJ) (a:Addr) (vs:List VJ) (ns:List Int),
  Ground q loose [] XP w s₀ mg mb s₁.heap->YP w s₁.heap ->
  s₁.heap.get? fa=some o->o.data = .func (docDef d.name d.params d.body d.scope pm cd doc)->s₁.heap.CodeRec cd d.name->mg d.name=some (.ref fa) ->
  s₁.heap.get? a=some { cls:=.type "list",data:=.seq vs.toArray }->Ge vs ns->ns.length<=n->s₁.gens = #[] ->
  UT (model l.prog w) callerA (.call (.ref fa) ⟨[.ref a],[]⟩) (λr s'=>r = .ok (.ret (.bool true))/\OldK s₁.heap s'.heap/\s'.os=s₁.os/\U4 s'.gens) s₁) :
 WalkO q loose XP YP l.row.toRowW d [] (λf vs=>V0 f vs):=by
 intro w s₀ s₁ mg mb G Y fa o pm cd doc dV kV ho hd hcd hD hmg hg args vals as hpre hlay hrd hwl hlo;obtain rfl:dV = .none:=Dflts.none hD hdf;obtain rfl:kV = .none:=Dflts.noKw hD;obtain⟨a,vs,ns,rfl,rfl,hobj,hints,hlen⟩:=zqy hn hpre hwl;refine enter_call (UU (call w s₀ s₁ mg mb fa o pm cd doc a vs ns G Y ho (fd_plain hd) hcd hmg hobj hints hlen hg) λr s' hq=>?_);obtain⟨rfl,h2,h3,h4⟩:=hq;exact⟨.inl ⟨.bool true,.bool true,[],rfl,λ_=>rfl,.bool true,zqi l _,λ_=>⟨List.Pairwise.nil,λ_ hm=>(nomatch hm)⟩⟩,h2,h3,h4⟩
end Att
namespace L2
open PySem PySem.Spec PyProof.Rows
theorem zj7:∀{vs:List VJ} {ns:List Int},Ge vs ns->Vals (ns.map V.int) vs
 | _,_,.nil=>.nil
 | _,_,.cons n t h=>.cons ⟨t,rfl⟩ (zj7 h)
def Only(H:Hp):Prop:=∀b,H b=none\/∃o xs,H b=some (.frz o (.lst xs))
theorem ztp{P:VO}{w:VR}{K:Qa}{mg mb:Str->Option VJ}{CX:CXT}{k:Nat}{fa a:Addr}{fd:Us}{x:Str}{sp:Sp}{s₁:VN}{vs:List VJ}{ns:List Int}
 (KX:K.In s₁.heap) (hns:s₁.heap.Ns mainGlobals mg) (hb:s₁.heap.Ns builtinsNs mb) (hbb:∀x:Str,x ≠ "__name__" -> mb x=VS x) (hlim:s₁.heap.NoLimit) (hg:s₁.gens = #[])
 (ha:s₁.heap.get? a=some { cls:=.type "list",data:=.seq vs.toArray }) (hi:Ge vs ns) (hl:ns.length<=sizeLine) (hr:Room k callerA)
 (F:∀base:Heap,K.In base->base.Ns mainGlobals mg->FnOk P w K mg base CX k fa fd [x] sp) (hbind:∀(s:VN) (u:VJ),US s fd ⟨[u],[]⟩ [(x,u)])
 (hsp:∀H:Hp,Only H->SqL K H a (ns.map V.int)->sp [.ref a] H (λv _=>v = .bl true) λ_ _ _=>False)
 (hCX:∀H e s',CX [] H s₁ (λ_ _ _=>False) e s'->False) :
 UT (model P w) callerA (.call (.ref fa) ⟨[.ref a],[]⟩) (λr s'=>r = .ok (.ret (.bool true))/\OldK s₁.heap s'.heap/\s'.os=s₁.os/\U4 s'.gens) s₁:=by
 have rv:=zj7 hi;have lenV:=hi.length
 -- from an abstract heap in which nothing but the script may be tracked
 have core:∀H:Hp,Only H->SqL K H a (ns.map V.int)->HOk P w H s₁.heap->(∀b,H b≠none->b=a)->(H a≠none->K.lookup a=none) ->
  UT (model P w) callerA (.call (.ref fa) ⟨[.ref a],[]⟩) (λr s'=>r = .ok (.ret (.bool true))/\OldK s₁.heap s'.heap/\s'.os=s₁.os/\U4 s'.gens) s₁:=by
  intro H hO hS hok hA hK;have base_of:∀{b:Addr} {o:Obj},s₁.heap.get? b=some o->H b=none->(hidT s₁.heap H).get? b=some o:=λe n=>zua e n
  have noA:∀{b:Addr} {o:Obj} {es:Array DictEntry} {ep:Nat},s₁.heap.get? b=some o->o.data = .dict es ep->H b=none:=λ{b o es ep} e d=>by
   cases q:H b with
   | none=>rfl
   | some u=>
     have e':b=a:=hA b (by rw[q];simp);subst e';rw[ha] at e;cases e;have d':VG vs.toArray _=Data.dict es ep:=d;cases d'
  have nsK:∀{b:Addr} {m:Str->Option VJ},s₁.heap.Ns b m->(hidT s₁.heap H).Ns b m:=λ{b m} ⟨o,es,ep,e,d,r⟩=>⟨o,es,ep,base_of e (noA e d),d,r⟩
  have hKb:K.In (hidT s₁.heap H):=λb o e=>base_of (KX b o e) (by
   cases q:H b with
   | none=>rfl
   | some u=>
     have e':b=a:=hA b (by rw[q];simp);subst e'
     rw[hK (by rw[q];simp)] at e;cases e)
  have hM:Mod K mg (hidT s₁.heap H):=⟨hKb,nsK hns,⟨mb,nsK hb,hbb⟩,let ⟨mc,h1,h2⟩:=hlim;⟨mc,nsK h1,h2⟩⟩;have e0:Env0 P w K mg (hidT s₁.heap H) callerA [] s₁ H:=⟨rfl,hM,λb o e=>zx8 e,Nat.le_of_eq (zql _ _),trivial,λb hb=>absurd (show b∈([]:List Addr) from hb) (by simp),hok,.of_eq hg⟩;refine UU ((F _ hKb (nsK hns)).run callerA [] s₁ H ⟨[.ref a],[]⟩ [.ref a] [.ref a] _ _ hr e0 (hbind s₁ (.ref a)) (.cons rfl .nil) (hsp H hO hS)) λr s' h=>?_
  cases r with
  | error e=>exact(hCX H e s' h).elim
  | ok fl=>
    cases fl with
    | next=>exact ZK h
    | brk=>exact ZK h
    | cont=>exact ZK h
    | ret u=>
      obtain⟨v,H',os,bare,un,hok',r',q⟩:=h;have q':v = .bl true:=q;subst q';obtain rfl:u=ZJ true:=r';refine⟨rfl,OldK.of_keep λb o e=>?_,os,bare⟩
      cases q:H b with
      | none=>exact un.keep b o e q (by intro z;exact absurd (show b∈([]:List Addr) from z) (by simp)) (by simp)
      | some u=>
        rcases hO b with z|⟨ob,xs,z⟩
        .rw[q] at z;cases z
        .have z2:=un.frzs b ob _ z;obtain⟨e1,_⟩:=hok b _ z;obtain⟨e2,_⟩:=hok' b _ z2;rw[e] at e1;cases e1;exact e2
 cases hk:K.lookup a with
 | some o=>
   -- the script is one of the module's own objects
   have e:=KX a o hk;rw[ha] at e;cases e;refine core (λ_=>none) (λ_=>.inl rfl) (.inr ⟨_,vs.toArray,_,hk,rfl,rfl,rfl,by rw[Qq,lenV];exact hl,by simpa using rv⟩) (λb u z=>by have z':(none:Option HO)=some u:=z;cases z') (λb z=>absurd rfl z) λz=>absurd rfl z
 | none=>
   refine core (λb=>if b=a then some (.frz { cls:=.type "list",data:=.seq vs.toArray } (.lst (ns.map V.int))) else none) (λb=>?_) (.inl (.inr ⟨{ cls:=.type "list",data:=.seq vs.toArray },Gm rfl⟩)) (λb u z=>?_) (λb z=>?_) λ_=>hk
   .by_cases hb:b=a
    .exact .inr ⟨_,_,Gm hb⟩
    .exact .inl (Gn hb)
   .by_cases hb:b=a
    .have z':=(Gm hb).symm.trans z;cases z';subst hb;exact⟨ha,by rw[Qb];exact hl,vs,_,rv,ha⟩
    .have z':=(Gn hb).symm.trans z;cases z'
   .by_cases hb:b=a
    .exact hb
    .exact absurd (Gn hb) z
theorem walk_of{l:Yv}{n k:Nat}{q:VO}{loose:List Str}{XP:(Str->Option VJ)->Heap->Prop}{YP:VR->Heap->Prop}{d:DefRec}{K:Params->Qa}{CX:VR->CXT}{sp:VR->Sp}{x:Str}
 (hn:l.most=some n) (hn2:n<=sizeLine) (hdf:d.params.defaults = []) (hr:Room k callerA)
 (hY:∀(w:VR) (h:Heap),YP w h->(K w.params).In h)
 (F:∀(w:VR) (mg:Str->Option VJ) (fa:Addr) (h:Heap),(K w.params).In h->h.Ns mainGlobals mg->mg d.name=some (.ref fa) ->
  ∃fd:Us,(∀(s:VN) (u:VJ),US s fd ⟨[u],[]⟩ [(x,u)]) /\
    ∀base:Heap,(K w.params).In base->base.Ns mainGlobals mg->FnOk l.prog w (K w.params) mg base (CX w) k fa fd [x] (sp w))
 (hsp:∀(w:VR) (H:Hp) (a:Addr) (ns:List Int),ns.length<=n->Only H->SqL (K w.params) H a (ns.map V.int)->sp w [.ref a] H (λv _=>v = .bl true) λ_ _ _=>False)
 (hCX:∀(w:VR) (H:Hp) (s:VN) (e:VJ) (s':VN),CX w [] H s (λ_ _ _=>False) e s'->False) :
 V6 q loose XP YP l.row.toRowW d [] (λf vs=>V0 f vs):=by
 refine Att.attach_call hn hdf λw s₀ s₁ mg mb fa o pm cd doc a vs ns G Y ho hd hcd hmg hobj hints hlen hg=>?_;have KX:=hY w _ Y;obtain⟨fd,hb,hF⟩:=F w mg fa _ KX G.T.g hmg;exact ztp KX G.T.g G.T.b G.T.builtins G.T.nolimit hg hobj hints (Q3 hlen hn2) hr hF hb (λH hO hS=>hsp w H a ns hlen hO hS) λH e s'=>hCX w H s₁ e s'
def zbk(s:Stmt):Arguments:=match s with
 | .FunctionDef _ a _ _ _ _ _ _ _ _=>a
 | _=>{ posonlyargs:=[],args:=[],vararg:=none,kwonlyargs:=[],kw_defaults:=[],kwarg:=none,defaults:=[] }
def zay(s:Stmt):List Stmt:=match s with
 | .FunctionDef _ _ b _ _ _ _ _ _ _=>b
 | _=>[]
def zad(s:Stmt):Uo:=match s with
 | .FunctionDef _ _ _ _ _ _ sc _ _ _=>sc
 | _=>{ kind:=.function,names:=[],isGenerator:=false,isCoroutine:=false }
abbrev CX0:CXT:=λ_ _ _ _ _ _=>False
abbrev E0:XK:=λ_ _ _=>False
theorem zdg: zlp CX0 X E0:=λ_ _ _ _ _ _ _ h=>h.elim
structure Fun(K:Qa)(x qual:Str)(st:Stmt)(f:Addr)(fd:Us):Prop where
 ex:∃(oc:VJ) (od:Option Addr) (kV doc pm:VJ) (an:Option Addr) (cdv ct:VJ) (osl:Array (Option VJ)),
  fd=Zb x qual (zbk st) (zay st) (zad st) .none kV doc pm an cdv ct/\K.lookup f=some ⟨oc,od,.func fd,osl⟩/\Ju K cdv qual=true
 kp:ZV K (.ref f)=true
section
variable {P:VO}{w:VR}{K:Qa}{mg:Str->Option VJ}{base:Heap}
theorem Fun.ok{x qual:Str}{st:Stmt}{f:Addr}{fd:Us}{N ps:List Str}{k:Nat}{sp:Sp}(F:Fun K x qual st f fd)(S:FnScope N ps (zad st))(len:∀vs H Q E,sp vs H Q E->vs.length=ps.length)
 (hbody:∀(cdv:VJ) (A:VY) (outer:List Env) (s:VN) (H:Hp) (vs:List V) (Q:VK) (E:XK),Room k (A.deeper (UB qual (zad st) s.heap.objs.size f cdv))->sp vs H Q E ->
  ∃t,PSs (cxOf CX0 P w K mg base N qual (zad st) f cdv A outer s H E).nox (zay st) t/\t { nx:=λ_ H'=>Q .non H',rt:=Q } (start N vs) H):FnOk P w K mg base CX0 (k+1) f fd ps sp:=by
 obtain⟨oc,od,kV,doc,pm,an,cdv,ct,osl,rfl,lk,hcd⟩:=F.ex;refine z2a lk hcd S len λA outer s H vs Q E hr hsp=>?_;obtain⟨t,h,q⟩:=hbody cdv A outer s H vs Q E hr hsp;exact⟨t,h.nox,q⟩
theorem Fun.binds{x qual:Str}{st:Stmt}{f:Addr}{fd:Us}{ps:List Str}(F:Fun K x qual st f fd)
 (h:∀(kV doc pm:VJ) (an:Option Addr) (cdv ct:VJ) (us:List VJ),us.length=ps.length->Uc (Zb x qual (zbk st) (zay st) (zad st) .none kV doc pm an cdv ct) ⟨us,[]⟩=pure (ps.zip us)):Binds K fd ps []:=by
 obtain⟨oc,od,kV,doc,pm,an,cdv,ct,osl,rfl,lk,hcd⟩:=F.ex;exact .all (h kV doc pm an cdv ct)
theorem zqj{x qual:Str}{st:Stmt}{f:Addr}{oc:VJ}{od an:Option Addr}{osl:Array (Option VJ)}{kV doc pm cdv ct:VJ}(l:K.lookup f=some ⟨oc,od,.func (Zb x qual (zbk st) (zay st) (zad st) .none kV doc pm an cdv ct),osl⟩)
 (c:Ju K cdv qual=true) (k:ZV K (.ref f)=true):Fun K x qual st f (Zb x qual (zbk st) (zay st) (zad st) .none kV doc pm an cdv ct):=⟨⟨oc,od,kV,doc,pm,an,cdv,ct,osl,rfl,l,c⟩,k⟩
end
theorem zbe{k:Nat}(hr:Room k A):A.units+1<U5:=Nat.lt_of_le_of_lt (Nat.add_le_add_left (by decide:1<=64) _) hr.units
theorem iteF{A B:Prop}(h:B):if false=true then A else B:=by
 rw[Gn Qo];exact h
theorem iteT{A B:Prop}(h:A):if true=true then A else B:=by
 rw[Gm rfl];exact h
theorem ite2{c A B:Prop}[Decidable c](h1:c->A)(h2:¬c->B):if c then A else B:=by
 by_cases h:c
 .rw[Gm h];exact h1 h
 .rw[Gn h];exact h2 h
def Same(H H':Hp):Prop:=∀b o,H b=some o->H' b=some o
theorem Same.refl(H:Hp):Same H H:=λ_ _ h=>h
theorem Same.trans(a:Same H H1)(b:Same H1 H2):Same H H2:=λc o h=>b c o (a c o h)
theorem Same.free(e:Same H H')(h:H' l=QD):H l=QD:=by
 cases q:H l with
 | none=>rfl
 | some o=>
   rw[e l o q] at h;cases h
theorem Same.seq{K:Qa}{H H':Hp}{a:Addr}{xs:List V}(e:Same H H')(h:SqL K H a xs):SqL K H' a xs:=by
 rcases h with (h|⟨o,h⟩)|h
 .exact .inl (.inl (e _ _ h))
 .exact .inl (.inr ⟨o,e _ _ h⟩)
 .exact .inr h
end L2
set_option maxHeartbeats 4000000
namespace L3
open PySem PySem.Spec
open PyProof.Rows hiding St
open L2
theorem zpy{α β:Type}{l:List α}{f:α->β->Sem (ForInStep β)}(g:α->β->β):∀(c:β),(∀x∈l,∀c,f x c=pure (.yield (g x c)))->forIn l c f=pure (l.foldl (λc x=>g x c) c):=by
 induction l with
 | nil=>intro c _;rfl
 | cons x l ih=>
   intro c h;rw[List.forIn_cons,h x Qm,pure_bind];exact ih (g x c) λy hy=>h y (Qc _ hy)
def clOf(ns:List (Str×Up))(env:Env):List (Str×Addr):=ns.foldl (λcs x=>if x.2 == .free then(x.1,(env.cells.lookup x.1).getD 0)::cs else cs) []
theorem zo4{scope:Uo}(h:∀p∈scope.names,p.2 = .free->∃c,env.cells.lookup p.1=some c):closureFor scope env=pure (clOf scope.names env):=by
 simp only[closureFor];unfold clOf;rw[zpy (λ(x:Str×Up) (cs:List (Str×Addr))=>if x.2 == .free then(x.1,(env.cells.lookup x.1).getD 0)::cs else cs)]
 .rfl
 .intro x hx c;obtain⟨n,k⟩:=x;dsimp only
  by_cases hk:k = .free
  .subst hk;obtain⟨a,ha⟩:=h _ hx rfl;have ha':env.cells.lookup n=some a:=ha;simp only[Gs,Gu,cellOf,ha',pure_bind,Option.getD_some]
  .have hb:(k == QK)=false:=by simpa using hk
   simp only[hb,Z2,Gv]
theorem zyj{env:Env}{x:Str}:∀(ns:List (Str×Up)) (acc:List (Str×Addr)) (c:Addr),
 (ns.foldl (λcs y=>if y.2 == .free then(y.1,(env.cells.lookup y.1).getD 0)::cs else cs) acc).lookup x=some c->acc.lookup x=some c\/((x,QK)∈ns/\c=(env.cells.lookup x).getD 0):=by
 intro ns
 induction ns with
 | nil=>intro acc c h;exact .inl h
 | cons y r ih=>
   intro acc c h;obtain⟨n,k⟩:=y;rw[Z9] at h;rcases ih _ c h with h1|⟨h1,h2⟩
   .by_cases hk:k = .free
    .subst hk;simp only[Gs,Gu] at h1
     by_cases hx:x=n
     .subst hx;rw[Ze] at h1;cases h1;exact .inr ⟨Qm,rfl⟩
     .have hb:(x == n)=false:=by simpa using hx
      rw[Zn,hb] at h1;exact .inl h1
    .have hb:(k == QK)=false:=by simpa using hk
     simp only[hb,Z2,Gv] at h1;exact .inl h1
   .exact .inr ⟨Qc _ h1,h2⟩
theorem zm9{env:Env}{x:Str}:∀(ns:List (Str×Up)) (acc:List (Str×Addr)),(acc.lookup x).isSome=true\/(x,QK)∈ns ->
 ((ns.foldl (λcs y=>if y.2 == .free then(y.1,(env.cells.lookup y.1).getD 0)::cs else cs) acc).lookup x).isSome=true:=by
 intro ns
 induction ns with
 | nil => intro acc h;rcases h with h|h
          .exact h
          .exact absurd h (by simp)
 | cons y r ih=>
   intro acc h;obtain⟨n,k⟩:=y;rw[Z9];refine ih _ ?_
   by_cases hk:k = .free
   .subst hk;simp only[Gs,Gu]
    by_cases hx:x=n
    .subst hx;left;rw[Ze];rfl
    .have hb:(x == n)=false:=by simpa using hx
     rw[Zn,hb];rcases h with h|h
     .exact .inl h
     .rcases Q1.mp h with z|z
      .injection z with z1 _;exact absurd z1 hx
      .exact .inr z
   .have hb:(k == QK)=false:=by simpa using hk
    simp only[hb,Z2,Gv];rcases h with h|h
    .exact .inl h
    .rcases Q1.mp h with z|z
     .injection z with _ z2;exact absurd z2.symm hk
     .exact .inr z
theorem zpv(h:(clOf ns env).lookup x=some c):(x,QK)∈ns/\c=(env.cells.lookup x).getD 0:=by
 rcases zyj ns [] c h with z|z
 .cases z
 .exact z
theorem zrd(h:(x,QK)∈ns)(e:env.cells.lookup x=some c):(clOf ns env).lookup x=some c:=by
 obtain⟨d,hd⟩:=Zk.mp (zm9 (env:=env) ns [] (.inr h));have hd':(clOf ns env).lookup x=some d:=hd;rw[hd',(zpv hd').2,e];rfl
theorem zdb{env:Env}{x:Str}:∀(names:List (Str×Up)),
 (names.map λ(n,k)=>if(k == QK && env.scope.kind == .function && env.kindOf n == some .cell) then(n,QP) else(n,k)).lookup x =
  (names.lookup x).map λk=>if(k == QK && env.scope.kind == .function && env.kindOf x == some .cell) then QP else k
 | []=>rfl
 | (n,k)::r=>by
   have ih:=zdb (env:=env) (x:=x) r;show List.lookup x ((if(k == QK && env.scope.kind == .function && env.kindOf n == some .cell)=true then(n,QP) else(n,k))::_)=_
   by_cases hx:x=n
   .subst hx
    by_cases hc:(k == QK && env.scope.kind == .function && env.kindOf x == some .cell)=true
    .rw[Gm hc,Ze,Ze,Zl,Gm hc]
    .rw[Gn hc,Ze,Ze,Zl,Gn hc]
   .have hb:(x == n)=false:=by simpa using hx
    by_cases hc:(k == QK && env.scope.kind == .function && env.kindOf n == some .cell)=true
    .rw[Gm hc,Zn,hb,Zn,hb];exact ih
    .rw[Gn hc,Zn,hb,Zn,hb];exact ih
theorem zh5: ∀(names:List (Str×Up)) (h:Heap) (acc:List (Str×Addr)),(Ud h.objs.size names acc).lookup x=some c ->
 acc.lookup x=some c\/((x,QP)∈names/\h.objs.size<=c/\(pushCells h names).IsCell c none)
 | [],_,_,e=>.inl e
 | (n,k)::r,h,acc,e=>by
   unfold Ud at e;unfold pushCells
   by_cases hk:k = .cell
   .subst hk;simp only[Gs,Gu] at e ⊢;rw[<- QW h { cls:=.type "cell",data:=.cell none }] at e;rcases zh5 r _ _ e with z|⟨z1,z2,z3⟩
    .by_cases hx:x=n
     .subst hx;rw[Ze] at z;cases z;exact .inr ⟨Qm,Qe _,⟨_,UF r _ _ _ (Qv _ rfl),rfl⟩⟩
     .have hb:(x == n)=false:=by simpa using hx
      rw[Zn,hb] at z;exact .inl z
    .rw[QW] at z2;exact .inr ⟨Qc _ z1,by lia,z3⟩
   .have hb:(k == QP)=false:=by simpa using hk
    simp only[hb,Z2,Gv] at e ⊢;rcases zh5 r h acc e with z|⟨z1,z2,z3⟩
    .exact .inl z
    .exact .inr ⟨Qc _ z1,z2,z3⟩
theorem zim: ∀(names:List (Str×Up)) (n:Nat) (acc:List (Str×Addr)),(x,QP) ∉ names->(Ud n names acc).lookup x=acc.lookup x
 | [],_,_,_=>rfl
 | (y,k)::r,n,acc,h=>by
   have hr:(x,QP) ∉ r:=λz=>h (Qc _ z);unfold Ud
   by_cases hk:k = .cell
   .subst hk;simp only[Gs,Gu]
    have hx:(x == y)=false:=by
     have:x≠y:=λz=>h (by rw[z];exact Qm);simpa using this
    rw[zim r _ _ hr,Zn,hx]
   .have hb:(k == QP)=false:=by simpa using hk
    simp only[hb,Z2,Gv];exact zim r n acc hr
theorem zmw:∀(names:List (Str×Up)) (n:Nat) (acc:List (Str×Addr)),(∀x c,acc.lookup x=some c->c<n)->(∀x y c,acc.lookup x=some c->acc.lookup y=some c->x=y) ->
 ∀x y c,(Ud n names acc).lookup x=some c->(Ud n names acc).lookup y=some c->x=y
 | [],_,_,_,hi=>hi
 | (a,k)::r,n,acc,hb,hi=>by
   unfold Ud
   by_cases hk:k = .cell
   .subst hk;simp only[Gs,Gu]
    have lk:∀x c,((a,n)::acc).lookup x=some c->(x=a/\c=n)\/(x≠a/\acc.lookup x=some c):=λx c e=>by
     by_cases hx:x=a
     .subst hx;rw[Ze] at e;cases e;exact .inl ⟨rfl,rfl⟩
     .have hz:(x == a)=false:=by simpa using hx
      rw[Zn,hz] at e;exact .inr ⟨hx,e⟩
    refine zmw r (n+1) _ (λx c e=>?_) λx y c e1 e2=>?_
    .rcases lk x c e with ⟨_,z⟩|⟨_,z⟩
     .rw[z];exact Yg _
     .exact ZQ (hb x c z)
    .rcases lk x c e1 with ⟨z1,w1⟩|⟨z1,w1⟩ <;> rcases lk y c e2 with ⟨z2,w2⟩|⟨z2,w2⟩
     .rw[z1,z2]
     .exact absurd (hb y c w2) (by rw[w1];exact QY _)
     .exact absurd (hb x c w1) (by rw[w2];exact QY _)
     .exact hi x y c w1 w2
   .have hz:(k == QP)=false:=by simpa using hk
    simp only[hz,Z2,Gv];exact zmw r n acc hb hi
theorem zo2{scope:Uo}{globals:Addr}{qual:Str}{code:VJ}{builtins:Addr} 
 (h:∀h',h'.Ns s.heap.objs.size (λ_=>none)->(∀b o,s.heap.get? b=some o->h'.get? b=some o)->(∀x c,(Ud (s.heap.objs.size+1) scope.names cl).lookup x=some c->cl.lookup x=some c\/((x,QP)∈scope.names/\s.heap.objs.size+1<=c/\h'.IsCell c none)) ->
  Q (newEnv scope s.heap.objs.size globals (Ud (s.heap.objs.size+1) scope.names cl) qual none code (some env) builtins) { s with heap:=h' }) :
 wpAny M A (newFunctionEnv scope globals cl [] qual none code (some env) builtins) Q E s:=by
 simp only[newFunctionEnv,YJ,Gu];refine VL (wpAny_alloc ?_);refine VL (wpAny_layCells _ (λname kind cells=>by cases hkc:kind == QP <;> simp[hkc]) _ _ _ _ ?_);rw[show({ s with heap:=s.heap.push { cls:=.type "dict",data:=.dict #[] } }:VN).heap.objs.size=s.heap.objs.size+1 from QW ..];rw[List.forIn_nil];refine VL (VQ (VQ (h _ ((Heap.Ns.new s.heap (.type "dict")).keeps (UF _ _)) (λb o e=>UF _ _ b o (Qg _ e)) λx c e=>?_)));have:=zh5 scope.names (s.heap.push { cls:=.type "dict",data:=.dict #[] }) cl (x:=x) (c:=c) (by rw[QW];exact e);rwa [QW] at this
def zbv(X:Cx)(scope:Uo)(N':List Str)(C:Addr)(s:VN)(H:Hp)(ex:List Addr):Cx :=
 { X with N:=N',s₀:=s,H₀:=H,env:=compEnvC scope (Ud (C+1) scope.names (clOf scope.names X.env)) C X.env,outer:=X.stack,stack:=X.stack,ex:=ex,fn:=λx=>scope.names.lookup x == some .cell,pn:=[],xe:=λ_ _=>False }
def znu(h:Nat)(N' N:List Str)(names sc:List (Str×Up)):Bool :=
 decide (N'.length=h+N.length) && decide N'.Nodup
 && (names.all λp=>(p.2 != .cell || names.lookup p.1 == some .cell) && (p.2 != .local || names.lookup p.1 == some .local) && (p.2 != .free || (names.lookup p.1 == some .free && (sc.lookup p.1 == some .cell || sc.lookup p.1 == some .free))))
 && (((N'.drop h).zip N).all λp=>match names.lookup p.1 with|some .free=>p.1 == p.2|some .local=>false|some .cell=>false|_=>true)
structure ScopeOk(h:Nat)(N' N:List Str)(scope:Uo)(sc:Uo):Prop where
 kind:scope.kind = .function
 len:N'.length=h+N.length
 nd:N'.Nodup
 cell:∀y∈scope.names,y.2 = .cell->scope.names.lookup y.1=some .cell
 loc:∀y∈scope.names,y.2 = .local->scope.names.lookup y.1=some .local
 free:∀y∈scope.names,y.2 = .free->scope.names.lookup y.1=some .free/\(sc.names.lookup y.1=some .cell\/sc.names.lookup y.1=some .free)
 out:∀(i:Nat) (x:Str) (k:Up),N'[h+i]? = some x->scope.names.lookup x=some k->(k = .local\/k = .cell\/k = .free)->N[i]? = some x/\k = .free
theorem ScopeOk.of{h:Nat}{scope:Uo}(hk:scope.kind = .function)(e:znu h N' N scope.names sc.names=true):ScopeOk h N' N scope sc:=by
 unfold znu at e;simp only[QV,Gx,ZX] at e;obtain⟨⟨⟨e1,e2⟩,e3⟩,e4⟩:=e;refine⟨hk,e1,e2,λy hy z=>?_,λy hy z=>?_,λy hy z=>?_,λi x k hx hl hkk=>?_⟩
 .have:=e3 y hy;rw[z] at this;simpa using this
 .have:=e3 y hy;rw[z] at this;simpa using this
 .have:=e3 y hy;rw[z] at this;simpa using this
 .have h1:(N'.drop h)[i]? = some x:=by rw[Jn];exact hx
  have hi:i<N.length:=by
   obtain⟨z,_⟩:=Qx.mp hx;lia
  have h2:N[i]? = some N[i]:=Qu hi
  have hm:(x,N[i])∈(N'.drop h).zip N:=by
   refine Qw (i:=i) ?_;rw[List.getElem?_zip_eq_some];exact⟨h1,h2⟩
  have q:=e4 _ hm;rw[hl] at q;rcases hkk with rfl|rfl|rfl
  .exact absurd q (by simp)
  .exact absurd q (by simp)
  .have q':x=N[i]:=by simpa using q
   exact⟨by rw[h2,<- q'],rfl⟩
def PF(X:Cx)(ifs:List Expr)(t:TT):Prop :=
 ∀(pins:List (Addr×Obj)) (s:VN) (σ:St) (H:Hp) (Q:Bool->Hp->Prop),Inv X pins σ H s->t σ H Q ->
   wpAny (model X.prog X.w) X.A (forIn ifs true λc r=>if r=true then do let ok <- isTrue c X.env (eval c X.env);pure (JG ok) else pure (JG r)) (TP X pins σ Q) X.xe s
def tYes:TT:=λ_ H Q=>Q true H
theorem zmt: PF X [] tYes:=λ_ _ _ H _ I h=>wpAny_tests_nil ⟨H,I,h⟩
theorem zrx{t:TT}(h:PT X c t):PF X [c] t:=λpins s σ H Q I q=>wpAny_tests_one (h pins s σ H Q I q)
def OwnG(h:Nat)(g:TG):Prop:=∀v (σ:St) H Q,h<=σ.length->g v σ H Q->g v σ H λσ2 H2=>Q σ2 H2/\σ2.length=σ.length/\σ2.drop h=σ.drop h
theorem zc8{h i:Nat}(hi:i<h):OwnG h (zap i):=λv σ H Q hl q=>⟨q,by simp,by rw[List.drop_set_of_lt hi]⟩
def zij(h:Nat)(g:TGs):Prop:=∀vs (σ:St) H Q,h<=σ.length->g vs σ H Q->g vs σ H λσ2 H2=>Q σ2 H2/\σ2.length=σ.length/\σ2.drop h=σ.drop h
theorem zno{h:Nat}:zij h gNil:=λvs σ H Q _ q=>⟨q.1,q.2,rfl,rfl⟩
def MonG(g:TG):Prop:=∀v σ H (Q Q':St->Hp->Prop),(∀σ H,Q σ H->Q' σ H)->g v σ H Q->g v σ H Q'
def zg3(g:TGs):Prop:=∀v σ H (Q Q':St->Hp->Prop),(∀σ H,Q σ H->Q' σ H)->g v σ H Q->g v σ H Q'
theorem zhg{i:Nat}:MonG (zap i):=λ_ _ _ _ _ h q=>h _ _ q
theorem ziz:zg3 gNil:=λ_ _ _ _ _ h q=>⟨q.1,h _ _ q.2⟩
theorem zmy(a:MonG g)(b:zg3 gs):zg3 (zdu g gs):=λvs σ H Q Q' h ⟨v,r,e,q⟩=>⟨v,r,e,a _ _ _ _ _ (λσ' H' z=>b _ _ _ _ _ h z) q⟩
theorem zhk{h:Nat}(m:MonG g)(m2:zg3 gs)(a:OwnG h g)(b:zij h gs):zij h (zdu g gs):=λvs σ H Q hl ⟨v,r,e,q⟩=>by
 refine⟨v,r,e,m _ _ _ _ _ (λσ' H' z=>?_) (a v σ H _ hl q)⟩;obtain⟨z1,z2,z3⟩:=z;exact m2 _ _ _ _ _ (λσ2 H2 ⟨y1,y2,y3⟩=>⟨y1,y2.trans z2,y3.trans z3⟩) (b r σ' H' Q (by lia) z1)
theorem zi2{K:Qa}{h n:Nat}{gs:TGs}(b:zij h gs):OwnG h (gTup K n gs):=λv σ H Q hl ⟨a,xs,e1,e2,e3,q⟩=>⟨a,xs,e1,e2,e3,b xs σ H Q hl q⟩
theorem znz{K:Qa}{n:Nat}{gs:TGs}(b:zg3 gs):MonG (gTup K n gs):=λv σ H Q Q' h ⟨a,xs,e1,e2,e3,q⟩=>⟨a,xs,e1,e2,e3,b xs σ H Q Q' h q⟩
def zfd(h:Nat)(wi:TI)(g:TG)(tf:TT)(te:TE):TE:=λσ H Q=>wi σ H λJ H1=>∀D,H1 D=none->∃W:Nat->Nat->List V->Hp->Prop,(∃m,W 0 m [] (upd H1 D (.lst [])))/\∀i m ys H,W i m ys H ->
 H D=some (.lst ys)/\((J.stop i H/\Q (.ref D) H)\/(J.go i H/\∀x H',J.yld i H x H'->g x (Qh h none++σ) H' λσ2 H2=>tf σ2 H2 λc H3=>
   if c=true then te σ2 H3 λy H4=>H4 D=some (.lst ys)/\ys.length<sizeLine/\∃m',m'<m/\W (i+1) m' (ys ++ [y]) (upd H4 D (.lst (ys ++ [y]))) else ∃m',m'<m/\W (i+1) m' ys H3))
theorem znf{prog:VO}{R:Result->VN->Prop}{target iter:Expr}{scope:Uo}(I:Nat->VN->Prop)
 (turn:∀n s,I n s->wpAny (model prog w) A (UY it) (λr s₁=>match r with
  | none=>R (.ok .next) s₁
  | some v=>wpAny (model prog w) A (Uy target it v) (λ_ s₀=>wpAny (model prog w) A (UI target env v) (λ_ s₂=>
   wpAny (model prog w) A (forIn ifs true λc r=>if r=true then do let ok <- isTrue c env (eval c env);pure (JG ok) else pure (JG r)) (λok s₃=>
    if ok=true then wpAny (model prog w) A (eval elt env) (λx s₄=>
     wpAny (model prog w) A (call (.builtin "list.append") [acc,x]) (λ_ s₅=>∃m,m<n/\I m s₅) (λ_ _=>False) s₄) (λ_ _=>False) s₃
    else ∃m,m<n/\I m s₃) (λ_ _=>False) s₂) (λ_ _=>False) s₀) (λ_ _=>False) s₁) (λ_ _=>False) s)
 (n:Nat) (h:I n s):UT (model prog w) A (.compLoop (.ListComp elt [⟨target,iter,ifs,0⟩] scope pos) 0 it acc env) R s:=by
 refine codeAny_loop rfl I (λn s hI=>?_) n h;show wpAny _ A ((compTurn (.ListComp elt [⟨target,iter,ifs,0⟩] scope pos) 0 it acc env).onRaise (λx=>do noteFrame x env;theTreesLotGoes x)) _ _ s;refine wpAny_noted ?_;rw[compTurn_list];refine VL (wpAny_standAt (VL (Uk (turn n s hI) (λr s₁ h₁=>?_) λ_ _ h'=>h'.elim)))
 cases r with
 | none=>exact VQ h₁
 | some v=>
   refine VL (Uk h₁ (λ_ s₀ h₀=>?_) λ_ _ h'=>h'.elim);refine VL (Uk h₀ (λ_ s₂ h₂=>VL (Uk h₂ (λok s₃ h₃=>?_) λ_ _ h'=>h'.elim)) λ_ _ h'=>h'.elim)
   cases ok with
   | false=>exact VQ ⟨rfl,h₃⟩
   | true=>
     exact VL (VL (Uk h₃ (λx s₄ h₄=>VL (Uk h₄ (λ_ s₅ h₅=>VQ (VQ ⟨rfl,h₅⟩)) λ_ _ h'=>h'.elim)) λ_ _ h'=>h'.elim))
section
variable {X:Cx}{pins:List (Addr×Obj)}{σ:St}{H:Hp}{s:VN}
theorem zes{h:Nat}{scope:Uo}(I:Inv X pins σ H s)(S:ScopeOk h N' X.N scope X.env.scope):∀x c,(clOf scope.names X.env).lookup x=some c->X.env.cells.lookup x=some c:=λx c e=>by
 obtain⟨h1,h2⟩:=zpv e;obtain⟨d,hd⟩:=I.ok.has x (S.free _ h1 rfl).2;rw[hd] at h2 ⊢;rw[h2];rfl
theorem zjp{h:Nat}{scope:Uo}(S:ScopeOk h N' X.N scope X.env.scope)(hf:(x,QK)∈scope.names):(x,QP) ∉ scope.names:=λz=>by
 have a:=(S.free _ hf rfl).1;have b:=S.cell _ z rfl;rw[show scope.names.lookup x=some .free from a] at b;cases b
theorem ziq{h:Nat}{scope:Uo}(I:Inv X pins σ H s)(S:ScopeOk h N' X.N scope X.env.scope):∀x c,(Ud (s.heap.objs.size+1) scope.names (clOf scope.names X.env)).lookup x=some c->X.env.cells.lookup x=some c\/((x,QP)∈scope.names/\s.heap.objs.size+1<=c):=λx c e=>by
 have z:=zh5 scope.names (s.heap.push { cls:=.type "dict",data:=.dict #[] }) (clOf scope.names X.env) (x:=x) (c:=c) (by rw[QW];exact e);rw[QW] at z;rcases z with z|⟨z1,z2,_⟩
 .exact .inl (zes I S x c z)
 .exact .inr ⟨z1,z2⟩
theorem zpd{h:Nat}{scope:Uo}(I:Inv X pins σ H s)(S:ScopeOk h N' X.N scope X.env.scope):∀x c,(clOf scope.names X.env).lookup x=some c->c<s.heap.objs.size+1:=λx c e=>by
 obtain⟨v,o,ho,_⟩:=I.cell x c (zes I S x c e);exact ZQ (Qt ho)
theorem zw9{h:Nat}{scope:Uo}(I:Inv X pins σ H s)(S:ScopeOk h N' X.N scope X.env.scope)(hf:∀b∈fp,FpOk X pins H b)(hlt:∀b∈fp,b<s.heap.objs.size):
 (zbv X scope N' s.heap.objs.size s H fp).Ok:=by
 have cl:=ziq I S;refine⟨I.ok.mod,?_,I.ok.glob,I.ok.blt,Qe _,zmw _ _ _ (zpd I S) λx y c e1 e2=>I.ok.inj x y c (zes I S x c e1) (zes I S y c e2),λx hx=>?_,λx c z e=>?_,I.ok.hd,I.ok.frames,.inl rfl,λb hb=>⟨Q5 (hlt b hb),λx c e=>(cl x c e).elim (λz=>(hf b hb).2.2.2.2.1 x c z) λz w=>QY _ (Q2 (hlt b hb) (Jx (w ▸ z.2)))⟩,λb o e=>I.bs b o e,Q3 I.ok.bsz I.sz,λb o e hb=>?_,λb hb z=>?_,I.stack,I.stkFree⟩
 .exact S.kind
 .have hx':(relabel scope X.env).names.lookup x=some .cell\/(relabel scope X.env).names.lookup x=some .free:=hx;have e:=zdb (env:=X.env) (x:=x) scope.names
  have hl:scope.names.lookup x=some .free\/scope.names.lookup x=some .cell:=by
   cases q:scope.names.lookup x with
   | none=>rw[q] at e;rcases hx' with z|z <;> (have z':=e.symm.trans z;cases z')
   | some k=>
     rw[q,Zl] at e
     by_cases hk:k = .free
     .rw[hk];exact .inl rfl
     .have hc:¬(k == QK && X.env.scope.kind == .function && X.env.kindOf x == some .cell)=true:=by
       have:(k == QK)=false:=by simpa using hk
       rw[this];simp
      rw[Gn hc] at e;rcases hx' with z|z
      .have z':=e.symm.trans z;cases z';exact .inr rfl
      .have z':=e.symm.trans z;cases z';exact .inl rfl
  rcases hl with hl|hl
  .have hm:=Zi hl;obtain⟨c,hc⟩:=I.ok.has x (S.free _ hm rfl).2;exact⟨c,(zim _ _ _ (zjp S hm)).trans (zrd hm hc)⟩
  .exact Zk.mp (Jt _ _ _ (.inl hl))
 .have z:(scope.names.lookup x == some QP)=true:=z;have z:scope.names.lookup x=some .cell:=by simpa using z
  rcases zh5 scope.names (s.heap.push { cls:=.type "dict",data:=.dict #[] }) (clOf scope.names X.env) (x:=x) (c:=c) (by rw[QW];exact e) with w|⟨_,w,_⟩
  .exact absurd (Zi z) (zjp S (zpv w).1)
  .rw[QW] at w;exact Jx w
 .rcases(hf b hb).2.2.2.1 with z|z
  .exact I.ok.noex b o e z
  .exact absurd (Q2 (Qt (I.ok.bs b o e).1) z) (QY _)
 .obtain⟨_,f1,f2,_⟩:=hf b hb;rcases Q1.mp (I.stkSub b z) with q|q
  .exact f1 q
  .exact f2 q
theorem zp2{h:Nat}{scope:Uo}{tk:Nat}(I:Inv X pins σ H s)(S:ScopeOk h N' X.N scope X.env.scope)(hf:∀b∈fp,FpOk X pins H b)(hlt:∀b∈fp,b<s.heap.objs.size)
 (hn:h'.Ns s.heap.objs.size λ_=>none) (kp:∀b o,s.heap.get? b=some o->h'.get? b=some o) (hcs:∀x c,(Ud (s.heap.objs.size+1) scope.names (clOf scope.names X.env)).lookup x=some c->(clOf scope.names X.env).lookup x=some c\/((x,QP)∈scope.names/\s.heap.objs.size+1<=c/\h'.IsCell c none)) :
 Inv (zbv X scope N' s.heap.objs.size s H fp) [] (Qh h none++σ) H { s with heap:=h',toks:=tk }:=by
 have ok:=zw9 I S hf hlt;have cl:=zes I S;refine⟨ok,rfl,I.bare,Un.kept kp,⟨_,hn,λi x v e1 e2 e3=>?_⟩,λx c e=>?_,I.hok.fresh (Qe _),λx c e=>(hcs x c e).elim (λz=>I.freeC x c (cl x c z)) λz=>I.hok.fresh (Jx z.2.1),λp hp=>absurd (show p∈([]:List (Addr×Obj)) from hp) (by simp),I.hok.kept kp,?_⟩
 .have e1:N'[i]? = some x:=e1
  by_cases hi:i<h
  .rw[Qy (by simpa using hi),QU,Gm hi] at e2;cases e2
  .obtain⟨j,rfl⟩:∃j,i=h+j:=⟨i-h,by lia⟩;rw[Q7 (by simp),QG,Nat.add_sub_cancel_left] at e2;have e3:Vis (relabel scope X.env) x:=e3;have er:=zdb (env:=X.env) (x:=x) scope.names
   have hl:∃k,scope.names.lookup x=some k/\(k = .local\/k = .cell\/k = .free)/\(relabel scope X.env).names.lookup x=some (if(k == QK && X.env.scope.kind == .function && X.env.kindOf x == some .cell) then QP else k):=by
    cases q:scope.names.lookup x with
    | none=>rw[q] at er;rcases e3 with z|z|z <;> (have z':=er.symm.trans z;cases z')
    | some k=>
      rw[q,Zl] at er;refine⟨k,rfl,?_,er⟩
      by_cases hc:(k == QK && X.env.scope.kind == .function && X.env.kindOf x == some .cell)=true
      .simp only[QV,beq_iff_eq] at hc;exact .inr (.inr hc.1.1)
      .rw[Gn hc] at er;rcases e3 with z|z|z <;> (have z':=er.symm.trans z;cases z';simp)
   obtain⟨k,hk,hkk,hre⟩:=hl;obtain⟨hN,rfl⟩:=S.out j x k e1 hk hkk;have hm:=Zi hk;have hfr:=(S.free _ hm rfl).2;obtain⟨m,hnm,hlk⟩:=I.loc;obtain⟨u,ru,lk⟩:=hlk j x v hN e2 (by rcases hfr with z|z;exact .inr (.inl z);exact .inr (.inr z));refine⟨u,ru,?_⟩;rcases lk with ⟨hloc,_⟩|⟨hkd,c,hc,hcell⟩
   .have hloc:X.env.scope.names.lookup x=some .local:=hloc;rcases hfr with z|z <;> (rw[hloc] at z;cases z)
   .refine .inr ⟨?_,c,(zim _ _ _ (zjp S hm)).trans (zrd hm hc),?_⟩
    .show(relabel scope X.env).names.lookup x=some .cell\/(relabel scope X.env).names.lookup x=some .free;rw[hre]
     split
     .exact .inl rfl
     .exact .inr rfl
    .obtain⟨o,ho,hd⟩:=hcell;exact⟨o,kp c o ho,hd⟩
 .rcases hcs x c e with z|z
  .obtain⟨v,o,ho,hd⟩:=I.cell x c (cl x c z);exact⟨v,o,kp c o ho,hd⟩
  .exact⟨_,z.2.2⟩
 .show(Qh h none++σ).length=N'.length;rw[Qi,QG,S.len,I.len]
theorem zt4{h:Nat}{scope:Uo}{pins':List (Addr×Obj)}(I:Inv X pins σ H s)(S:ScopeOk h N' X.N scope X.env.scope)(hf:∀b∈fp,FpOk X pins H b)
 (J:Inv (zbv X scope N' s.heap.objs.size s H fp) pins' σ' H' s') (hs:Zo s.heap.objs.size s'.heap h'):Inv X pins σ H' { s' with heap:=h' }:=by
 have ne:∀b o,s.heap.get? b=some o->b≠s.heap.objs.size:=λb o e=>Q5 (Qt e);have u:Un (frs X.stack) fp H H' s.heap s'.heap:=J.base;have hC:H' s.heap.objs.size=none:=J.free;obtain⟨m0,⟨oC,_,_,hoC,_⟩,_⟩:=id J.loc;refine I.call' (s':={ s' with heap:=h' }) (ch:=fp) J.os ⟨λb o e n hb hx=>(hs.2 b (ne b o e)).trans (u.keep b o e n hb hx),λb o e n hb hx=>?_,u.free,λb o e hx=>?_,u.tups,u.frzs,u.tbls⟩ (λb ob e=>?_) J.bare λb hb=>?_
 .obtain⟨sl,z⟩:=u.slot b o e n hb hx;exact⟨sl,(hs.2 b (ne b o e)).trans z⟩
 .obtain⟨o',z⟩:=u.there b o e hx;exact⟨o',(hs.2 b (ne b o e)).trans z⟩
 .refine(J.hok b ob e).stay (λc w' hc q=>(hs.2 c ?_).trans q) (λ_ q=>q) λ_ _ q=>q;rintro rfl;rcases hc with z|z
  .rw[<- z,hC] at e;cases e
  .rw[hC] at z;cases z
 .obtain⟨_,f1,_,f3,f4,f5⟩:=hf b hb;exact⟨f3,f1,f4,f5⟩
end
theorem zke{iter:Expr}{scope:Uo}{R:VJ->VN->Prop}{pins:List (Addr×Obj)}(h:Nat)(S:ScopeOk h N' X.N scope X.env.scope)(hc:X.calm=true)(hi:PI X tg iter wi)
 (hg:∀C s H ex,PG (zbv X scope N' C s H ex) tg g) (ho:OwnG h g) (ht:∀C s H ex,PF (zbv X scope N' C s H ex) ifs tf) (he:∀C s H ex,PE (zbv X scope N' C s H ex) elt te)
 (hs:∀x,Uf iter X.env x=pure x) (I:Inv X pins σ H s) (hq:zfd h wi g tf te σ H Q)
 (fin:∀(D:Addr) (H3 H5:Hp) (s3 s6:VN) m6 fl,Inv X pins σ H3 s3->(∀h7,Zo s3.heap.objs.size s6.heap h7->Inv X pins σ H5 { s6 with heap:=h7 })->H5 s3.heap.objs.size=none->s6.heap.Ns s3.heap.objs.size m6->Q (.ref D) H5->compPost (model X.prog X.w) X.A X.xe use R (.ref D) s3.heap.objs.size (.ok fl) s6) :
 wpAny (model X.prog X.w) X.A (comprehension (.ListComp elt [⟨tg,iter,ifs,0⟩] scope pos) scope X.env cp (newList []) false (eval iter X.env) use) R X.xe s:=by
 refine wpAny_comprehension_free (use:=use) rfl hs (zo4 (env:=X.env) λp hp hk=>I.ok.has p.1 (S.free p hp hk).2) S.kind S.loc ?_;refine thn (hi pins s σ H _ I hq) λv s1 h1=>thn h1 λitv s2 h2=>?_;obtain⟨it,fp,tn,J,H2,rfl,I2,T,st2,f2,hq⟩:=h2;refine Ug ?_ (by show 0<=sizeLine;exact QC _);have hD:H2 s2.heap.objs.size=none:=I2.hok.fresh (Qe _);have I3:Inv X pins σ (upd H2 s2.heap.objs.size (.lst [])) { s2 with heap:=s2.heap.push { cls:=.type "list",data:=.seq ([]:List VJ).toArray },toks:=s2.toks }:=I2.lnew (t':=s2.toks) .nil (QC _);generalize hs3:({ s2 with heap:=s2.heap.push { cls:=.type "list",data:=.seq ([]:List VJ).toArray },toks:=s2.toks }:VN)=s3 at I3;have hs3':({ s2 with heap:=s2.heap.push { cls:=.type "list",data:=.seq ([]:List VJ).toArray } }:VN)=s3:=hs3;obtain⟨W,⟨m0,w0⟩,turn⟩:=hq s2.heap.objs.size hD
 have olt:∀b∈fp,b<s2.heap.objs.size:=λb hb=>by
  obtain⟨o,e,_⟩:=T.obj _ _ st2 b hb;exact Qt e
 have hsz:s3.heap.objs.size=s2.heap.objs.size+1:=by rw[<- hs3];exact QW ..
 have k23:∀b o,s2.heap.get? b=some o->s3.heap.get? b=some o:=λb o e=>by rw[<- hs3];exact Qg _ e
 have f3:∀b∈fp,FpOk X pins (upd H2 s2.heap.objs.size (.lst [])) b:=λb hb=>⟨by rw[zac (Q5 (olt b hb))];exact(f2 b hb).1,(f2 b hb).2⟩;have lt3:∀b∈fp,b<s3.heap.objs.size:=λb hb=>by rw[hsz];exact ZQ (olt b hb)
 refine zo2 λh4 hn4 k34 cs4=>?_;have I4:=zp2 (h':=h4) (tk:=s3.toks) I3 S f3 lt3 hn4 k34 cs4;have st4:tn 0 h4:=T.keep _ _ _ st2 λb hb o e=>k34 b o (k23 b o e);generalize hX:zbv X scope N' s3.heap.objs.size s3 (upd H2 s2.heap.objs.size (.lst [])) fp=X' at I4;have hA:X'.A=X.A:=by rw[<- hX];rfl
 -- the iterator's objects,in the block
 have fpX:∀{H':Hp} {pl:List (Addr×Obj)},(∀b∈fp,H' b=none)->pl = []->∀b∈fp,FpOk X' pl H' b:=λ{H' pl} hn0 hpl b hb=>by
  subst hpl;obtain⟨q0,q1,q2,q3,q4,q5⟩:=f3 b hb;subst hX;refine⟨hn0 b hb,Q5 (lt3 b hb),λz=>?_,.inl hb,λx c e=>(ziq I3 S x c e).elim (q4 x c) λz w=>QY _ (Q2 (lt3 b hb) (Jx (w ▸ z.2))),λp hp=>absurd (show p∈([]:List (Addr×Obj)) from hp) (by simp)⟩;rcases Q1.mp (I3.stkSub b z) with z|z
  .exact q1 z
  .exact q2 z
 have hcX:X'.calm=true:=by rw[<- hX];exact hc
 have hR:∀s':VN,(∃(m:Nat) (i:Nat) (ys:List V) (H':Hp),Inv X' [] (Qh h none++σ) H' s'/\tn i s'.heap/\(∀b∈fp,H' b=none)/\W i m ys H')->True:=λ_ _=>trivial
 have loop:∀(sL:VN),(Inv X' [] (Qh h none++σ) (upd H2 s2.heap.objs.size (.lst [])) sL)->tn 0 sL.heap ->
  UT (model X.prog X.w) X.A (.compLoop (.ListComp elt [⟨tg,iter,ifs,0⟩] scope pos) 0 (.ref it) (.ref s2.heap.objs.size) X'.env)
   (compPost (model X.prog X.w) X.A X.xe use R (.ref s2.heap.objs.size) s3.heap.objs.size) sL:=by
  intro sL IL stL;refine znf (λn s'=>∃i ys H',Inv X' [] (Qh h none++σ) H' s'/\tn i s'.heap/\(∀b∈fp,H' b=none)/\W i n ys H') ?_ m0 ⟨0,[],_,IL,stL,λb hb=>(f3 b hb).1,w0⟩;rintro n s5 ⟨i,ys,H5,I5,st5,fr5,w5⟩;obtain⟨hDy,hh⟩:=turn i n ys H5 w5;have eP:X'.prog=X.prog:=by rw[<- hX];rfl
  have eW:X'.w=X.w:=by rw[<- hX];rfl
  have eK:X'.K=X.K:=by rw[<- hX];rfl
  have eE:X'.xe=λ_ _=>False:=by rw[<- hX];rfl
  rcases hh with ⟨stop,qn⟩|⟨go,step⟩
  .have:=T.done X' eP eW eK hcX i [] s5 _ H5 (λ_ _=>False) I5 (fpX fr5 rfl) st5 stop;rw[hA] at this;refine thn this λr s6 zz=>?_;obtain⟨hr,I6⟩:=zz;subst hr;obtain⟨m6,hm6,_⟩:=id I6.loc;rw[<- hX] at hm6 I6;exact fin _ _ H5 s3 s6 m6 _ I3 (λh7 hs7=>zt4 I3 S f3 I6 hs7) I6.free hm6 qn
  .have:=T.item X' eP eW eK hcX i [] s5 _ H5 (λ_ _=>False) I5 (fpX fr5 rfl) st5 go;rw[hA] at this;refine thn this λr s6 zz=>?_;obtain⟨u,hr,h6⟩:=zz;subst hr;refine thn h6 λ_ s7 zz=>?_;obtain⟨x,H7,I7,r7,y7,st7,fr7⟩:=zz;have I7':=I7.pinned (fpX fr7 rfl) (T.obj _ _ st7)
   have back:∀{σ':St} {H':Hp} {s':VN},Inv X' ([]++zfu fp s7.heap) σ' H' s'->σ'.length=(Qh h none++σ:St).length->σ'.drop h=(Qh h none++σ:St).drop h ->
    Inv X' [] (Qh h none++σ) H' s'/\tn (i+1) s'.heap/\∀b∈fp,H' b=none:=by
    intro σ' H' s' I' hl hd;refine⟨I'.unpinned.weak hl.symm λj v e=>?_,T.keep _ _ _ st7 λb hb o e=>?_,λb hb=>?_⟩
    .by_cases hj:j<h
     .rw[Qy (by simpa using hj),QU,Gm hj] at e;cases e
     .have e1:(σ'.drop h)[j-h]? = σ'[j]?:=by rw[Jn];congr 1;lia
      have e2:((Qh h none++σ:St).drop h)[j-h]? = (Qh h none++σ:St)[j]?:=by rw[Jn];congr 1;lia
      rw[<- e1,hd,e2];exact e
    .exact(I'.pin (b,o) (QF _ (QF _ (zds hb e)))).1
    .obtain⟨o,e,_⟩:=T.obj _ _ st7 b hb;exact(I'.pin (b,o) (QF _ (QF _ (zds hb e)))).2.1
   have hg':=hg s3.heap.objs.size s3 (upd H2 s2.heap.objs.size (.lst [])) fp;have ht':=ht s3.heap.objs.size s3 (upd H2 s2.heap.objs.size (.lst [])) fp;have he':=he s3.heap.objs.size s3 (upd H2 s2.heap.objs.size (.lst [])) fp;rw[hX] at hg' ht' he';have hl0:h<=(Qh h none++σ:St).length:=by simp
   have a1:=hg' _ s7 _ H7 x u _ I7' r7 (ho x _ H7 _ hl0 (step x H7 y7));rw[hA,eP,eW,eE] at a1;refine thn a1 λ_ s8 zz=>?_;obtain⟨σ8,H8,I8,q8,l8,d8⟩:=zz;have a2:=ht' _ s8 σ8 H8 _ I8 q8;rw[hA,eP,eW,eE] at a2;refine thn a2 λc s9 zz=>?_;obtain⟨H9,I9,q9⟩:=zz
   cases c with
   | false=>
     obtain⟨m',hm',w'⟩:=q9;obtain⟨b1,b2,b3⟩:=back I9 l8 d8;exact⟨m',hm',i+1,ys,H9,b1,b2,b3,w'⟩
   | true=>
     have a3:=he' _ s9 σ8 H9 _ I9 q9;rw[hA,eP,eW,eE] at a3;refine thn a3 λyv s10 zz=>?_;obtain⟨y,H10,I10,r10,hD10,hz10,m',hm',w'⟩:=zz;have a4:=zkq (X:=X') _ s10 σ8 H10 (.ref s2.heap.objs.size) [y] (.ref s2.heap.objs.size) [yv] (λ_ Hz=>Hz=upd H10 s2.heap.objs.size (.lst (ys ++ [y]))) I10 rfl (.cons r10 .nil) ⟨_,ys,y,rfl,rfl,hD10,hz10,rfl⟩;rw[hA,eP,eW,eE] at a4;refine thn a4 λ_ s11 zz=>?_;obtain⟨_,H11,I11,_,e11⟩:=zz;subst e11;obtain⟨b1,b2,b3⟩:=back I11 l8 d8;exact⟨m',hm',i+1,ys ++ [y],_,b1,b2,b3,w'⟩
 have end_:=codeAny_compStart_list (prog:=X.prog) (w:=X.w) (A:=X.A) (R:=compPost (model X.prog X.w) X.A X.xe use R (.ref s2.heap.objs.size) s3.heap.objs.size) (elt:=elt) (target:=tg) (iter:=iter) (ifs:=ifs) (rest:=[]) (scope:=scope) (pos:=pos) (it:=.ref it) (acc:=.ref s2.heap.objs.size) (env:=X'.env)
  (loop _ I4 st4) (T.self _ 0 _ _ _ st4 (loop _ I4 st4))
 have hE:X'.env=compEnvC scope (Ud (s3.heap.objs.size+1) scope.names (clOf scope.names X.env)) s3.heap.objs.size X.env:=by rw[<- hX];rfl
 rw[hE] at end_;exact end_
theorem zjo{iter:Expr}{scope:Uo}(h:Nat)(S:ScopeOk h N' X.N scope X.env.scope)(hc:X.calm=true)(hi:PI X tg iter wi)
 (hg:∀C s H ex,PG (zbv X scope N' C s H ex) tg g) (ho:OwnG h g) (ht:∀C s H ex,PF (zbv X scope N' C s H ex) ifs tf) (he:∀C s H ex,PE (zbv X scope N' C s H ex) elt te)
 (hs:∀x,Uf iter X.env x=pure x:=by intro _;rfl) :
 PE X (.ListComp elt [⟨tg,iter,ifs,0⟩] scope pos) (zfd h wi g tf te):=by
 intro pins s σ H Q I hq;rw[eval_ListComp];exact zke h S hc hi hg ho ht he hs I hq λD H3 H5 s3 s6 m6 fl I3 bk hC hm qn=>⟨m6,hm,λh7 hs7=>⟨.ref D,H5,bk h7 hs7,rfl,qn⟩⟩
theorem zh3{iter:Expr}{scope:Uo}{spos:Pos}{n0:Nat}(hN0:X.N.Nodup)(hi0:X.N[n0]? = some x0)(hx0:X.env.scope.names.lookup x0=some .local)(hsw:VX (.ListComp elt [⟨tg,iter,ifs,0⟩] scope pos) (some (.Name x0 py)) spos.line X.env=pure true)(h:Nat)(S:ScopeOk h N' X.N scope X.env.scope)(hc:X.calm=true)(hi:PI X tg iter wi)
 (hg:∀C s H ex,PG (zbv X scope N' C s H ex) tg g) (ho:OwnG h g) (ht:∀C s H ex,PF (zbv X scope N' C s H ex) ifs tf) (he:∀C s H ex,PE (zbv X scope N' C s H ex) elt te)
 (hs:∀x,Uf iter X.env x=pure x:=by intro _;rfl) :
 PS X (.Assign [.Name x0 py] (.ListComp elt [⟨tg,iter,ifs,0⟩] scope pos) spos) (tAsg (zfd h wi g tf te) (zap n0)):=by
 intro pins s σ H DD I hq;rw[exec_Assign_Name_used _ _ _ _ hsw];refine VL (wpAny_standAt (VL ?_));show wpAny _ X.A (do let _ <- comprehension (.ListComp elt [⟨tg,iter,ifs,0⟩] scope pos) scope X.env _ (newList []) false (eval iter X.env) (some (UI (.Name x0 py) X.env))) _ _ s;refine VL (Uk (zke (use:=some (UI (.Name x0 py) X.env)) (R:=λ_ s'=>SP X pins DD .next s') h S hc hi hg ho ht he hs I hq λD H3 H5 s3 s6 m6 fl I3 bk hC hm qn=>?_) (λ_ s' hq=>VQ (VQ hq)) λ_ _ e=>e);have J6:Inv X pins σ H5 s6:=bk _ (Heap.SameBut.refl ..);have neL:s3.heap.objs.size≠X.env.locals:=YQ I3.lt
 have neC:∀x c,X.env.cells.lookup x=some c->c≠s3.heap.objs.size:=λx c e=>by
  obtain⟨v,z⟩:=I3.cell x c e;exact Q5 z.lt
 show wpAny (model X.prog X.w) X.A (UI (.Name x0 py) X.env (.ref D)) _ _ s6;refine wpAny_assign_Name (zj8 (v:=.ref D) J6 hN0 hi0 (.inl hx0) rfl (λs7 I7 zz=>?_) (.inr hx0));obtain⟨a,hsb,ha⟩:=zz
 have hac:s3.heap.objs.size≠a:=by
  rcases ha with rfl|ha
  .exact neL
  .exact Zt (neC _ _ ha)
 refine⟨m6,hm.sameBut hsb hac,λh8 hs8=>⟨_,H5,I7.turned (t':=s7.toks) (it:=s3.heap.objs.size) (λb o hb e=>(hs8.2 b hb).trans e) hC neL (.inr I3.sz) neC (λp hp=>?_),qn⟩⟩;exact Q5 (Qt (I3.pin p hp).1)
def chA(_:VJ):Prop:=False
end L3
namespace L3
open PySem PySem.Spec PySem.Calls
open PyProof.Rows hiding St
open L2
section
variable {X:Cx}{pins:List (Addr×Obj)}{σ:St}{H:Hp}{s:VN}{a:Addr}
def XR(a C dx:Addr):HO:=.ext λh=>∃o vs,h.get? a=some o/\o.cls = .ref C/\o.dict=some dx/\o.data = .fields vs/\(vs[2]? = some .none\/chA (.ref C))
end
mutual
inductive Is(K:Qa)(F:Addr->Prop)(H:Hp):V->VI->Prop
 | none:Is K F H .non .none
 | bool (b):Is K F H (.bl b) (.bool b)
 | int (i):Is K F H (.int i) (.int i)
 | str (x):Is K F H (.str x) (.str x)
 | list {a xs ds}:F a->H a=some (.lst xs)->IsAll K F H xs ds->Is K F H (.ref a) (.list ds)
 | tuple {a xs ds}:SqT K H a xs->IsAll K F H xs ds->Is K F H (.ref a) (.tuple ds)
inductive IsAll(K:Qa)(F:Addr->Prop)(H:Hp):List V->List VI->Prop
 | nil:IsAll K F H [] []
 | cons {v vs d ds}:Is K F H v d->IsAll K F H vs ds->IsAll K F H (v::vs) (d::ds)
end
section
variable {K:Qa}{F F':Addr->Prop}{H H':Hp}
mutual
theorem Is.to(hL:∀a xs,F a->H a=some (.lst xs)->F' a/\H' a=some (.lst xs))(hT:∀a xs,SqT K H a xs->SqT K H' a xs):∀{v d},Is K F H v d->Is K F' H' v d
 | _,_,.none=>.none
 | _,_,.bool b=>.bool b
 | _,_,.int i=>.int i
 | _,_,.str x=>.str x
 | _,_,.list f q r=>.list (hL _ _ f q).1 (hL _ _ f q).2 (IsAll.to hL hT r)
 | _,_,.tuple q r=>.tuple (hT _ _ q) (IsAll.to hL hT r)
theorem IsAll.to(hL:∀a xs,F a->H a=some (.lst xs)->F' a/\H' a=some (.lst xs))(hT:∀a xs,SqT K H a xs->SqT K H' a xs):∀{vs ds},IsAll K F H vs ds->IsAll K F' H' vs ds
 | _,_,.nil=>.nil
 | _,_,.cons r t=>.cons (Is.to hL hT r) (IsAll.to hL hT t)
end
theorem IsAll.length:∀{vs ds},IsAll K F H vs ds->vs.length=ds.length
 | _,_,.nil=>rfl
 | _,_,.cons _ t=>by rw[Qs,Qs,IsAll.length t]
theorem IsAll.get:∀{vs ds} {i:Nat} {d},IsAll K F H vs ds->ds[i]? = some d->∃v,vs[i]? = some v/\Is K F H v d
 | _,_,_,_,.nil,e=>by simp at e
 | _,_,0,_,.cons r _,e=>by simp at e;subst e;exact⟨_,rfl,r⟩
 | _,_,i+1,d,.cons _ t,e=>by
   obtain⟨v,h1,h2⟩:=IsAll.get (i:=i) (d:=d) t (by simpa using e);exact⟨v,by simpa using h1,h2⟩
theorem IsAll.append:∀{vs ds ws es},IsAll K F H vs ds->IsAll K F H ws es->IsAll K F H (vs++ws) (ds++es)
 | _,_,_,_,.nil,s=>s
 | _,_,_,_,.cons r t,s=>.cons r (IsAll.append t s)
theorem IsAll.snoc{vs ds v d}(h:IsAll K F H vs ds)(r:Is K F H v d):IsAll K F H (vs ++ [v]) (ds ++ [d]):=h.append (.cons r .nil)
theorem IsAll.take:∀{vs ds} (n:Nat),IsAll K F H vs ds->IsAll K F H (vs.take n) (ds.take n)
 | _,_,0,_=>.nil
 | _,_,_+1,.nil=>.nil
 | _,_,n+1,.cons r t=>.cons r (IsAll.take n t)
theorem IsAll.drop:∀{vs ds} (n:Nat),IsAll K F H vs ds->IsAll K F H (vs.drop n) (ds.drop n)
 | _,_,0,r=>r
 | _,_,_+1,.nil=>.nil
 | _,_,n+1,.cons _ t=>IsAll.drop n t
end
def SameB(M:Addr->Prop)(H H':Hp):Prop:=∀a o,H a=some o->¬M a->H' a=some o
theorem SameB.refl(M:Addr->Prop)(H:Hp):SameB M H H:=λ_ _ h _=>h
theorem SameB.trans(a:SameB M H H1)(b:SameB M H1 H2):SameB M H H2:=λc o h n=>b c o (a c o h n) n
theorem SameB.of(s:Same H H'):SameB M H H':=λa o h _=>s a o h
theorem SameB.free(e:SameB M H H')(hm:¬M l)(h:H' l=QD):H l=QD:=by
 cases q:H l with
 | none=>rfl
 | some o=>rw[e l o q hm] at h;cases h
def TupStay(H H':Hp):Prop:=∀a u,(∃xs,u=HO.tup xs\/∃o,u=HO.frz o (.tup xs))->H a=some u->H' a=some u
theorem SqT.stay{K:Qa}{H H':Hp}{a:Addr}{xs:List V}(e:TupStay H H')(h:SqT K H a xs):SqT K H' a xs:=by
 rcases h with (h|⟨o,h⟩)|h
 .exact .inl (.inl (e _ _ ⟨xs,.inl rfl⟩ h))
 .exact .inl (.inr ⟨o,e _ _ ⟨xs,.inr ⟨o,rfl⟩⟩ h⟩)
 .exact .inr h
structure Ob where
 M:Addr->Prop
 P:Hp->Prop
 v:V
structure Ob.Ok(O:Ob):Prop where
 loc:∀H H',(∀a,O.M a->H' a=H a)->O.P H->O.P H'
 mutb:∀H a o,O.P H->H a=some o->O.M a->(∀xs,o≠.tup xs)/\∀q u,o≠.frz q u
 here:∀H a,O.P H->O.M a->∃o,H a=some o
theorem Ob.Ok.grow{O:Ob}(ok:O.Ok)(H H':Hp)(s:Same H H')(p:O.P H):O.P H':=ok.loc H H' (λa m=>by
 obtain⟨o,e⟩:=ok.here H a p m
 rw[e,s a o e]) p
def Ob.plus(O:Ob)(D:Addr)(u:HO):Ob:=⟨λa=>O.M a\/a=D,λH=>O.P H/\H D=some u,O.v⟩
theorem Ob.Ok.plus{O:Ob}(ok:O.Ok)(D:Addr)(xs:List V):(O.plus D (.lst xs)).Ok :=
 ⟨λH H' e p=>⟨ok.loc H H' (λa m=>e a (.inl m)) p.1,(e D (.inr rfl)).trans p.2⟩,
  λH a o p e m=>by
   rcases m with m|rfl
   .exact ok.mutb H a o p.1 e m
   .rw[p.2] at e;cases e;exact⟨λ_ h=>(by cases h),λ_ _ h=>(by cases h)⟩,
  λH a p m=>by
   rcases m with m|rfl
   .exact ok.here H a p.1 m
   .exact⟨_,p.2⟩⟩
structure Stp(O:Ob)(H H':Hp):Prop where
 s:SameB O.M H H'
 p:O.P H->O.P H'
 t:TupStay H H'
theorem Stp.refl(O:Ob)(H:Hp):Stp O H H:=⟨.refl _ _,λh=>h,λ_ _ _ h=>h⟩
theorem Stp.trans(a:Stp O H H1)(b:Stp O H1 H2):Stp O H H2:=⟨a.s.trans b.s,λh=>b.p (a.p h),λc u hu h=>b.t c u hu (a.t c u hu h)⟩
theorem Stp.same(ok:O.Ok)(s:Same H H'):Stp O H H':=⟨.of s,ok.grow H H' s,λa u _ h=>s a u h⟩
theorem same_new(h:H p=none)(o:HO):Same H (upd H p o):=λb u q=>by rw[zac (zch q h)];exact q
theorem Stp.new{O:Ob}(ok:O.Ok){H:Hp}{p:Addr}(h:H p=none)(o:HO):Stp O H (upd H p o):=.same ok (same_new h o)
section
variable {K:Qa}{O:Ob}{F F':Addr->Prop}{H H':Hp}{v:V}{d:VI}
theorem Is.stp(s:Stp O H H')(hF:∀a,F a->F' a)(hM:∀a,F a->¬O.M a)(h:Is K F H v d):Is K F' H' v d :=
 h.to (λa xs f q=>⟨hF a f,s.s a _ q (hM a f)⟩) λa xs q=>SqT.stay (h:=q) s.t
theorem IsAll.stp(s:Stp O H H')(hF:∀a,F a->F' a)(hM:∀a,F a->¬O.M a)(h:IsAll K F H vs ds):IsAll K F' H' vs ds :=
 h.to (λa xs f q=>⟨hF a f,s.s a _ q (hM a f)⟩) λa xs q=>SqT.stay (h:=q) s.t
theorem Is.weak(h:Is K F H v d)(hF:∀a,F a->F' a):Is K F' H v d:=h.to (λa xs f q=>⟨hF a f,q⟩) λa xs q=>q
theorem IsAll.weak(h:IsAll K F H vs ds)(hF:∀a,F a->F' a):IsAll K F' H vs ds:=h.to (λa xs f q=>⟨hF a f,q⟩) λa xs q=>q
end
mutual
def flat:VI->Bool
 | .none=>true
 | .bool _=>true
 | .int _=>true
 | .str _=>true
 | .tuple ds=>flats ds
 | _=>false
def flats:List VI->Bool
 | []=>true
 | d::ds=>flat d && flats ds
end
mutual
theorem Is.flat{K:Qa}{F F':Addr->Prop}{H H':Hp}(t:TupStay H H'):∀{v d},Is K F H v d->L3.flat d=true->Is K F' H' v d
 | _,_,.none,_=>.none
 | _,_,.bool b,_=>.bool b
 | _,_,.int i,_=>.int i
 | _,_,.str x,_=>.str x
 | _,_,.list _ _ _,h=>by simp[L3.flat] at h
 | _,_,.tuple q r,h=>.tuple (SqT.stay t q) (IsAll.flats t r (by simpa[L3.flat] using h))
theorem IsAll.flats{K:Qa}{F F':Addr->Prop}{H H':Hp}(t:TupStay H H'):∀{vs ds},IsAll K F H vs ds->L3.flats ds=true->IsAll K F' H' vs ds
 | _,_,.nil,_=>.nil
 | _,_,.cons r s,h=>by
   rw[L3.flats,QV] at h;exact .cons (Is.flat t r h.1) (IsAll.flats t s h.2)
end
theorem TupStay.refl(H:Hp):TupStay H H:=λ_ _ _ h=>h
section
variable {X:Cx}{pins:List (Addr×Obj)}{σ:St}{H:Hp}{s:VN}{F:Addr->Prop}
mutual
theorem Is.reads(I:Inv X pins σ H s):∀{v d} {u:VJ},Is X.K F H v d->RelV v u->∃as,Reads s.heap u d as
 | _,_,_,.none,r=>by cases r;exact⟨_,.none⟩
 | _,_,_,.bool b,r=>by cases r;exact⟨_,.bool b⟩
 | _,_,_,.int i,r=>by obtain⟨t,rfl⟩:=r;exact⟨_,.int i t⟩
 | _,_,_,.str x,r=>by obtain⟨t,rfl⟩:=r;exact⟨_,.str x t⟩
 | _,_,_,.list f q rs,r=>by
   cases r;obtain⟨its,rv,⟨o,n,e,c,_,dt⟩,_⟩:=I.list (.of q);obtain⟨as,ra⟩:=IsAll.reads I rs rv;exact⟨_,.list e c dt (by simpa using ra)⟩
 | _,_,_,.tuple q rs,r=>by
   cases r;obtain⟨its,rv,⟨o,e,c,n,dt⟩,_⟩:=I.tuple q;obtain⟨as,ra⟩:=IsAll.reads I rs rv;exact⟨_,.tuple e c dt (by simpa using ra)⟩
theorem IsAll.reads(I:Inv X pins σ H s):∀{vs ds} {us:List VJ},IsAll X.K F H vs ds->Vals vs us->∃as,ReadsAll s.heap us ds as
 | _,_,_,.nil,r=>by cases r;exact⟨_,.nil⟩
 | _,_,_,.cons h t,r=>by
   cases r with
   | cons r1 r2=>
     obtain⟨as,ra⟩:=Is.reads I h r1;obtain⟨bs,rb⟩:=IsAll.reads I t r2;exact⟨_,.cons ra rb⟩
end
end
def IsS(K:Qa)(F:Addr->Prop)(H:Hp)(v:V)(n:Nat):Prop:=∃a xs,v = .ref a/\xs.length=n/\((F a/\Rd H a (.lst xs))\/∀H',SqL K H' a xs)
theorem IsS.to{K:Qa}{F F':Addr->Prop}{H H':Hp}{v:V}{n:Nat}(hL:∀a u,F a->H a=some u->F' a/\H' a=some u)(h:IsS K F H v n):IsS K F' H' v n:=by
 obtain⟨a,xs,e,l,⟨f,q|⟨o,q⟩⟩|q⟩:=h
 .exact⟨a,xs,e,l,.inl ⟨(hL a _ f q).1,.inl (hL a _ f q).2⟩⟩
 .exact⟨a,xs,e,l,.inl ⟨(hL a _ f q).1,.inr ⟨o,(hL a _ f q).2⟩⟩⟩
 .exact⟨a,xs,e,l,.inr q⟩
def DkAt(H:Hp)(v:V)(a:Addr)(ks:List Str):Prop:=v = .ref a/\∃kvs,H a=some (.dK kvs)/\kvs.map (·.1)=ks.map Ym
theorem DkAt.to(h:DkAt H v a ks)(e:∀u,H a=some u->H' a=some u):DkAt H' v a ks:=let ⟨h1,kvs,h2,h3⟩:=h;⟨h1,kvs,e _ h2,h3⟩
inductive R where
 | o (d:VI)
 | n (ds:List VI)
def R.d:R->VI
 | .o d=>d
 | .n ds=>.list ds
structure Thg where
 R:Qa->(Addr->Prop)->(Addr->Prop)->Hp->V->Prop
 to:∀{K:Qa} {F F' W W':Addr->Prop} {H H':Hp} {v:V},(∀a u,F a->H a=some u->F' a/\H' a=some u)->(∀a u,W a->H a=some u->W' a/\H' a=some u)->TupStay H H'->R K F W H v->R K F' W' H' v
inductive DV where
 | im (d:VI)
 | own (ds:List VI)
 | ob
 | scr (n:Nat)
 | dct (ks:List Str)
   | gen (f:Addr->List V->HO) (ds:List VI)
   | rd (f:Addr->List V->HO) (ds:List VI)
   | exc (C:Addr) (ns:List Str) (ds:List VI)
   | thg (T:Thg)
   | thr (T:Thg)
abbrev DSt:=List (Option DV)
abbrev DE:=DSt->(R->Prop)->Prop
abbrev DT:=DSt->(Bool->Prop)->Prop
abbrev DA:=DSt->(List VI->Prop)->Prop
def unM(O:Ob):Addr->Prop:=λa=>¬O.M a
def ExAt(F:Addr->Prop)(H:Hp)(v:V)(C:Addr)(ns:List Str)(xs:List V):Prop:=∃a dx,v = .ref a/\F a/\F dx/\H a=some (XR a C dx)/\H dx=some (.xd (ns.zip xs))/\xs.length=ns.length
theorem ExAt.to(hL:∀a u,F a->H a=some u->F' a/\H' a=some u)(h:ExAt F H v C ns xs):ExAt F' H' v C ns xs:=by
 obtain⟨a,dx,e,f1,f2,q1,q2,l⟩:=h;exact⟨a,dx,e,(hL a _ f1 q1).1,(hL dx _ f2 q2).1,(hL a _ f1 q1).2,(hL dx _ f2 q2).2,l⟩
def SeenV(K:Qa)(O:Ob)(H:Hp)(v:V):DV->Prop
 | .im d=>Is K (unM O) H v d
 | .own ds=>Is K (unM O) H v (.list ds)
 | .ob=>v=O.v
 | .scr n=>IsS K (unM O) H v n
 | .dct ks=>∃a,¬O.M a/\DkAt H v a ks
 | .gen f ds=>∃a xs,v = .ref a/\¬O.M a/\H a=some (f a xs)/\IsAll K (unM O) H xs ds
 | .rd f ds=>∃a xs,v = .ref a/\¬O.M a/\H a=some (f a xs)/\IsAll K (unM O) H xs ds
 | .exc C ns ds=>∃xs,ExAt (unM O) H v C ns xs/\IsAll K (unM O) H xs ds
 | .thg T=>∃W:Addr->Prop,(∀a,W a->¬O.M a/\∃o,H a=some o)/\T.R K (unM O) W H v
 | .thr T=>∃W:Addr->Prop,(∀a,W a->¬O.M a/\∃o,H a=some o)/\T.R K (unM O) W H v
structure Seen(K:Qa)(O:Ob)(H:Hp)(σ:St)(ρ:DSt):Prop where
 ok:O.Ok
 p:O.P H
 at_:∀(i:Nat) r,ρ[i]? = some (some r)->∃v,σ[i]? = some (some v)/\SeenV K O H v r
 len:ρ.length=σ.length
theorem SeenV.stp{K:Qa}{O:Ob}{H H':Hp}{v:V}{r:DV}(s:Stp O H H')(h:SeenV K O H v r):SeenV K O H' v r:=by
 cases r with
 | im d=>exact Is.stp s (λ_ f=>f) (λ_ f=>f) h
 | own ds=>exact Is.stp s (λ_ f=>f) (λ_ f=>f) h
 | ob=>exact h
 | scr n=>exact IsS.to (λa u f q=>⟨f,s.s a u q f⟩) h
 | dct ks=>obtain⟨a,n,h⟩:=h;exact⟨a,n,h.to λu q=>s.s a u q n⟩
 | gen f ds=>obtain⟨a,xs,e,n,q,z⟩:=h;exact⟨a,xs,e,n,s.s a _ q n,IsAll.stp s (λ_ f=>f) (λ_ f=>f) z⟩
 | rd f ds=>obtain⟨a,xs,e,n,q,z⟩:=h;exact⟨a,xs,e,n,s.s a _ q n,IsAll.stp s (λ_ f=>f) (λ_ f=>f) z⟩
 | exc C ns ds=>obtain⟨xs,e,z⟩:=h;exact⟨xs,e.to λa u f q=>⟨f,s.s a u q f⟩,IsAll.stp s (λ_ f=>f) (λ_ f=>f) z⟩
 | thg T=>obtain⟨W,hw,z⟩:=h;exact⟨W,λa w=>⟨(hw a w).1,let ⟨o,e⟩:=(hw a w).2;⟨o,s.s a o e (hw a w).1⟩⟩,T.to (λa u f q=>⟨f,s.s a u q f⟩) (λa u w q=>⟨w,s.s a u q (hw a w).1⟩) s.t z⟩
 | thr T=>obtain⟨W,hw,z⟩:=h;exact⟨W,λa w=>⟨(hw a w).1,let ⟨o,e⟩:=(hw a w).2;⟨o,s.s a o e (hw a w).1⟩⟩,T.to (λa u f q=>⟨f,s.s a u q f⟩) (λa u w q=>⟨w,s.s a u q (hw a w).1⟩) s.t z⟩
theorem Seen.stp{K:Qa}{O:Ob}{H H':Hp}{σ:St}{ρ:DSt}(S:Seen K O H σ ρ)(s:Stp O H H'):Seen K O H' σ ρ :=
 ⟨S.ok,s.p S.p,λi r e=>let ⟨v,h1,h2⟩:=S.at_ i r e;⟨v,h1,h2.stp s⟩,S.len⟩
def Out(K:Qa)(O:Ob)(H H':Hp)(v:V):R->Prop
 | .o d=>Is K (unM O) H' v d
 | .n ds=>∃a xs,v = .ref a/\H a=none/\H' a=some (.lst xs)/\IsAll K (unM O) H' xs ds
theorem Out.is{K:Qa}{O:Ob}{H H':Hp}{v:V}{r:R}(ok:O.Ok)(p:O.P H)(h:Out K O H H' v r):Is K (unM O) H' v r.d:=by
 cases r with
 | o d=>exact h
 | n ds=>
   obtain⟨a,xs,rfl,hn,e,q⟩:=h;exact .list (λm=>by obtain⟨o,z⟩:=ok.here H a p m;rw[hn] at z;cases z) e q
def ED(K:Qa)(O:Ob)(t:TE)(f:DE):Prop :=
 ∀(σ:St) (H:Hp) (ρ:DSt) (Q:VK) (Qd:R->Prop),Seen K O H σ ρ->f ρ Qd->(∀v H' r,Stp O H H'->Out K O H H' v r->Qd r->Q v H')->t σ H Q
def TD(K:Qa)(O:Ob)(t:TT)(f:DT):Prop :=
 ∀(σ:St) (H:Hp) (ρ:DSt) (Q:Bool->Hp->Prop) (Qd:Bool->Prop),Seen K O H σ ρ->f ρ Qd->(∀b H',Stp O H H'->Qd b->Q b H')->t σ H Q
def AD(K:Qa)(O:Ob)(t:TA)(f:DA):Prop :=
 ∀(σ:St) (H:Hp) (ρ:DSt) (Q:List V->Hp->Prop) (Qd:List VI->Prop),Seen K O H σ ρ->f ρ Qd->(∀vs H' ds,Stp O H H'->IsAll K (unM O) H' vs ds->Qd ds->Q vs H')->t σ H Q
section
variable {K:Qa}{O:Ob}
def cD(d:VI):DE:=λ_ Q=>Q (.o d)
theorem zz6{i:Int}:ED K O (tC (.int i)) (cD (.int i)):=λσ H ρ Q Qd S h k=>k _ H (.o (.int i)) (.refl _ _) (Is.int i) h
theorem z0t: ED K O (tC (.str x)) (cD (.str x)):=λσ H ρ Q Qd S h k=>k _ H (.o (.str x)) (.refl _ _) (Is.str x) h
theorem z0z{b:Bool}:ED K O (tC (.bl b)) (cD (.bool b)):=λσ H ρ Q Qd S h k=>k _ H (.o (.bool b)) (.refl _ _) (Is.bool b) h
theorem zyo:ED K O (tC .non) (cD .none):=λσ H ρ Q Qd S h k=>k _ H (.o .none) (.refl _ _) Is.none h
def seeR:DV->Option VI
 | .im d=>some d
 | .own ds=>some (.list ds)
 | .ob=>none
 | .scr _=>none
 | .dct _=>none
 | .gen _ _=>none
 | .rd _ _=>none
 | .exc _ _ _=>none
 | .thg _=>none
 | .thr _=>none
def vD(i:Nat):DE:=λρ Q=>∃r d,ρ[i]? = some (some r)/\seeR r=some d/\Q (.o d)
theorem zyw{i:Nat}:ED K O (tVar i) (vD i):=λσ H ρ Q Qd S h k=>by
 obtain⟨r,d,e,e2,h⟩:=h;obtain⟨v,hv,sv⟩:=S.at_ i r e;refine⟨v,hv,k _ H _ (.refl _ _) ?_ h⟩
 cases r with
 | im d'=>cases e2;exact sv
 | own ds=>cases e2;exact sv
 | ob=>cases e2
 | scr n=>cases e2
 | dct ks=>cases e2
 | gen f ds=>cases e2
 | rd f ds=>cases e2
 | exc C ns ds=>cases e2
 | thg T=>cases e2
 | thr T=>cases e2
def OpD(K:Qa)(O:Ob)(r:R2)(f:VI->VI->(R->Prop)->Prop):Prop :=
 ∀(H:Hp) (x y:V) (d e:VI) (Q:VK) (Qd:R->Prop),O.Ok->O.P H->Is K (unM O) H x d->Is K (unM O) H y e->f d e Qd->(∀v H' r,Stp O H H'->Out K O H H' v r->Qd r->Q v H')->r x y H Q
theorem Out.ahead(ok:O.Ok)(p:O.P H)(s1:Stp O H H1)(h:Out K O H1 H2 v r):Out K O H H2 v r:=by
 cases r with
 | o d=>exact h
 | n ds=>
   obtain⟨a,xs,rfl,hn,e,q⟩:=h;have m:¬O.M a:=λm=>by obtain⟨o,z⟩:=ok.here H1 a (s1.p p) m;rw[hn] at z;cases z
   exact⟨a,xs,rfl,s1.s.free m hn,e,q⟩
def opDE(f:VI->VI->(R->Prop)->Prop)(fa fb:DE):DE:=λρ Q=>fa ρ λa=>fb ρ λb=>f a.d b.d Q
theorem zk9(hr:OpD K O r f)(ha:ED K O ta fa)(hb:ED K O tb fb):ED K O (tOp r ta tb) (opDE f fa fb):=λσ H ρ Q Qd S h k=>by
 refine ha σ H ρ _ _ S h λv H1 a s1 o1 h1=>?_;refine hb σ H1 ρ _ _ (S.stp s1) h1 λw H2 b s2 o2 h2=>?_;have p1:=s1.p S.p;refine hr H2 v w a.d b.d _ _ S.ok (s2.p p1) (Is.stp s2 (λ_ f=>f) (λ_ f=>f) (o1.is S.ok S.p)) (o2.is S.ok p1) h2 λz H3 c s3 o3 h3=>?_;exact k z H3 c ((s1.trans s2).trans s3) (Out.ahead S.ok S.p (s1.trans s2) o3) h3
def fn2(F:VI->VI->Option R):VI->VI->(R->Prop)->Prop:=λa b Q=>∃r,F a b=some r/\Q r
def bD(f:DE):DT:=λρ Q=>f ρ λr=>∃b,r.d = .bool b/\Q b
theorem zze{t:TE}(h:ED K O t f):TD K O (zfm t) (bD f):=λσ H ρ Q Qd S hf k=>by
 refine h σ H ρ _ _ S hf λv H1 r s1 o1 zz=>?_;obtain⟨b,e,q⟩:=zz;have i:=o1.is S.ok S.p;rw[e] at i;cases i;exact⟨b,rfl,k b H1 s1 q⟩
theorem zgn{t:TE}(h:ED K O t f):TD K O (tB t) (bD f):=λσ H ρ Q Qd S hf k=>by
 refine h σ H ρ _ _ S hf λv H1 r s1 o1 zz=>?_;obtain⟨b,e,q⟩:=zz;have i:=o1.is S.ok S.p;rw[e] at i;cases i;exact⟨b,rfl,k b H1 s1 q⟩
def andT(f g:DT):DT:=λρ Q=>f ρ λb=>if b=true then g ρ Q else Q false
def orT(f g:DT):DT:=λρ Q=>f ρ λb=>if b=true then Q true else g ρ Q
def notT(f:DT):DT:=λρ Q=>f ρ λb=>Q (!b)
theorem zzo{t:TT}(h:TD K O t f)(h':TD K O u g):TD K O (tAnd t u) (andT f g):=λσ H ρ Q Qd S hf k=>by
 refine h σ H ρ _ _ S hf λb H1 s1 q=>?_
 cases b with
 | true=>exact h' σ H1 ρ _ _ (S.stp s1) q λc H2 s2 q2=>k c H2 (s1.trans s2) q2
 | false=>exact k false H1 s1 q
theorem z1m{t:TT}(h:TD K O t f)(h':TD K O u g):TD K O (tOr t u) (orT f g):=λσ H ρ Q Qd S hf k=>by
 refine h σ H ρ _ _ S hf λb H1 s1 q=>?_
 cases b with
 | false=>exact h' σ H1 ρ _ _ (S.stp s1) q λc H2 s2 q2=>k c H2 (s1.trans s2) q2
 | true=>exact k true H1 s1 q
theorem zza{t:TT}(h:TD K O t f):TD K O (tNot t) (notT f):=λσ H ρ Q Qd S hf k=>h σ H ρ _ _ S hf λb H1 s1 q=>k (!b) H1 s1 q
def andV(f g:DE):DE:=λρ Q=>f ρ λr=>∃b,r.d = .bool b/\if b=true then g ρ Q else Q (.o (.bool false))
def notV(f:DE):DE:=λρ Q=>f ρ λr=>∃b,r.d = .bool b/\Q (.o (.bool (!b)))
theorem zya{t:TE}(h:ED K O t f)(h':ED K O u g):ED K O (zv0 t u) (andV f g):=λσ H ρ Q Qd S hf k=>by
 refine h σ H ρ _ _ S hf λv H1 r s1 o1 zz=>?_;obtain⟨b,e,q⟩:=zz;have i:=o1.is S.ok S.p;rw[e] at i;cases i;refine⟨b,rfl,?_⟩
 cases b with
 | true=>exact h' σ H1 ρ _ _ (S.stp s1) q λc H2 r s2 o2 q2=>k c H2 r (s1.trans s2) (o2.ahead S.ok S.p s1) q2
 | false=>exact k (.bl false) H1 (.o (.bool false)) s1 (.bool false) q
theorem zww{t:TE}(h:ED K O t f):ED K O (zvj t) (notV f):=λσ H ρ Q Qd S hf k=>by
 refine h σ H ρ _ _ S hf λv H1 r s1 o1 zz=>?_;obtain⟨b,e,q⟩:=zz;have i:=o1.is S.ok S.p;rw[e] at i;cases i;exact⟨b,rfl,k _ H1 (.o (.bool (!b))) s1 (.bool _) q⟩
def ifD(c:DT)(f g:DE):DE:=λρ Q=>c ρ λb=>if b=true then f ρ Q else g ρ Q
theorem z1v{t:TE}(hc:TD K O c fc)(h:ED K O t f)(h':ED K O u g):ED K O (tIf c t u) (ifD fc f g):=λσ H ρ Q Qd S hf k=>by
 refine hc σ H ρ _ _ S hf λb H1 s1 q=>?_
 cases b with
 | true=>exact h σ H1 ρ _ _ (S.stp s1) q λv H2 r s2 o2 q2=>k v H2 r (s1.trans s2) (o2.ahead S.ok S.p s1) q2
 | false=>exact h' σ H1 ρ _ _ (S.stp s1) q λv H2 r s2 o2 q2=>k v H2 r (s1.trans s2) (o2.ahead S.ok S.p s1) q2
def aNil:DA:=λ_ Q=>Q []
def zk3(f:DE)(g:DA):DA:=λρ Q=>f ρ λr=>g ρ λds=>Q (r.d::ds)
theorem zz4:AD K O tNil aNil:=λσ H ρ Q Qd S h k=>k [] H [] (.refl _ _) .nil h
theorem zwj{t:TE}(h:ED K O t f)(h':AD K O u g):AD K O (zaw t u) (zk3 f g):=λσ H ρ Q Qd S hf k=>by
 refine h σ H ρ _ _ S hf λv H1 r s1 o1 q=>?_;refine h' σ H1 ρ _ _ (S.stp s1) q λvs H2 ds s2 o2 q2=>?_;exact k (v::vs) H2 (r.d::ds) (s1.trans s2) (.cons (Is.stp s2 (λ_ f=>f) (λ_ f=>f) (o1.is S.ok S.p)) o2) q2
def tupD(g:DA):DE:=λρ Q=>g ρ λds=>ds.length<=sizeLine/\Q (.o (.tuple ds))
def lstD(g:DA):DE:=λρ Q=>g ρ λds=>ds.length<=sizeLine/\Q (.n ds)
theorem zzp(h:AD K O u g):ED K O (tTup u) (tupD g):=λσ H ρ Q Qd S hf k=>by
 refine h σ H ρ _ _ S hf λvs H1 ds s1 o1 ⟨z,q⟩=>⟨by rw[o1.length];exact z,λp hp=>?_⟩;have s2:Stp O H1 (upd H1 p (.tup vs)):=.new S.ok hp _;exact k _ _ (.o (.tuple ds)) (s1.trans s2) (.tuple (.of zaf) (o1.stp s2 (λ_ f=>f) (λ_ f=>f))) q
theorem zy4(h:AD K O u g):ED K O (tLst u) (lstD g):=λσ H ρ Q Qd S hf k=>by
 refine h σ H ρ _ _ S hf λvs H1 ds s1 o1 ⟨z,q⟩=>⟨by rw[o1.length];exact z,λp hp=>?_⟩;have s2:Stp O H1 (upd H1 p (.lst vs)):=.new S.ok hp _;have m:¬O.M p:=λm=>by obtain⟨o,z⟩:=S.ok.here H1 p (s1.p S.p) m;rw[hp] at z;cases z
 exact k _ _ (.n ds) (s1.trans s2) ⟨p,vs,rfl,s1.s.free m hp,zaf,o1.stp s2 (λ_ f=>f) (λ_ f=>f)⟩ q
def zdv(K:Qa)(O:Ob)(r:List V->Hp->VK->Prop)(f:List VI->(R->Prop)->Prop):Prop :=
 ∀(H:Hp) (vs:List V) (ds:List VI) (Q:VK) (Qd:R->Prop),O.Ok->O.P H->IsAll K (unM O) H vs ds->f ds Qd->(∀v H' r,Stp O H H'->Out K O H H' v r->Qd r->Q v H')->r vs H Q
def zc3(f:List VI->(R->Prop)->Prop)(g:DA):DE:=λρ Q=>g ρ λds=>f ds Q
theorem zm4(hr:zdv K O r f)(h:AD K O u g):ED K O (tCB r u) (zc3 f g):=λσ H ρ Q Qd S hf k=>by
 refine h σ H ρ _ _ S hf λvs H1 ds s1 o1 q=>?_;exact hr H1 vs ds _ _ S.ok (s1.p S.p) o1 q λv H2 r s2 o2 q2=>k v H2 r (s1.trans s2) (o2.ahead S.ok S.p s1) q2
def fn1(F:List VI->Option R):List VI->(R->Prop)->Prop:=λds Q=>∃r,F ds=some r/\Q r
end
abbrev DG:=VI->DSt->(DSt->Prop)->Prop
def gN(i:Nat):DG:=λd ρ Q=>Q (ρ.set i (some (.im d)))
def gTD:List Nat->List VI->DSt->(DSt->Prop)->Prop
 | [],[],ρ,Q=>Q ρ
 | i::is,d::ds,ρ,Q=>gTD is ds (ρ.set i (some (.im d))) Q
 | _,_,_,_=>False
def gT(is:List Nat):DG:=λd ρ Q=>∃ds,d = .tuple ds/\gTD is ds ρ Q
def GS(K:Qa)(O:Ob)(t:TG)(g:DG):Prop :=
 ∀(σ:St) (H:Hp) (ρ:DSt) (v:V) (d:VI) (Q:St->Hp->Prop) (Qd:DSt->Prop),Seen K O H σ ρ->Is K (unM O) H v d->g d ρ Qd->(∀σ' ρ',Seen K O H σ' ρ'->Qd ρ'->Q σ' H)->t v σ H Q
section
variable {K:Qa}{O:Ob}
theorem Seen.set{i:Nat}(S:Seen K O H σ ρ)(h:SeenV K O H v r):Seen K O H (σ.set i (some v)) (ρ.set i (some r)):=by
 have hl:=S.len;refine⟨S.ok,S.p,λj r' e=>?_,by rw[QA,QA];exact S.len⟩
 by_cases hj:i=j
 .subst hj
  have hi:i<ρ.length:=by
   rcases ZN i ρ.length with z|z
   .exact z
   .rw[QI (by simpa using z)] at e;cases e
  rw[Q0 hi] at e;cases e;exact⟨v,Q0 (by lia),h⟩
 .rw[Q4 hj] at e;obtain⟨w,h1,h2⟩:=S.at_ j r' e;exact⟨w,by rw[Q4 hj];exact h1,h2⟩
theorem zx6{i:Nat}:GS K O (zap i) (gN i):=λσ H ρ v d Q Qd S i h k=>k _ _ (S.set (r:=.im d) i) h
def GSs(K:Qa)(O:Ob)(t:TGs)(is:List Nat):Prop :=
 ∀(σ:St) (H:Hp) (ρ:DSt) (vs:List V) (ds:List VI) (Q:St->Hp->Prop) (Qd:DSt->Prop),Seen K O H σ ρ->IsAll K (unM O) H vs ds->gTD is ds ρ Qd->(∀σ' ρ',Seen K O H σ' ρ'->Qd ρ'->Q σ' H)->t vs σ H Q
theorem zwx:GSs K O gNil []:=λσ H ρ vs ds Q Qd S i h k=>by
 cases i with
 | nil=>exact⟨rfl,k σ ρ S h⟩
 | cons _ _=>exact h.elim
theorem zue{i:Nat}{is:List Nat}{t:TGs}(ht:GSs K O t is):GSs K O (zdu (zap i) t) (i::is):=λσ H ρ vs ds Q Qd S h q k=>by
 cases h with
 | nil=>exact q.elim
 | cons h1 h2=>exact⟨_,_,rfl,ht _ H _ _ _ _ _ (S.set (r:=.im _) h1) h2 q k⟩
theorem zet:∀{is:List Nat} {ds:List VI} {ρ:DSt} {Q:DSt->Prop},gTD is ds ρ Q->ds.length=is.length
 | [],[],_,_,_=>rfl
 | [],_::_,_,_,h=>h.elim
 | _::_,[],_,_,h=>h.elim
 | _::is,_::ds,ρ,Q,h=>by
   have e:=zet (is:=is) (ds:=ds) (Q:=Q) h;rw[Qs,Qs,e]
theorem z0f{is:List Nat}{t:TGs}{n:Nat}(hn:is.length=n)(ht:GSs K O t is):GS K O (gTup K n t) (gT is):=λσ H ρ v d Q Qd S i h k=>by
 obtain⟨ds,rfl,h⟩:=h
 cases i with
 | tuple q r=>exact⟨_,_,rfl,q,by rw[r.length,zet h];exact hn,ht σ H ρ _ ds Q Qd S r h k⟩
structure Walk(K:Qa)(O:Ob)(H H1:Hp)(J:It)(ds:List VI)(B:Addr->Prop):Prop where
 st:Stp O H H1
 hb:∀a,B a->¬O.M a/\∃o,H1 a=some o
 stop:∀H2 i,(∀a o,B a->H1 a=some o->H2 a=some o)->TupStay H1 H2->ds.length<=i->J.stop i H2
 item:∀H2 i d,(∀a o,B a->H1 a=some o->H2 a=some o)->TupStay H1 H2->ds[i]? = some d->(flat d=true\/∀a o,H1 a=some o->¬O.M a->H2 a=some o) ->
  J.go i H2/\∀x H3,J.yld i H2 x H3->Same H2 H3/\Is K (λa=>¬O.M a/\(flat d=true\/∃o,H1 a=some o)) H3 x d
abbrev DI:=DSt->(Bool->List VI->Prop)->Prop
def SrcS(K:Qa)(O:Ob)(wi:TI)(f:DI):Prop :=
 ∀(σ:St) (H:Hp) (ρ:DSt) (R:It->Hp->Prop) (Qd:Bool->List VI->Prop),Seen K O H σ ρ->f ρ Qd ->
   (∀(J:It) (H1:Hp) (ds:List VI) (B:Addr->Prop) (fr:Bool),Walk K O H H1 J ds B->(fr=true->∀a,B a->H a=none)->Qd fr ds->R J H1)->wi σ H R
end
def zau(h:Nat)(g:DG)(ft:DT)(fe:DE)(ρ:DSt)(Q:List VI->Prop):List VI->List VI->Prop
 | [],acc=>Q acc
 | d::ds,acc=>g d (Qh h none++ρ) λρ2=>ft ρ2 λb=>if b=true then fe ρ2 λr=>acc.length<sizeLine/\zau h g ft fe ρ Q ds (acc ++ [r.d]) else zau h g ft fe ρ Q ds acc
def zpw(h:Nat)(f:DI)(g:DG)(ft:DT)(fe:DE):DE:=λρ Q=>f ρ λ_ ds=>zau h g ft fe ρ (λes=>Q (.n es)) ds []
section
variable {K:Qa}{O:Ob}
theorem zt0(S:Seen K O H σ ρ)(h:Nat):Seen K O H (Qh h none++σ) (Qh h none++ρ):=by
 refine⟨S.ok,S.p,λi r e=>?_,by rw[Qi,Qi,QG,QG,S.len]⟩
 by_cases hi:i<h
 .rw[Qy (by simpa using hi),QU,Gm hi] at e;cases e
 .rw[Q7 (by simpa using Yf hi),QG] at e;obtain⟨v,h1,h2⟩:=S.at_ _ r e;exact⟨v,by rw[Q7 (by simpa using Yf hi),QG];exact h1,h2⟩
theorem zsk(S:Seen K O H σ ρ)(hD:H D=none):Seen K (O.plus D (.lst xs)) (upd H D (.lst xs)) σ ρ:=by
 have gr:Same H (upd H D (.lst xs)):=same_new hD _;refine⟨S.ok.plus D xs,⟨S.ok.grow _ _ gr S.p,zaf⟩,λi r e=>?_,S.len⟩;obtain⟨v,h1,h2⟩:=S.at_ i r e
 have go:∀d,Is K (unM O) H v d->Is K (unM (O.plus D (.lst xs))) (upd H D (.lst xs)) v d:=λd z=>
  z.to (λa ys f q=>⟨λm=>(by
   rcases m with m|rfl
   .exact f m
   .rw[hD] at q;cases q),gr _ _ q⟩) λa ys q=>SqT.stay (h:=q) λb u _ hb=>gr b u hb
 refine⟨v,h1,?_⟩
 cases r with
 | im d=>exact go d h2
 | own ds=>exact go _ h2
 | ob=>exact h2
 | scr n=>exact IsS.to (λa u f q=>⟨λm=>(by
  rcases m with m|rfl
  .exact f m
  .rw[hD] at q;cases q),gr _ _ q⟩) h2
 | dct ks=>
   obtain⟨a,n,h2⟩:=h2;refine⟨a,λm=>?_,h2.to λu q=>gr _ _ q⟩;rcases m with m|rfl
   .exact n m
   .obtain⟨_,kvs,q,_⟩:=h2;rw[hD] at q;cases q
 | gen f ds=>
   obtain⟨a,ys,e,n,q,z⟩:=h2
   refine⟨a,ys,e,λm=>?_,gr _ _ q,z.to (λa ys f q=>⟨λm=>(by
    rcases m with m|rfl
    .exact f m
    .rw[hD] at q;cases q),gr _ _ q⟩) λa ys q=>SqT.stay (h:=q) λb u _ hb=>gr b u hb⟩
   rcases m with m|rfl
   .exact n m
   .rw[hD] at q;cases q
 | rd f ds=>
   obtain⟨a,ys,e,n,q,z⟩:=h2
   refine⟨a,ys,e,λm=>?_,gr _ _ q,z.to (λa ys f q=>⟨λm=>(by
    rcases m with m|rfl
    .exact f m
    .rw[hD] at q;cases q),gr _ _ q⟩) λa ys q=>SqT.stay (h:=q) λb u _ hb=>gr b u hb⟩
   rcases m with m|rfl
   .exact n m
   .rw[hD] at q;cases q
 | exc C ns ds=>
   obtain⟨ys,e,z⟩:=h2
   have mv:∀a u,unM O a->H a=some u->unM (O.plus D (.lst xs)) a/\upd H D (.lst xs) a=some u:=λa u f q=>⟨λm=>(by
    rcases m with m|rfl
    .exact f m
    .rw[hD] at q;cases q),gr _ _ q⟩
   exact⟨ys,e.to mv,z.to (λa ys f q=>mv a _ f q) λa ys q=>SqT.stay (h:=q) λb u _ hb=>gr b u hb⟩
 | thg T=>
   obtain⟨W,hw,z⟩:=h2
   exact⟨W,λa w=>⟨λm=>(by
    obtain⟨n,o,q⟩:=hw a w;rcases m with m|rfl
    .exact n m
    .rw[hD] at q;cases q),let ⟨o,q⟩:=(hw a w).2;⟨o,gr _ _ q⟩⟩,T.to (λa u f q=>⟨λm=>(by
    rcases m with m|rfl
    .exact f m
    .rw[hD] at q;cases q),gr _ _ q⟩) (λa u w q=>⟨w,gr _ _ q⟩) (λb u _ hb=>gr b u hb) z⟩
 | thr T=>
   obtain⟨W,hw,z⟩:=h2
   exact⟨W,λa w=>⟨λm=>(by
    obtain⟨n,o,q⟩:=hw a w;rcases m with m|rfl
    .exact n m
    .rw[hD] at q;cases q),let ⟨o,q⟩:=(hw a w).2;⟨o,gr _ _ q⟩⟩,T.to (λa u f q=>⟨λm=>(by
    rcases m with m|rfl
    .exact f m
    .rw[hD] at q;cases q),gr _ _ q⟩) (λa u w q=>⟨w,gr _ _ q⟩) (λb u _ hb=>gr b u hb) z⟩
theorem znv{h:Nat}(hs:SrcS K O wi f)(hg:∀O':Ob,GS K O' tg g)
 (hf:∀(D:Addr) (xs:List V),¬O.M D->TD K (O.plus D (.lst xs)) tf ft) (he:∀(D:Addr) (xs:List V),¬O.M D->ED K (O.plus D (.lst xs)) te fe):ED K O (zfd h wi tg tf te) (zpw h f g ft fe):=by
 intro σ H ρ Q Qd S hq k;refine hs σ H ρ _ _ S hq λJ H1 ds B fr W _ hgo D hD=>?_;have S1:=S.stp W.st;have nM:¬O.M D:=λm=>by obtain⟨o,z⟩:=S.ok.here H1 D S1.p m;rw[hD] at z;cases z
 have aD:∀a o,H1 a=some o->a≠D:=λa o e z=>by rw[z,hD] at e;cases e
 refine⟨λi m ys H2=>m=ds.length-i/\i<=ds.length/\H2 D=some (.lst ys)/\(∀a o,H1 a=some o->¬O.M a->H2 a=some o)/\TupStay H1 H2/\Seen K (O.plus D (.lst ys)) H2 σ ρ /\
  ∃acc,IsAll K (λa=>¬(O.M a\/a=D)) H2 ys acc/\zau h g ft fe ρ (λes=>Qd (.n es)) (ds.drop i) acc,⟨ds.length,rfl,QC _,zaf,λa o e _=>by rw[zac (aD a o e)];exact e,λa u _ e=>by rw[zac (aD a u e)];exact e,zsk S1 hD,[],.nil,by simpa using hgo⟩,?_⟩
 rintro i m ys H2 ⟨rfl,hi,hDy,kp,tst,S2,acc,hacc,go⟩;refine⟨hDy,?_⟩;have kB:∀a o,B a->H1 a=some o->H2 a=some o:=λa o b e=>kp a o e (W.hb a b).1
 by_cases hlt:i<ds.length
 .right;have hd:ds[i]? = some ds[i]:=Qu hlt;rw[Z7 hlt] at go;obtain⟨hgo1,hy⟩:=W.item H2 i ds[i] kB tst hd (.inr kp);refine⟨hgo1,λx H3 y=>?_⟩;obtain⟨sm,ix⟩:=hy x H3 y;have st3:Stp (O.plus D (.lst ys)) H2 H3:=.same S2.ok sm;have S3:=S2.stp st3
  have ix':Is K (unM (O.plus D (.lst ys))) H3 x ds[i]:=by
   by_cases hfl:flat ds[i]=true
   .exact Is.flat (TupStay.refl H3) ix hfl
   .exact ix.weak λa ha mm=>by
     rcases mm with mm|mm
     .exact ha.1 mm
     .rcases ha.2 with z|⟨o,z⟩
      .exact hfl z
      .exact aD a o z mm
  refine hg _ _ H3 _ x ds[i] _ _ (zt0 S3 h) ix' go λσ2 ρ2 Sg q=>?_;refine hf D ys nM σ2 H3 ρ2 _ _ Sg q λb H4 st4 q4=>?_;have st34:=st3.trans st4;have acc4:∀{H':Hp},Stp (O.plus D (.lst ys)) H2 H'->IsAll K (λa=>¬(O.M a\/a=D)) H' ys acc:=λst=>hacc.stp st (λ_ z=>z) (λ_ z=>z)
  cases b with
  | false=>
    refine⟨ds.length-(i+1),by lia,rfl,hlt,st34.s D _ hDy |> λz=>(st34.p S2.p).2,λa o e n=>?_,λa u hu e=>st34.t a u hu (tst a u hu e),S2.stp st34,acc,acc4 st34,q4⟩
    exact st34.s a o (kp a o e n) λmm=>by
     rcases mm with mm|mm
     .exact n mm
     .exact aD a o e mm
  | true=>
    refine he D ys nM σ2 H4 ρ2 _ _ (Sg.stp st4) q4 λyv H5 r st5 o5 zz=>?_;obtain⟨hz,q5⟩:=zz;have st25:=st34.trans st5;have S5:=S2.stp st25;have hD5:H5 D=some (.lst ys):=(st25.p S2.p).2;have iy:=o5.is (Sg.stp st4).ok (Sg.stp st4).p;have a5:=acc4 st25;refine⟨hD5,by rw[hacc.length];exact hz,ds.length-(i+1),by lia,rfl,hlt,zaf,λa o e n=>?_,λa u hu e=>?_,?_,acc ++ [r.d],?_,q5⟩
    .rw[zac (aD a o e)]
     exact st25.s a o (kp a o e n) λmm=>by
      rcases mm with mm|mm
      .exact n mm
      .exact aD a o e mm
    .rw[zac (aD a u e)];exact st25.t a u hu (tst a u hu e)
    .have p5:O.P (upd H5 D (.lst (ys ++ [yv]))):=S.ok.loc H5 _ (λa m=>zac λz=>nM (z ▸ m)) S5.p.1;refine⟨S.ok.plus D _,⟨p5,zaf⟩,λj r' e=>?_,S5.len⟩;obtain⟨v',h1,h2⟩:=S5.at_ j r' e
     have go:∀d,Is K (unM (O.plus D (.lst ys))) H5 v' d->Is K (unM (O.plus D (.lst (ys ++ [yv])))) (upd H5 D (.lst (ys ++ [yv]))) v' d:=λd z=>
      z.to (λa xs fa qa=>⟨fa,by rw[zac λz=>fa (.inr z)];exact qa⟩) λa xs qa=>SqT.stay (h:=qa) λb u hu hb=>by
       rw[zac λz=>?_]
       .exact hb
       .obtain⟨us,e1|⟨o',e1⟩⟩:=hu <;> (rw[z,hD5] at hb;cases hb;cases e1)
     refine⟨v',h1,?_⟩
     cases r' with
     | im d=>exact go d h2
     | own es=>exact go _ h2
     | ob=>exact h2
     | scr n=>exact IsS.to (λa u fa qa=>⟨fa,by rw[zac λz=>fa (.inr z)];exact qa⟩) h2
     | dct ks=>obtain⟨a,fa,h2⟩:=h2;exact⟨a,fa,h2.to λu qa=>by rw[zac λz=>fa (.inr z)];exact qa⟩
     | gen f ds=>
       obtain⟨a,xs,e,fa,q,z⟩:=h2;refine⟨a,xs,e,fa,by rw[zac λz=>fa (.inr z)];exact q,z.to (λa xs fa qa=>⟨fa,by rw[zac λz=>fa (.inr z)];exact qa⟩) λa xs qa=>SqT.stay (h:=qa) λb u hu hb=>?_⟩;rw[zac λz=>?_]
       .exact hb
       .obtain⟨us,e1|⟨o',e1⟩⟩:=hu <;> (rw[z,hD5] at hb;cases hb;cases e1)
     | rd f ds=>
       obtain⟨a,xs,e,fa,q,z⟩:=h2;refine⟨a,xs,e,fa,by rw[zac λz=>fa (.inr z)];exact q,z.to (λa xs fa qa=>⟨fa,by rw[zac λz=>fa (.inr z)];exact qa⟩) λa xs qa=>SqT.stay (h:=qa) λb u hu hb=>?_⟩;rw[zac λz=>?_]
       .exact hb
       .obtain⟨us,e1|⟨o',e1⟩⟩:=hu <;> (rw[z,hD5] at hb;cases hb;cases e1)
     | exc C ns ds=>
       obtain⟨xs,e,z⟩:=h2;have mv:∀a u,unM (O.plus D (.lst ys)) a->H5 a=some u->unM (O.plus D (.lst (ys ++ [yv]))) a/\upd H5 D (.lst (ys ++ [yv])) a=some u:=λa u fa qa=>⟨fa,by rw[zac λz=>fa (.inr z)];exact qa⟩;refine⟨xs,e.to mv,z.to (λa xs fa qa=>mv a _ fa qa) λa xs qa=>SqT.stay (h:=qa) λb u hu hb=>?_⟩;rw[zac λz=>?_]
       .exact hb
       .obtain⟨us,e1|⟨o',e1⟩⟩:=hu <;> (rw[z,hD5] at hb;cases hb;cases e1)
     | thg T=>
       obtain⟨W,hw,z⟩:=h2;refine⟨W,λa w=>⟨(hw a w).1,let ⟨o,q⟩:=(hw a w).2;⟨o,by rw[zac λz=>(hw a w).1 (.inr z)];exact q⟩⟩,T.to (λa u fa qa=>⟨fa,by rw[zac λz=>fa (.inr z)];exact qa⟩) (λa u w q=>⟨w,by rw[zac λz=>(hw a w).1 (.inr z)];exact q⟩) (λb u hu hb=>?_) z⟩;rw[zac λz=>?_]
       .exact hb
       .obtain⟨us,e1|⟨o',e1⟩⟩:=hu <;> (rw[z,hD5] at hb;cases hb;cases e1)
     | thr T=>
       obtain⟨W,hw,z⟩:=h2;refine⟨W,λa w=>⟨(hw a w).1,let ⟨o,q⟩:=(hw a w).2;⟨o,by rw[zac λz=>(hw a w).1 (.inr z)];exact q⟩⟩,T.to (λa u fa qa=>⟨fa,by rw[zac λz=>fa (.inr z)];exact qa⟩) (λa u w q=>⟨w,by rw[zac λz=>(hw a w).1 (.inr z)];exact q⟩) (λb u hu hb=>?_) z⟩;rw[zac λz=>?_]
       .exact hb
       .obtain⟨us,e1|⟨o',e1⟩⟩:=hu <;> (rw[z,hD5] at hb;cases hb;cases e1)
    .have mv:∀{vs es},IsAll K (λa=>¬(O.M a\/a=D)) H5 vs es->IsAll K (λa=>¬(O.M a\/a=D)) (upd H5 D (.lst (ys ++ [yv]))) vs es:=λz=>
      z.to (λa xs fa qa=>⟨fa,by rw[zac λz=>fa (.inr z)];exact qa⟩) λa xs qa=>SqT.stay (h:=qa) λb u hu hb=>by
       rw[zac λz=>?_]
       .exact hb
       .obtain⟨us,e1|⟨o',e1⟩⟩:=hu <;> (rw[z,hD5] at hb;cases hb;cases e1)
     exact mv (a5.snoc iy)
 .left;have e:i=ds.length:=by lia
  subst e;rw[Yh] at go;refine⟨W.stop H2 _ kB tst (Qe _),k _ H2 (.n acc) ?_ ⟨D,ys,rfl,W.st.s.free nM hD,hDy,hacc.weak λa z m=>z (.inl m)⟩ go⟩;refine W.st.trans ⟨λa o e n=>kp a o e n,λ_=>S2.p.1,tst⟩
end
section
variable {K:Qa}{O:Ob}
theorem zjc{i:Nat}{d:VI}(h:IsAll K (unM O) H1 xs ds)(hd:ds[i]? = some d)(t:TupStay H1 H2)(c:flat d=true\/∀a o,H1 a=some o->¬O.M a->H2 a=some o):
 ∃v,xs[i]? = some v/\Is K (λa=>¬O.M a/\(flat d=true\/∃o,H1 a=some o)) H2 v d:=by
 obtain⟨v,hv,iv⟩:=h.get hd;refine⟨v,hv,?_⟩;rcases c with c|c
 .exact Is.flat t iv c
 .exact iv.to (λa ys f q=>⟨⟨f,.inr ⟨_,q⟩⟩,c a _ q f⟩) λa ys q=>SqT.stay (h:=q) t
def R.isN:R->Bool
 | .n _=>true
 | .o _=>false
def srcL(f:DE):DI:=λρ Q=>f ρ λr=>∃ds,r.d = .list ds/\Q r.isN ds
theorem zto{t:TE}(h:ED K O t f):SrcS K O (zgs K t) (srcL f):=λσ H ρ R Qd S hf k=>by
 refine h σ H ρ _ _ S hf λv H1 r st o1 zz=>?_;obtain⟨ds,e,q⟩:=zz;have i1:=o1.is S.ok S.p;rw[e] at i1
 cases i1 with
 | list f0 ha hs=>
   rename_i a xs
   refine⟨a,rfl,⟨xs,.of ha⟩,k (Itl K a) H1 ds (λb=>b=a) r.isN ⟨st,λb hb=>by subst hb;exact⟨f0,_,ha⟩,λH2 i kb _ hi=>?_,λH2 i d kb t2 hd c=>?_⟩ (λz b hb=>?_) q⟩
   .exact⟨xs,.of (kb a _ rfl ha),by rw[hs.length];exact hi⟩
   .obtain⟨w,hw,iw⟩:=zjc (O:=O) hs hd t2 c;have q2:SqL K H2 a xs:=.of (kb a _ rfl ha);refine⟨⟨xs,w,q2,hw⟩,λx H3 zz=>?_⟩;obtain⟨e3,y⟩:=zz;subst e3;have:=y xs q2;rw[hw] at this;cases this;exact⟨Same.refl _,iw⟩
   .subst hb
    cases r with
    | o d=>cases z
    | n es=>
      obtain⟨a',xs',e',hn,_⟩:=o1;cases e';exact hn
def srcT(f:DE):DI:=λρ Q=>f ρ λr=>∃ds,r.d = .tuple ds/\Q true ds
theorem zxc{t:TE}(h:ED K O t f):SrcS K O (iTup K t) (srcT f):=λσ H ρ R Qd S hf k=>by
 refine h σ H ρ _ _ S hf λv H1 r st o1 zz=>?_;obtain⟨ds,e,q⟩:=zz;have i1:=o1.is S.ok S.p;rw[e] at i1
 cases i1 with
 | tuple ha hs=>
   rename_i a xs
   refine⟨a,rfl,⟨xs,ha⟩,k (Itt K a) H1 ds (λ_=>False) true ⟨st,λb hb=>hb.elim,λH2 i kb t2 hi=>?_,λH2 i d kb t2 hd c=>?_⟩ (λz b hb=>hb.elim) q⟩
   .exact⟨xs,SqT.stay t2 ha,by rw[hs.length];exact hi⟩
   .obtain⟨w,hw,iw⟩:=zjc (O:=O) hs hd t2 c;have q2:SqT K H2 a xs:=SqT.stay t2 ha;refine⟨⟨xs,w,q2,hw⟩,λx H3 zz=>?_⟩;obtain⟨e3,y⟩:=zz;subst e3;have:=y xs q2;rw[hw] at this;cases this;exact⟨Same.refl _,iw⟩
def zb8(lo:Int)(n:Nat):List VI:=(QL n).map λk=>.int (lo+(k:Nat))
theorem zcv{lo:Int}{n i:Nat}{d:VI}(h:(zb8 lo n)[i]? = some d):i<n/\d = .int (lo+(i:Nat)):=by
 unfold zb8 at h;rw[Qj] at h
 by_cases hi:i<n
 .rw[List.getElem?_range hi] at h;cases h;exact⟨hi,rfl⟩
 .rw[QI (by simpa using hi)] at h;cases h
theorem zki(st:Stp O H H1)(lo:Int)(n:Nat):Walk K O H H1 (Itr lo n) (zb8 lo n) (λ_=>False) :=
 ⟨st,λb hb=>hb.elim,λH2 i _ _ hi=>(show n<=i by simpa[zb8] using hi),λH2 i d _ t2 hd c=>by
  obtain⟨hi,rfl⟩:=zcv hd;refine⟨hi,λx H3 zz=>?_⟩;obtain⟨e3,y⟩:=zz;subst e3 y
  exact⟨Same.refl _,.int _⟩⟩
def zvk(g:DA):DI:=λρ Q=>g ρ λds=>∃j:Int,ds = [.int j]/\-(2 ^ 62)<=j/\j<2 ^ 62/\Q true (zb8 0 j.toNat)
theorem zuc{t:TA}(h:AD K O t g):SrcS K O (zpl t) (zvk g):=λσ H ρ R Qd S hf k=>by
 refine h σ H ρ _ _ S hf λvs H1 ds st is zz=>?_;obtain⟨j,e,b1,b2,q⟩:=zz;subst e
 cases is with
 | cons i0 is=>
   cases is;cases i0;exact⟨j,rfl,b1,b2,k _ H1 _ _ true (zki st 0 j.toNat) (λ_ _ hb=>hb.elim) q⟩
def zuz(g:DA):DI:=λρ Q=>g ρ λds=>∃i j:Int,ds = [.int i,.int j]/\(-(2 ^ 62)<=i/\i<2 ^ 62/\-(2 ^ 62)<=j/\j<2 ^ 62)/\Q true (zb8 i (j-i).toNat)
theorem ztj{t:TA}(h:AD K O t g):SrcS K O (zvn t) (zuz g):=λσ H ρ R Qd S hf k=>by
 refine h σ H ρ _ _ S hf λvs H1 ds st is zz=>?_;obtain⟨i,j,e,b,q⟩:=zz;subst e
 cases is with
 | cons i0 is=>
   cases is with
   | cons i1 is=>
     cases is;cases i0;cases i1;exact⟨i,j,rfl,b,k _ H1 _ _ true (zki st i (j-i).toNat) (λ_ _ hb=>hb.elim) q⟩
end
def sg(c:Nat):Str:=⟨#[c]⟩
def Its(x:Str):It:=⟨λi _=>i<x.cps.size,λi H v H'=>H'=H/\∃c,x.cps[i]? = some c/\v = .str (sg c),λi _=>x.cps.size<=i⟩
theorem zmc{P:VO}{w:VR}{K:Qa}{tg:Expr}{it:Addr}{x:Str}{t:Tok}{ty:String}(hty:["enumerate", "zip", "dict_itemiterator", "dict_reverseitemiterator", "odict_iterator", "itertools.zip_longest", "itertools.pairwise"].contains ty=false)
 (W:∀A':VY,A'.handled=none->Walks P w A' it [it] [it] x.cps.size (SignAt x) (λi h=>h.IsStrIter it ty x t i))
 (hself:∀(A:VY) (i:Nat) (s:VN) (Q:VJ->VN->Prop) (E:VJ->VN->Prop),s.heap.IsStrIter it ty x t i->Q (.ref it) s->wpAny (model P w) A (pyIter (.ref it)) Q E s) :
 Turn P w K tg (Its x) [it] it (λi h=>i<=x.cps.size/\h.IsStrIter it ty x t i) where
 mem:=by simp
 obj:=λi h st b hb=>by
  have e:b=it:=by simpa using hb
  subst e;obtain⟨_,o,e,c,d⟩:=st;exact⟨o,e,λv z=>by rw[d] at z;cases z⟩
 keep:=λi h h' st k=>⟨st.1,by
  obtain⟨_,o,e,c⟩:=st
  exact⟨o,k it (by simp) o e,c⟩⟩
 item:=by
  intro X hP hw hK hc i pins s σ H E I hf st hg;subst hP hw hK;obtain⟨f0,f1,f2,f3,f4,f5⟩:=hf it (by simp);refine(W X.A (I.ok.hd hc)).item i s _ _ hg st.2 λv h' tk hv st' kk=>?_;obtain⟨c,u,hcx,rfl⟩:=hv;have I1:Inv X pins σ H { s with heap:=h',toks:=tk }:=I.turned (λb o hb e=>kk b o (by simpa using hb) e) f0 f1 f3 f4 f5;obtain⟨o,e,hcl,hdt⟩:=id st';exact⟨_,rfl,zk6 (s:={ s with heap:=h',toks:=tk }) e hcl hdt hty ⟨.str (sg c),H,I1,⟨u,rfl⟩,⟨rfl,c,hcx,rfl⟩,⟨hg,st'⟩,λb hb=>(hf b hb).1⟩⟩
 done:=by
  intro X hP hw hK hc i pins s σ H E I hf st hg;subst hP hw hK;obtain⟨f0,f1,f2,f3,f4,f5⟩:=hf it (by simp);have hi:i=x.cps.size:=Jk st.1 hg;subst hi;exact(W X.A (I.ok.hd hc)).done s _ _ st.2 λh' tk kk=>⟨rfl,I.turned (λb o hb e=>kk b o (by simpa using hb) e) f0 f1 f3 f4 f5⟩
 self:=λA i s Q E st h=>hself A i s Q E st.2 h
def iStr(t:TE):TI:=λσ H R=>t σ H λv H1=>∃x,v = .str x/\R (Its x) H1
theorem zzs(hl:PE X l tl):PI X tg l (iStr tl):=by
 intro pins s σ H R I h;refine thn (hl pins s σ H _ I h) λv s1 zz=>?_;obtain⟨y,H1,I1,r1,q1⟩:=zz;obtain⟨x,e,q⟩:=q1;subst e;obtain⟨t,rfl⟩:=r1
 have fin:∀(o:Obj) (T:Nat->Heap->Prop),Turn X.prog X.w X.K tg (Its x) [s1.heap.objs.size] s1.heap.objs.size T->T 0 (s1.heap.push o)->PIE X pins σ tg R (.ref s1.heap.objs.size) { s1 with heap:=s1.heap.push o }:=λo T hT h0=>by
  refine⟨s1.heap.objs.size,[s1.heap.objs.size],T,Its x,H1,rfl,I1.kept (t':=s1.toks) λb o e=>Qg _ e,hT,h0,λb hb=>?_,q⟩;have e:b=s1.heap.objs.size:=by simpa using hb
  subst e;exact I1.fpOk (Qe _) (I1.hok.fresh (Qe _))
 cases ha:x.cps.all (· < 128)
 .exact wpAny_pyIter_wide ha (fin _ _ (zmc (by decide) (λA' hA=>Walks.strWide hA _ x t) λ_ _ _ _ _ st h=>wpAny_pyIter_striter_wide st h) ⟨QC _,_,Qv _ rfl,rfl,rfl⟩)
 .exact wpAny_pyIter_ascii ha (fin _ _ (zmc (by decide) (λA' hA=>Walks.strAscii hA _ x t) λ_ _ _ _ _ st h=>wpAny_pyIter_striter_ascii st h) ⟨QC _,_,Qv _ rfl,rfl,rfl⟩)
def sgs(x:Str):List VI:=x.cps.toList.map λc=>.str (sg c)
def srcS(f:DE):DI:=λρ Q=>f ρ λr=>∃x,r.d = .str x/\Q true (sgs x)
theorem zyb{K:Qa}{O:Ob}{t:TE}{f:DE}(h:ED K O t f):SrcS K O (iStr t) (srcS f):=λσ H ρ R Qd S hf k=>by
 refine h σ H ρ _ _ S hf λv H1 r st o1 zz=>?_;obtain⟨x,e,q⟩:=zz;have i1:=o1.is S.ok S.p;rw[e] at i1;cases i1;refine⟨x,rfl,k (Its x) H1 (sgs x) (λ_=>False) true ⟨st,λb hb=>hb.elim,λH2 i _ _ hi=>(show x.cps.size<=i by simpa[sgs] using hi),λH2 i d _ t2 hd c=>?_⟩ (λ_ _ hb=>hb.elim) q⟩;unfold sgs at hd;rw[Qj] at hd;obtain⟨n,hn,rfl⟩:=Qf.mp hd;have hn':x.cps[i]? = some n:=by simpa using hn
 have hi:i<x.cps.size:=by
  obtain⟨z,_⟩:=Array.getElem?_eq_some_iff.mp hn';exact z
 refine⟨hi,λy H3 zz=>?_⟩;obtain⟨e3,n',h1,h2⟩:=zz;subst e3 h2;rw[hn'] at h1;cases h1;exact⟨Same.refl _,.str _⟩
structure DEnds where
 nx:DSt->Prop
 rt:R->Prop
 bk:DSt->Prop:=λ_=>False
 ct:DSt->Prop:=λ_=>False
abbrev DS:=DEnds->DSt->Prop
def unO(O:Ob)(A:Nat->Addr->Prop):Addr->Prop:=λa=>¬O.M a/\∀j,¬A j a
def OwnO(o:HO):Prop:=∀us,o≠.tup us/\∀o',o≠.frz o' (.tup us)
theorem OwnO.lst: OwnO (.lst xs):=λ_=>⟨λz=>(nomatch z),λ_ z=>(nomatch z)⟩
def RepV(K:Qa)(O:Ob)(A:Nat->Addr->Prop)(H:Hp)(i:Nat)(v:V):DV->Prop
 | .im d=>Is K (unO O A) H v d
 | .own ds=>∃a xs,v = .ref a/\A i a/\H a=some (.lst xs)/\IsAll K (unO O A) H xs ds
 | .ob=>v=O.v
 | .scr n=>IsS K (unO O A) H v n
 | .dct ks=>∃a,A i a/\DkAt H v a ks
 | .gen f ds=>∃a xs,v = .ref a/\A i a/\H a=some (f a xs)/\IsAll K (unO O A) H xs ds
 | .rd f ds=>∃a xs,v = .ref a/\unO O A a/\H a=some (f a xs)/\IsAll K (unO O A) H xs ds
 | .exc C ns ds=>∃xs,ExAt (unO O A) H v C ns xs/\IsAll K (unO O A) H xs ds
 | .thg T=>T.R K (unO O A) (A i) H v
 | .thr T=>∃W:Addr->Prop,(∀a,W a->unO O A a/\∃o,H a=some o)/\T.R K (unO O A) W H v
structure Rep(K:Qa)(O:Ob)(H₀:Hp)(A:Nat->Addr->Prop)(H:Hp)(σ:St)(ρ:DSt):Prop where
 ok:O.Ok
 p:O.P H
 p0:O.P H₀
 st:Stp O H₀ H
 dis:∀i j a,A i a->A j a->i=j
 own:∀i a,A i a->H₀ a=none/\(∃o,H a=some o/\OwnO o)/\¬O.M a
 at_:∀(i:Nat) r,ρ[i]? = some (some r)->∃v,σ[i]? = some (some v)/\RepV K O A H i v r
 len:ρ.length=σ.length
def Frm(O:Ob)(A:Nat->Addr->Prop)(H:Hp)(A':Nat->Addr->Prop)(H':Hp):Prop:=∀a o,H a=some o->unO O A a->H' a=some o/\unO O A' a
theorem Frm.refl: Frm O A H A H:=λ_ _ h u=>⟨h,u⟩
theorem Frm.trans(a:Frm O A H A1 H1)(b:Frm O A1 H1 A2 H2):Frm O A H A2 H2:=λc o h u=>let ⟨h1,u1⟩:=a c o h u;b c o h1 u1
structure Post(K:Qa)(O:Ob)(H₀:Hp)(A:Nat->Addr->Prop)(H:Hp)(D:Ends)(Dd:DEnds):Prop where
 nx:∀A' σ' H' ρ',Rep K O H₀ A' H' σ' ρ'->Frm O A H A' H'->Dd.nx ρ'->D.nx σ' H'
 bk:∀A' σ' H' ρ',Rep K O H₀ A' H' σ' ρ'->Frm O A H A' H'->Dd.bk ρ'->D.bk σ' H'
 ct:∀A' σ' H' ρ',Rep K O H₀ A' H' σ' ρ'->Frm O A H A' H'->Dd.ct ρ'->D.ct σ' H'
 rt:∀H' v r,Stp O H₀ H'->Out K O H₀ H' v r->Dd.rt r->D.rt v H'
def SD(K:Qa)(O:Ob)(t:TS)(g:DS):Prop :=
 ∀(H₀:Hp) (A:Nat->Addr->Prop) (σ:St) (H:Hp) (ρ:DSt) (D:Ends) (Dd:DEnds),Rep K O H₀ A H σ ρ->g Dd ρ->Post K O H₀ A H D Dd->t D σ H
section
variable {K:Qa}{O:Ob}{H₀ H H':Hp}{A:Nat->Addr->Prop}{σ:St}{ρ:DSt}
theorem Rep.seen(r:Rep K O H₀ A H σ ρ):Seen K O H σ ρ:=by
 refine⟨r.ok,r.p,λi x e=>?_,r.len⟩;obtain⟨v,hv,h⟩:=r.at_ i x e;refine⟨v,hv,?_⟩
 cases x with
 | im d=>exact h.weak λa u=>u.1
 | own ds=>
   obtain⟨a,xs,rfl,ha,hl,hs⟩:=h;exact .list (r.own i a ha).2.2 hl (hs.weak λa u=>u.1)
 | ob=>exact h
 | scr n=>exact IsS.to (λa u f q=>⟨f.1,q⟩) h
 | dct ks=>obtain⟨a,ha,h⟩:=h;exact⟨a,(r.own i a ha).2.2,h⟩
 | gen f ds=>obtain⟨a,xs,e,ha,q,z⟩:=h;exact⟨a,xs,e,(r.own i a ha).2.2,q,z.weak λa u=>u.1⟩
 | rd f ds=>obtain⟨a,xs,e,ha,q,z⟩:=h;exact⟨a,xs,e,ha.1,q,z.weak λa u=>u.1⟩
 | exc C ns ds=>obtain⟨xs,e,z⟩:=h;exact⟨xs,e.to λa u f q=>⟨f.1,q⟩,z.weak λa u=>u.1⟩
 | thg T=>exact⟨A i,λa w=>⟨(r.own i a w).2.2,let ⟨o,q,_⟩:=(r.own i a w).2.1;⟨o,q⟩⟩,T.to (λa u f q=>⟨f.1,q⟩) (λa u w q=>⟨w,q⟩) (TupStay.refl _) h⟩
 | thr T=>obtain⟨W,hw,z⟩:=h;exact⟨W,λa w=>⟨(hw a w).1.1,(hw a w).2⟩,T.to (λa u f q=>⟨f.1,q⟩) (λa u w q=>⟨w,q⟩) (TupStay.refl _) z⟩
theorem Rep.stp(r:Rep K O H₀ A H σ ρ)(s:Stp O H H'):Rep K O H₀ A H' σ ρ:=by
 refine⟨r.ok,s.p r.p,r.p0,r.st.trans s,r.dis,λi a ha=>?_,λi x e=>?_,r.len⟩
 .obtain⟨h0,⟨xs,hx,ho⟩,hm⟩:=r.own i a ha;exact⟨h0,⟨xs,s.s a _ hx hm,ho⟩,hm⟩
 .obtain⟨v,hv,h⟩:=r.at_ i x e;refine⟨v,hv,?_⟩
  cases x with
  | im d=>exact Is.stp s (λ_ z=>z) (λ_ z=>z.1) h
  | own ds=>
    obtain⟨a,xs,rfl,ha,hl,hs⟩:=h;exact⟨a,xs,rfl,ha,s.s a _ hl (r.own i a ha).2.2,hs.stp s (λ_ z=>z) (λ_ z=>z.1)⟩
  | ob=>exact h
  | scr n=>exact IsS.to (λa u f q=>⟨f,s.s a u q f.1⟩) h
  | dct ks=>obtain⟨a,ha,h⟩:=h;exact⟨a,ha,h.to λu q=>s.s a u q (r.own i a ha).2.2⟩
  | gen f ds=>obtain⟨a,xs,e,ha,q,z⟩:=h;exact⟨a,xs,e,ha,s.s a _ q (r.own i a ha).2.2,z.stp s (λ_ z=>z) (λ_ z=>z.1)⟩
  | rd f ds=>obtain⟨a,xs,e,ha,q,z⟩:=h;exact⟨a,xs,e,ha,s.s a _ q ha.1,z.stp s (λ_ z=>z) (λ_ z=>z.1)⟩
  | exc C ns ds=>obtain⟨xs,e,z⟩:=h;exact⟨xs,e.to λa u f q=>⟨f,s.s a u q f.1⟩,z.stp s (λ_ z=>z) (λ_ z=>z.1)⟩
  | thg T=>exact T.to (λa u f q=>⟨f,s.s a u q f.1⟩) (λa u w q=>⟨w,s.s a u q (r.own i a w).2.2⟩) s.t h
  | thr T=>obtain⟨W,hw,z⟩:=h;exact⟨W,λa w=>let ⟨f,o,q⟩:=hw a w;⟨f,o,s.s a o q f.1⟩,T.to (λa u f q=>⟨f,s.s a u q f.1⟩) (λa u w q=>⟨w,s.s a u q (hw a w).1.1⟩) s.t z⟩
theorem Frm.stp(s:Stp O H H'):Frm O A H A H':=λa o e u=>⟨s.s a o e u.1,u⟩
theorem Rep.setIm{i:Nat}{d:VI}(r:Rep K O H₀ A H σ ρ)(h:Is K (unO O A) H v d):Rep K O H₀ (λj a=>j≠i/\A j a) H (σ.set i (some v)) (ρ.set i (some (.im d))):=by
 have un:∀a,unO O A a->unO O (λj a=>j≠i/\A j a) a:=λa u=>⟨u.1,λj z=>u.2 j z.2⟩;refine⟨r.ok,r.p,r.p0,r.st,λj k a x y=>r.dis j k a x.2 y.2,λj a x=>r.own j a x.2,λj x e=>?_,by rw[QA,QA];exact r.len⟩
 by_cases hj:i=j
 .subst hj
  have hi:i<ρ.length:=by
   rcases ZN i ρ.length with z|z
   .exact z
   .rw[QI (by simpa using z)] at e;cases e
  rw[Q0 hi] at e;cases e;exact⟨v,Q0 (by have:=r.len;lia),h.weak un⟩
 .rw[Q4 hj] at e;obtain⟨w,h1,h2⟩:=r.at_ j x e;refine⟨w,by rw[Q4 hj];exact h1,?_⟩
  cases x with
  | im d=>exact h2.weak un
  | own ds=>
    obtain⟨a,xs,rfl,ha,hl,hs⟩:=h2;exact⟨a,xs,rfl,⟨λz=>hj z.symm,ha⟩,hl,hs.weak un⟩
  | ob=>exact h2
  | scr n=>exact IsS.to (λa u f q=>⟨un a f,q⟩) h2
  | dct ks=>obtain⟨a,ha,h2⟩:=h2;exact⟨a,⟨λz=>hj z.symm,ha⟩,h2⟩
  | gen f ds=>obtain⟨a,xs,e,ha,q,z⟩:=h2;exact⟨a,xs,e,⟨λz=>hj z.symm,ha⟩,q,z.weak un⟩
  | rd f ds=>obtain⟨a,xs,e,ha,q,z⟩:=h2;exact⟨a,xs,e,un a ha,q,z.weak un⟩
  | exc C ns ds=>obtain⟨xs,e,z⟩:=h2;exact⟨xs,e.to λa u f q=>⟨un a f,q⟩,z.weak un⟩
  | thg T=>exact T.to (λa u f q=>⟨un a f,q⟩) (λa u w q=>⟨⟨λz=>hj z.symm,w⟩,q⟩) (TupStay.refl _) h2
  | thr T=>obtain⟨W,hw,z⟩:=h2;exact⟨W,λa w=>⟨un a (hw a w).1,(hw a w).2⟩,T.to (λa u f q=>⟨un a f,q⟩) (λa u w q=>⟨w,q⟩) (TupStay.refl _) z⟩
def reg(A:Nat->Addr->Prop)(i:Nat)(W:Addr->Prop):Nat->Addr->Prop:=λj b=>(j≠i/\A j b)\/(j=i/\W b)
theorem Rep.tstay{i:Nat}(r:Rep K O H₀ A H σ ρ)(stay:∀b u,H b=some u->¬A i b->H' b=some u):TupStay H H':=λb u hu hb=>stay b u hb λz=>by
 obtain⟨_,⟨o,q,ho⟩,_⟩:=r.own i b z;rw[hb] at q;cases q;obtain⟨us,e1|⟨o',e1⟩⟩:=hu
 .exact(ho us).1 e1
 .exact(ho us).2 o' e1
theorem Rep.setX{i:Nat}(r:Rep K O H₀ A H σ ρ)(s:Stp O H H1)(stay1:∀b u,H1 b=some u->¬A i b->H' b=some u)(hW:∀b,W b->(A i b\/H b=QD)/\∃o,H' b=some o/\OwnO o)
 (hR:RepV K O (reg A i W) H' i v y):Rep K O H₀ (reg A i W) H' (σ.set i (some v)) (ρ.set i (some y)):=by
 have ts1:=(r.stp s).tstay stay1;have ts:TupStay H H':=λb u hu hb=>ts1 b u hu (s.t b u hu hb);have nA:∀b,O.M b->¬A i b:=λb m z=>(r.own i b z).2.2 m;have stay:∀b u,H b=some u->¬A i b->¬O.M b->H' b=some u:=λb u e z m=>stay1 b u (s.s b u e m) z
 have sM:∀b,O.M b->H' b=H1 b:=λb m=>by
  obtain⟨o,e⟩:=r.ok.here H1 b (s.p r.p) m;rw[e,stay1 b o e (nA b m)]
 have pp:O.P H':=r.ok.loc H1 _ sM (s.p r.p);have oth:∀{j b},j≠i->A j b->¬A i b:=λhj a z=>hj (r.dis _ _ _ a z)
 have un:∀b u,H b=some u->unO O A b->unO O (reg A i W) b:=λb u e f=>⟨f.1,λj z=>by
  rcases z with z|z
  .exact f.2 j z.2
  .rcases(hW b z.2).1 with y|y
   .exact f.2 i y
   .rw[e] at y;cases y⟩
 have tF:∀b u,unO O A b->H b=some u->unO O (reg A i W) b/\H' b=some u:=λb u f q=>⟨un b u q f,stay b u q (f.2 i) f.1⟩;have mv:∀{v d},Is K (unO O A) H v d->Is K (unO O (reg A i W)) H' v d:=λz=>z.to (λb ys f q=>tF b _ f q) λb ys q=>SqT.stay (h:=q) ts;have mvs:∀{v d},IsAll K (unO O A) H v d->IsAll K (unO O (reg A i W)) H' v d:=λz=>z.to (λb ys f q=>tF b _ f q) λb ys q=>SqT.stay (h:=q) ts
 have wm:∀b,W b->H₀ b=QD/\¬O.M b:=λb w=>by
  rcases(hW b w).1 with z|z
  .exact⟨(r.own i b z).1,(r.own i b z).2.2⟩
  .have m:¬O.M b:=λm=>by obtain⟨o,e⟩:=r.ok.here H b r.p m;rw[z] at e;cases e
   exact⟨r.st.s.free m z,m⟩
 refine⟨r.ok,pp,r.p0,⟨λb o hb n=>?_,λ_=>pp,λb u hu hb=>ts b u hu (r.st.t b u hu hb)⟩,λj k b x y=>?_,λj b x=>?_,λj x e=>?_,by rw[QA,QA];exact r.len⟩
 .exact stay b o (r.st.s b o hb n) (λz=>by rw[(r.own i b z).1] at hb;cases hb) n
 .rcases x with x|x <;> rcases y with y|y
  .exact r.dis j k b x.2 y.2
  .rcases(hW b y.2).1 with z|z
   .exact absurd (r.dis j i b x.2 z) x.1
   .obtain⟨_,⟨o,q,_⟩,_⟩:=r.own j b x.2;rw[z] at q;cases q
  .rcases(hW b x.2).1 with z|z
   .exact absurd (r.dis k i b y.2 z) y.1
   .obtain⟨_,⟨o,q,_⟩,_⟩:=r.own k b y.2;rw[z] at q;cases q
  .exact x.1.trans y.1.symm
 .rcases x with x|x
  .obtain⟨h0,⟨o,q,ho⟩,m⟩:=r.own j b x.2;exact⟨h0,⟨o,stay b o q (oth x.1 x.2) m,ho⟩,m⟩
  .exact⟨(wm b x.2).1,(hW b x.2).2,(wm b x.2).2⟩
 .by_cases hj:i=j
  .subst hj
   have hi:i<ρ.length:=by
    rcases ZN i ρ.length with z|z
    .exact z
    .rw[QI (by simpa using z)] at e;cases e
   rw[Q0 hi] at e;cases e;exact⟨v,Q0 (by have:=r.len;lia),hR⟩
  .rw[Q4 hj] at e;obtain⟨w,h1,h2⟩:=r.at_ j x e;have hj':j≠i:=λz=>hj z.symm;refine⟨w,by rw[Q4 hj];exact h1,?_⟩
   cases x with
   | im d=>exact mv h2
   | own es=>
     obtain⟨b,ys,rfl,hb,hlb,hs⟩:=h2;exact⟨b,ys,rfl,.inl ⟨hj',hb⟩,stay b _ hlb (oth hj' hb) (r.own j b hb).2.2,mvs hs⟩
   | ob=>exact h2
   | scr n=>exact IsS.to (λb u f q=>tF b u f q) h2
   | dct ks=>obtain⟨b,hb,h2⟩:=h2;exact⟨b,.inl ⟨hj',hb⟩,h2.to λu q=>stay b u q (oth hj' hb) (r.own j b hb).2.2⟩
   | gen f ds=>obtain⟨b,xs,e,hb,q,z⟩:=h2;exact⟨b,xs,e,.inl ⟨hj',hb⟩,stay b _ q (oth hj' hb) (r.own j b hb).2.2,mvs z⟩
   | rd f ds=>obtain⟨b,xs,e,hb,q,z⟩:=h2;exact⟨b,xs,e,un b _ q hb,stay b _ q (hb.2 i) hb.1,mvs z⟩
   | exc C ns ds=>obtain⟨xs,e,z⟩:=h2;exact⟨xs,e.to λb u f q=>tF b u f q,mvs z⟩
   | thg T=>exact T.to (λb u f q=>tF b u f q) (λb u w q=>⟨.inl ⟨hj',w⟩,stay b u q (oth hj' w) (r.own j b w).2.2⟩) ts h2
   | thr T=>obtain⟨W',hw,z⟩:=h2;exact⟨W',λb w=>let ⟨f,o,q⟩:=hw b w;⟨un b o q f,o,stay b o q (f.2 i) f.1⟩,T.to (λb u f q=>tF b u f q) (λb u w q=>⟨w,stay b u q ((hw b w).1.2 i) (hw b w).1.1⟩) ts z⟩
theorem Rep.setOwn{i:Nat}(r:Rep K O H₀ A H σ ρ)(s:Stp O H H')(hn:H a=none)(hl:H' a=some (.lst xs))(hf:IsAll K (unM O) H' xs ds)(fl:flats ds=true):
 Rep K O H₀ (λj b=>(j≠i/\A j b)\/(j=i/\b=a)) H' (σ.set i (some (.ref a))) (ρ.set i (some (.own ds))) :=
 r.setX (W:=λb=>b=a) s (λ_ _ e _=>e) (λb e=>by subst e;exact⟨.inr hn,_,hl,.lst⟩) ⟨a,xs,rfl,.inr ⟨rfl,rfl⟩,hl,IsAll.flats (TupStay.refl H') hf fl⟩
theorem Frm.setIm{i:Nat}(s:Stp O H H'):Frm O A H (λj a=>j≠i/\A j a) H':=λa o e u=>⟨s.s a o e u.1,u.1,λj z=>u.2 j z.2⟩
theorem Frm.setOwn{i:Nat}(s:Stp O H H')(hn:H a=none):Frm O A H (λj b=>(j≠i/\A j b)\/(j=i/\b=a)) H':=λb o e u=>⟨s.s b o e u.1,u.1,λj z=>by
 rcases z with z|z
 .exact u.2 j z.2
 .rw[z.2,hn] at e;cases e⟩
theorem zmk{i:Nat}:reg A i (A i)=A:=by
 funext j b;refine propext ⟨λz=>?_,λz=>?_⟩
 .rcases z with z|z
  .exact z.2
  .rw[z.1];exact z.2
 .by_cases e:j=i
  .exact .inr ⟨e,e ▸ z⟩
  .exact .inl ⟨e,z⟩
theorem Rep.changeX{i:Nat}(r:Rep K O H₀ A H σ ρ)(hv:σ[i]? = some (some (.ref a)))(ha:A i a)(ho:OwnO o)(hR:RepV K O A (upd H a o) i (.ref a) y):Rep K O H₀ A (upd H a o) σ (ρ.set i (some y)):=by
 have hs:σ.set i (some (.ref a))=σ:=by
  refine YW λj=>?_;rw[List.getElem?_set]
  split
  .rename_i e
   subst e;rw[Gm (Qx.mp hv).1,hv]
  .rfl
 have:=r.setX (i:=i) (v:=.ref a) (W:=A i) (y:=y) (H':=upd H a o) (.refl O H) (λb u e n=>by rw[zac λz=>n (by rw[z];exact ha)];exact e) (λb z=>⟨.inl z,by
  by_cases e:b=a
  .subst e;exact⟨_,zaf,ho⟩
  .obtain⟨_,⟨u,q,ou⟩,_⟩:=r.own i b z
   exact⟨u,by rw[zac e];exact q,ou⟩⟩) (by rw[zmk];exact hR)
 rw[zmk,hs] at this;exact this
theorem Rep.up{i:Nat}(r:Rep K O H₀ A H σ ρ)(ha:A i a)(h:IsAll K (unO O A) H xs ds):IsAll K (unO O A) (upd H a o) xs ds :=
 have st:∀b u,H b=some u->¬A i b->upd H a o b=some u:=λb u e n=>by rw[zac λz=>n (by rw[z];exact ha)];exact e
 h.to (λb ys f q=>⟨f,st b _ q (f.2 i)⟩) λb ys q=>SqT.stay (h:=q) (r.tstay st)
theorem Rep.change{i:Nat}(r:Rep K O H₀ A H σ ρ)(e:ρ[i]? = some (some (.own ds)))(hv:σ[i]? = some (some (.ref a)))(ha:A i a)(hs:IsAll K (unO O A) H ys es):
 Rep K O H₀ A (upd H a (.lst ys)) σ (ρ.set i (some (.own es))) :=
 r.changeX hv ha .lst ⟨a,ys,rfl,ha,zaf,r.up ha hs⟩
theorem Frm.change{i:Nat}(ha:A i a):Frm O A H A (upd H a o):=λb u e n=>⟨by rw[zac (show b≠a from λz=>n.2 i (by rw[z];exact ha))];exact e,n⟩
end
section
variable {K:Qa}{O:Ob}
theorem Post.frm(P:Post K O H₀ A H D Dd)(f:Frm O A H A1 H1):Post K O H₀ A1 H1 D Dd :=
 ⟨λA' σ' H' ρ' r g=>P.nx A' σ' H' ρ' r (f.trans g),λA' σ' H' ρ' r g=>P.bk A' σ' H' ρ' r (f.trans g),λA' σ' H' ρ' r g=>P.ct A' σ' H' ρ' r (f.trans g),P.rt⟩
def seqD(g k:DS):DS:=λDd ρ=>g { Dd with nx:=k Dd } ρ
theorem zz0{t:TS}{k:DS}(h:SD K O t g)(h':SD K O u k):SD K O (tSeq t u) (seqD g k):=λH₀ A σ H ρ D Dd r q P=>
 h H₀ A σ H ρ _ _ r q ⟨λA' σ' H' ρ' r' f q'=>h' H₀ A' σ' H' ρ' D Dd r' q' (P.frm f),P.bk,P.ct,P.rt⟩
theorem zwu:SD K O zgv (λDd ρ=>Dd.nx ρ):=λH₀ A σ H ρ D Dd r q P=>P.nx A σ H ρ r .refl q
def ifS(c:DT)(g k:DS):DS:=λDd ρ=>c ρ λb=>if b=true then g Dd ρ else k Dd ρ
theorem z0x{t:TS}{k:DS}(hc:TD K O c fc)(h:SD K O t g)(h':SD K O u k):SD K O (tIfS c t u) (ifS fc g k):=λH₀ A σ H ρ D Dd r q P=>by
 refine hc σ H ρ _ _ r.seen q λb H1 s1 q1=>?_
 cases b with
 | true=>exact h H₀ A σ H1 ρ D Dd (r.stp s1) q1 (P.frm (.stp s1))
 | false=>exact h' H₀ A σ H1 ρ D Dd (r.stp s1) q1 (P.frm (.stp s1))
def retS(f:DE):DS:=λDd ρ=>f ρ Dd.rt
theorem z0a{t:TE}(h:ED K O t f):SD K O (tRet t) (retS f):=λH₀ A σ H ρ D Dd r q P=>by
 refine h σ H ρ _ _ r.seen q λv H1 x s1 o1 q1=>P.rt H1 v x (r.st.trans s1) (o1.ahead r.ok r.p0 r.st) q1
def asgS(i:Nat)(f:DE):DS:=λDd ρ=>f ρ λr=>match r with
 | .o d=>flat d=true/\Dd.nx (ρ.set i (some (.im d)))
 | .n ds=>flats ds=true/\Dd.nx (ρ.set i (some (.own ds)))
theorem zrn{i:Nat}{t:TE}(h:ED K O t f):SD K O (tAsg t (zap i)) (asgS i f):=λH₀ A σ H ρ D Dd r q P=>by
 refine h σ H ρ _ _ r.seen q λv H1 x s1 o1 q1=>?_
 cases x with
 | o d=>
   obtain⟨fl,q1⟩:=q1;exact P.nx _ _ H1 _ ((r.stp s1).setIm (Is.flat (TupStay.refl H1) o1 fl)) (.setIm s1) q1
 | n ds=>
   obtain⟨fl,q1⟩:=q1;obtain⟨a,xs,rfl,hn,hl,hs⟩:=o1;exact P.nx _ _ H1 _ (r.setOwn s1 hn hl hs fl) (.setOwn s1 hn) q1
def appS(i:Nat)(f:DE):DS:=λDd ρ=>∃ds,ρ[i]? = some (some (.own ds))/\f ρ λr=>flat r.d=true/\ds.length<sizeLine/\Dd.nx (ρ.set i (some (.own (ds ++ [r.d]))))
theorem zrv{i:Nat}{t:TE}(h:ED K O t f):SD K O (zps (tBM K "list" zgo (tVar i) (zaw t tNil))) (appS i f):=λH₀ A σ H ρ D Dd r q P=>by
 obtain⟨ds,e,q⟩:=q;obtain⟨v,hv,a,xs,rfl,ha,hl,hs⟩:=r.at_ i _ e;refine⟨_,hv,?_⟩;refine⟨.inl ⟨rfl,xs,.of hl⟩,?_⟩;refine h σ H ρ _ _ r.seen q λw H1 x s1 o1 zz=>?_;obtain⟨fl,hz,q1⟩:=zz;have r1:=r.stp s1;obtain⟨v1,hv1,a1,xs1,e1,ha1,hl1,hs1⟩:=r1.at_ i _ e;rw[hv] at hv1;cases hv1;cases e1;refine⟨a,xs1,w,rfl,rfl,hl1,by rw[hs1.length];exact hz,?_⟩;have iw:Is K (unO O A) H1 w x.d:=Is.flat (TupStay.refl H1) (o1.is r.ok r.p) fl;exact P.nx A σ _ _ (r1.change e hv ha (hs1.snoc iw)) ((Frm.stp s1).trans (.change ha)) q1
end
def GR(K:Qa)(O:Ob)(t:TG)(g:DG):Prop :=
 ∀(H₀:Hp) (A:Nat->Addr->Prop) (σ:St) (H:Hp) (ρ:DSt) (v:V) (d:VI) (Q:St->Hp->Prop) (Qd:DSt->Prop),Rep K O H₀ A H σ ρ->flat d=true->Is K (unO O A) H v d->g d ρ Qd ->
   (∀A' σ' ρ',Rep K O H₀ A' H σ' ρ'->Frm O A H A' H->Qd ρ'->Q σ' H)->t v σ H Q
section
variable {K:Qa}{O:Ob}
theorem zxr{i:Nat}:GR K O (zap i) (gN i):=λH₀ A σ H ρ v d Q Qd r _ h q k=>k _ _ _ (r.setIm h) (.setIm (.refl _ _)) q
def GRs(K:Qa)(O:Ob)(t:TGs)(is:List Nat):Prop :=
 ∀(H₀:Hp) (A:Nat->Addr->Prop) (σ:St) (H:Hp) (ρ:DSt) (vs:List V) (ds:List VI) (Q:St->Hp->Prop) (Qd:DSt->Prop),Rep K O H₀ A H σ ρ->flats ds=true->IsAll K (unO O A) H vs ds->gTD is ds ρ Qd ->
   (∀A' σ' ρ',Rep K O H₀ A' H σ' ρ'->Frm O A H A' H->Qd ρ'->Q σ' H)->t vs σ H Q
theorem zwg:GRs K O gNil []:=λH₀ A σ H ρ vs ds Q Qd r _ i h k=>by
 cases i with
 | nil=>exact⟨rfl,k A σ ρ r .refl h⟩
 | cons _ _=>exact h.elim
theorem ztl{i:Nat}{is:List Nat}{t:TGs}(ht:GRs K O t is):GRs K O (zdu (zap i) t) (i::is):=λH₀ A σ H ρ vs ds Q Qd r fl h q k=>by
 cases h with
 | nil=>exact q.elim
 | cons h1 h2=>
   rw[flats,QV] at fl;have f1:Frm O A H (λj a=>j≠i/\A j a) H:=.setIm (.refl _ _);refine⟨_,_,rfl,ht _ _ _ H _ _ _ _ _ (r.setIm h1) fl.2 (IsAll.flats (TupStay.refl H) h2 fl.2) q λA' σ' ρ' r' f q'=>k A' σ' ρ' r' (f1.trans f) q'⟩
theorem zy5{is:List Nat}{t:TGs}{n:Nat}(hn:is.length=n)(ht:GRs K O t is):GR K O (gTup K n t) (gT is):=λH₀ A σ H ρ v d Q Qd r fl i h k=>by
 obtain⟨ds,rfl,h⟩:=h
 cases i with
 | tuple q is'=>exact⟨_,_,rfl,q,by rw[is'.length,zet h];exact hn,ht H₀ A σ H ρ _ ds Q Qd r (by simpa[flat] using fl) is' h k⟩
def zee(g:DG)(gb:DS)(Dd:DEnds):List VI->DSt->Prop
 | [],ρ=>Dd.nx ρ
 | d::ds,ρ=>flat d=true/\g d ρ λρ2=>gb { Dd with nx:=zee g gb Dd ds,ct:=zee g gb Dd ds,bk:=Dd.nx } ρ2
abbrev DJ:=DSt->(List VI->Prop)->Prop
def SrcR(K:Qa)(O:Ob)(wi:TI)(f:DJ):Prop :=
 ∀(H₀:Hp) (A:Nat->Addr->Prop) (σ:St) (H:Hp) (ρ:DSt) (R:It->Hp->Prop) (Qd:List VI->Prop),Rep K O H₀ A H σ ρ->f ρ Qd ->
   (∀(J:It) (H1:Hp) (ds:List VI) (B:Addr->Prop),Walk K O H H1 J ds B->(∀a,B a->unO O A a)->Qd ds->R J H1)->wi σ H R
def newJ(f:DI):DJ:=λρ Q=>f ρ λfr ds=>fr=true/\Q ds
theorem zyd(h:SrcS K O wi f):SrcR K O wi (newJ f):=λH₀ A σ H ρ R Qd r q k=>by
 refine h σ H ρ _ _ r.seen q λJ H1 ds B fr W hfr ⟨e,q1⟩=>k J H1 ds B W (λa b=>⟨(W.hb a b).1,λj z=>?_⟩) q1;obtain⟨_,⟨xs,q,_⟩,_⟩:=r.own j a z;rw[hfr e a b] at q;cases q
def forS(f:DJ)(g:DG)(gb:DS):DS:=λDd ρ=>f ρ λds=>zee g gb Dd ds ρ
theorem Rep.tupStay(r:Rep K O H₀ A H1 σ ρ)(f:Frm O A H1 A2 H2):TupStay H1 H2:=λa u hu e=>by
 refine(f a u e ⟨λm=>?_,λj z=>?_⟩).1
 .have mm:=r.ok.mutb H1 a u r.p e m;obtain⟨xs,e1|⟨o,e1⟩⟩:=hu
  .exact mm.1 xs e1
  .exact mm.2 o _ e1
 .obtain⟨_,⟨xs,q,ho⟩,_⟩:=r.own j a z;rw[e] at q;cases q;obtain⟨ys,e1|⟨o,e1⟩⟩:=hu
  .exact(ho ys).1 e1
  .exact(ho ys).2 o e1
theorem z0d(hs:SrcR K O wi f)(hg:GR K O tg g)(hb:SD K O tb gb):SD K O (tFor wi tg tb) (forS f g gb):=λH₀ A σ H ρ D Dd r q P=>by
 refine hs H₀ A σ H ρ _ _ r q λJ H1 ds B W uB go=>?_;have r1:=r.stp W.st;have f1:Frm O A H A H1:=.stp W.st;refine⟨λi m σ2 H2=>m=ds.length-i/\i<=ds.length/\∃A2 ρ2,Rep K O H₀ A2 H2 σ2 ρ2/\Frm O A H1 A2 H2/\zee g gb Dd (ds.drop i) ρ2,⟨ds.length,rfl,QC _,A,ρ,r1,.refl,by simpa using go⟩,?_⟩;rintro i m σ2 H2 ⟨rfl,hi,A2,ρ2,r2,f2,go2⟩;have kB:∀a o,B a->H1 a=some o->H2 a=some o:=λa o b e=>(f2 a o e (uB a b)).1;have ts:TupStay H1 H2:=r1.tupStay f2
 by_cases hlt:i<ds.length
 .right;have hd:ds[i]? = some ds[i]:=Qu hlt;rw[Z7 hlt] at go2;obtain⟨fl,go2⟩:=go2;obtain⟨hgo,hy⟩:=W.item H2 i ds[i] kB ts hd (.inl fl);refine⟨hgo,λσ' H'=>∃A' ρ',Rep K O H₀ A' H' σ' ρ'/\Frm O A H1 A' H'/\zee g gb Dd (ds.drop (i+1)) ρ',λσ' H' ⟨A',ρ',x1,x2,x3⟩=>⟨ds.length-(i+1),by lia,rfl,hlt,A',ρ',x1,x2,x3⟩,λx H3 y=>?_⟩;obtain⟨sm,ix⟩:=hy x H3 y;have st3:Stp O H2 H3:=.same r2.ok sm;have r3:=r2.stp st3;refine hg H₀ A2 σ2 H3 ρ2 x ds[i] _ _ r3 fl (Is.flat (TupStay.refl H3) ix fl) go2 λA3 σ3 ρ3 r3' f3 q3=>?_;have f13:Frm O A H1 A3 H3:=(f2.trans (.stp st3)).trans f3;refine hb H₀ A3 σ3 H3 ρ3 _ _ r3' q3 ⟨λA' σ' H' ρ' r' f' q'=>⟨A',ρ',r',f13.trans f',q'⟩,λA' σ' H' ρ' r' f' q'=>P.nx A' σ' H' ρ' r' (f1.trans (f13.trans f')) q',λA' σ' H' ρ' r' f' q'=>⟨A',ρ',r',f13.trans f',q'⟩,P.rt⟩
 .left;have e:i=ds.length:=by lia
  subst e;rw[Yh] at go2;exact⟨W.stop H2 _ kB ts (Qe _),P.nx A2 σ2 H2 ρ2 r2 (f1.trans f2) go2⟩
def zrt(c:DT)(gb:DS):DS:=λDd ρ=>∃W:Nat->DSt->Prop,(∃m,W m ρ)/\∀m ρ,W m ρ->c ρ λb=>if b=true then gb { Dd with nx:=λρ'=>∃m',m'<m/\W m' ρ',ct:=λρ'=>∃m',m'<m/\W m' ρ',bk:=Dd.nx } ρ else Dd.nx ρ
theorem zs7(hc:TD K O c fc)(hb:SD K O tb gb):SD K O (zfw c tb) (zrt fc gb):=λH₀ A σ H ρ D Dd r q P=>by
 obtain⟨W,⟨m0,w0⟩,turn⟩:=q;refine⟨λm σ2 H2=>∃A2 ρ2,Rep K O H₀ A2 H2 σ2 ρ2/\Frm O A H A2 H2/\W m ρ2,⟨m0,A,ρ,r,.refl,w0⟩,?_⟩;rintro m σ2 H2 ⟨A2,ρ2,r2,f2,w2⟩;refine hc σ2 H2 ρ2 _ _ r2.seen (turn m ρ2 w2) λb H3 s3 q3=>?_;have f3:Frm O A H A2 H3:=f2.trans (.stp s3)
 cases b with
 | true=>
   refine⟨λσ' H'=>∃A' ρ',Rep K O H₀ A' H' σ' ρ'/\Frm O A H A' H'/\∃m',m'<m/\W m' ρ',λσ' H' ⟨A',ρ',x1,x2,m',x3,x4⟩=>⟨m',x3,A',ρ',x1,x2,x4⟩,?_⟩;exact hb H₀ A2 σ2 H3 ρ2 _ _ (r2.stp s3) q3 ⟨λA' σ' H' ρ' r' f' q'=>⟨A',ρ',r',f3.trans f',q'⟩,λA' σ' H' ρ' r' f' q'=>P.nx A' σ' H' ρ' r' (f3.trans f') q',λA' σ' H' ρ' r' f' q'=>⟨A',ρ',r',f3.trans f',q'⟩,P.rt⟩
 | false=>exact P.nx A2 σ2 H3 ρ2 (r2.stp s3) f3 q3
end
def spO(K:Qa)(φ:Ob->Prop)(n:Nat)(f:List VI->(R->Prop)->Prop):Sp:=λvs H Q _=>
 ∃(O:Ob) (ds:List VI) (Qr:R->Prop),O.Ok/\φ O/\O.P H/\ds.length=n/\IsAll K (unM O) H vs ds/\f ds Qr/\∀r,Qr r->∀v H',Stp O H H'->Out K O H H' v r->Q v H'
def spD(K:Qa)(φ:Ob->Prop)(n:Nat)(f:List VI->(R->Prop)->Prop):Sp:=λvs H Q _=>
 ∃(O:Ob) (ds:List VI) (ws:List V) (Qr:R->Prop),O.Ok/\φ O/\O.P H/\ds.length=n/\vs=O.v::ws/\IsAll K (unM O) H ws ds/\f ds Qr/\∀r,Qr r->∀v H',Stp O H H'->Out K O H H' v r->Q v H'
def za9(N:List Str)(rs:List DV):DSt:=rs.map some++Qh (N.length-rs.length) none
section
variable {K:Qa}{O:Ob}
theorem zec(ok:O.Ok)(p:O.P H)(hl:vs.length=rs.length)(h:∀(i:Nat) r,rs[i]? = some r->∃v,vs[i]? = some v/\((∃d,r = .im d/\Is K (unM O) H v d)\/(r = .ob/\v=O.v))):
 Rep K O H (λ_ _=>False) H (L2.start N vs) (za9 N rs):=by
 refine⟨ok,p,p,.refl _ _,λ_ _ _ z=>z.elim,λ_ _ z=>z.elim,λi r e=>?_,?_⟩
 .unfold za9 at e
  by_cases hi:i<rs.length
  .rw[Qy (by simpa using hi),Qj] at e
   cases q:rs[i]? with
   | none=>rw[q] at e;cases e
   | some r'=>
     rw[q] at e;have e':r'=r:=QM (QM e);subst e';obtain⟨v,hv,hh⟩:=h i r' q;refine⟨v,?_,?_⟩
     .unfold L2.start;rw[Qy (by rw[Qb,hl];exact hi),Qj,hv];rfl
     .rcases hh with ⟨d,rfl,hd⟩|⟨rfl,hd⟩
      .exact hd.weak λa u=>⟨u,λj z=>z⟩
      .exact hd
  .rw[Q7 (by simpa using hi),QU] at e
   split at e <;> cases e
 .unfold za9 L2.start;rw[Qi,Qi,Qb,Qb,QG,QG,hl]
theorem z1x{t:TS}(h:SD K O t g)(ok:O.Ok)(p:O.P H)(ia:IsAll K (unM O) H vs ds)
 (hg:g { nx:=λ_=>Qr (.o .none),rt:=Qr } (za9 N (ds.map .im))) (hQ:∀r,Qr r->∀v H',Stp O H H'->Out K O H H' v r->Q v H'):t { nx:=λ_ H'=>Q .non H',rt:=Q } (L2.start N vs) H:=by
 refine h H _ _ H _ _ _ (zec ok p (by rw[Qb];exact ia.length) λi r e=>?_) hg ⟨λA' σ' H' ρ' r' _ q=>hQ _ q .non H' r'.st Is.none,λA' σ' H' ρ' r' _ q=>q.elim,λA' σ' H' ρ' r' _ q=>q.elim,λH' v r s o q=>hQ r q v H' s o⟩;rw[Qj] at e;obtain⟨d,hd,rfl⟩:=Qf.mp e;obtain⟨v,hv,iv⟩:=ia.get hd;exact⟨v,hv,.inl ⟨d,rfl,iv⟩⟩
theorem z1t{t:TS}(h:SD K O t g)(ok:O.Ok)(p:O.P H)(ia:IsAll K (unM O) H ws ds)
 (hg:g { nx:=λ_=>Qr (.o .none),rt:=Qr } (za9 N (.ob::ds.map .im))) (hQ:∀r,Qr r->∀v H',Stp O H H'->Out K O H H' v r->Q v H'):t { nx:=λ_ H'=>Q .non H',rt:=Q } (L2.start N (O.v::ws)) H:=by
 refine h H _ _ H _ _ _ (zec ok p (by rw[Qs,Qs,Qb,ia.length]) λi r e=>?_) hg ⟨λA' σ' H' ρ' r' _ q=>hQ _ q .non H' r'.st Is.none,λA' σ' H' ρ' r' _ q=>q.elim,λA' σ' H' ρ' r' _ q=>q.elim,λH' v r s o q=>hQ r q v H' s o⟩
 cases i with
 | zero=>cases e;exact⟨O.v,rfl,.inr ⟨rfl,rfl⟩⟩
 | succ i=>
   rw[ZF,Qj] at e;obtain⟨d,hd,rfl⟩:=Qf.mp e;obtain⟨v,hv,iv⟩:=ia.get hd;exact⟨v,by rw[ZF];exact hv,.inl ⟨d,rfl,iv⟩⟩
def calD(n:Nat)(f:List VI->(R->Prop)->Prop)(g:DA):DE:=λρ Q=>g ρ λds=>ds.length=n/\f ds Q
theorem zwb{n:Nat}{t:TA}(hφ:φ O)(h:AD K O t g):ED K O (zbp (spO K φ n f) [] E t) (calD n f g):=λσ H ρ Q Qd S q k=>by
 refine h σ H ρ _ _ S q λvs H1 ds s1 is zz=>?_;obtain⟨hn,q1⟩:=zz;rw[QJ];exact⟨O,ds,Qd,S.ok,hφ,s1.p S.p,hn,is,q1,λr qr v H' s2 o2=>k v H' r (s1.trans s2) (o2.ahead S.ok S.p s1) qr⟩
def calO(i:Nat)(n:Nat)(f:List VI->(R->Prop)->Prop)(g:DA):DE:=λρ Q=>ρ[i]? = some (some .ob)/\g ρ λds=>ds.length=n/\f ds Q
theorem zs9{i n:Nat}{t:TA}(hφ:φ O)(h:AD K O t g):ED K O (zbp (spD K φ n f) [] E (zaw (tVar i) t)) (calO i n f g):=λσ H ρ Q Qd S q k=>by
 obtain⟨e,q⟩:=q;obtain⟨v,hv,hh⟩:=S.at_ i _ e;refine⟨v,hv,?_⟩;refine h σ H ρ _ _ S q λvs H1 ds s1 is zz=>?_;obtain⟨hn,q1⟩:=zz;show spD K φ n f ((v::vs) ++ []) H1 Q E;rw[QJ];exact⟨O,ds,vs,Qd,S.ok,hφ,s1.p S.p,hn,by rw[show v=O.v from hh],is,q1,λr qr v H' s2 o2=>k v H' r (s1.trans s2) (o2.ahead S.ok S.p s1) qr⟩
theorem zgk{φ:Ob->Prop}{n:Nat}{f:List VI->(R->Prop)->Prop}{ps:List Str}(hn:ps.length=n):∀vs H Q E,spO K φ n f vs H Q E->vs.length=ps.length:=λvs H Q E zz=>by obtain⟨O,ds,_,_,_,_,h,is,_⟩:=zz;rw[is.length,h,hn]
theorem zjs{φ:Ob->Prop}{n:Nat}{f:List VI->(R->Prop)->Prop}{ps:List Str}(hn:ps.length=n+1):∀vs H Q E,spD K φ n f vs H Q E->vs.length=ps.length:=λvs H Q E zz=>by obtain⟨O,ds,ws,_,_,_,_,h,e,is,_⟩:=zz;rw[e,Qs,is.length,h,hn]
end
section
variable {X:Cx}
def rEqD(K:Qa)(neg:Bool):R2:=λx y H Q=>∃F G d e,Is K F H x d/\Is K G H y e/\d.canLay0=true/\e.canLay0=true/\d.depth<=60/\Q (.bl (if neg then !PyData.eqv d e else J9 d e)) H
theorem z0g(hu:X.A.units+64<U5):OpR X (Ub .Eq) (rEqD X.K false):=by
 intro pins s σ H x y v u Q I rx ry h;obtain⟨F,G,d,e,i1,i2,h1,h2,h3,q⟩:=h;obtain⟨as,ra⟩:=i1.reads I rx;obtain⟨bs,rb⟩:=i2.reads I ry;exact SeqAt.compareEq_reads ra rb h1 h2 (by lia) ⟨.bl _,H,I,rfl,q⟩
theorem z0q(hu:X.A.units+64<U5):OpR X (Ub .NotEq) (rEqD X.K true):=by
 intro pins s σ H x y v u Q I rx ry h;obtain⟨F,G,d,e,i1,i2,h1,h2,h3,q⟩:=h;obtain⟨as,ra⟩:=i1.reads I rx;obtain⟨bs,rb⟩:=i2.reads I ry;exact SeqAt.compareNe_reads ra rb h1 h2 (by lia) ⟨.bl _,H,I,rfl,q⟩
theorem zom:∀{bs:List Bool} {us:List VJ},Vals (bs.map V.bl) us->us=bs.map ZJ
 | [],_,r=>by cases r;rfl
 | b::bs,_,r=>by
   rw[Qp] at r
   cases r with
   | cons h t=>rw[zom t,show _=ZJ b from h];rfl
theorem zr3{bs:List Bool}:(QL bs.length).all (λi=>bs[i]?.getD false)=bs.all id:=by
 apply Ji.mpr;rw[ZX,ZX];constructor
 .intro h x hx;obtain⟨i,hi,e⟩:=Y6.mp hx;have:=h i (by simpa using hi);rw[Qu hi] at this;rw[<- e];simpa using this
 .intro h i hi;have hi':i<bs.length:=by simpa using hi
  rw[Qu hi'];simpa using h _ (ZG hi')
def rAll(any:Bool):List V->Hp->VK->Prop:=λxs H Q=>∃(p:Addr) (bs:List Bool),xs = [.ref p]/\H p=some (.lst (bs.map V.bl))/\Q (.bl (if any then bs.any id else bs.all id)) H
theorem zq7(hc:X.calm=true):zca X (.builtin "all") (rAll false):=by
 intro pins s σ H xs us Q I r h;obtain⟨p,bs,rfl,hH,q⟩:=h;obtain⟨u,rfl,ru⟩:=Vals.one r;cases ru;obtain⟨z,its,n,rv,hl,e⟩:=I.lstM hH;have ei:=zom rv;subst ei;have pl:s.heap.IsList p (bs.map ZJ).toArray:=⟨_,e,rfl,_,rfl⟩;have hne:p≠s.heap.objs.size:=Q5 (Qt e);refine call_all_walk (U6 pl ?_);refine⟨s.heap.objs.size,_,_,_,_,_,λi=>bs[i]?.getD false,rfl,Walks.list (A:=X.A.in1) (I.ok.hd hc) _ p hne (bs.map ZJ).toArray,⟨⟨_,Qv _ rfl,rfl,rfl⟩,_,Qg _ e,rfl,_,rfl⟩,?_,λh' tk kk=>?_⟩
 .intro i v s' Q' E' hv hq;have hv:(bs.map ZJ).toArray[i]? = some v:=hv;rw[Y0,Qj] at hv;obtain⟨b,hb,rfl⟩:=Qf.mp hv;have hq:Q' (bs[i]?.getD false) s':=hq;rw[hb] at hq;exact Uh hq
 .have I1:Inv X pins σ H { s with heap:=h',toks:=tk }:=I.kept λb o eb=>kk b o (by simp;exact Q5 (Qt eb)) (Qg _ eb);refine⟨.bl _,H,I1,?_,q⟩;show ZJ _=ZJ _;rw[Qq,Qb,zr3];rfl
theorem zhp:∀{ys:List Str} {us:List VJ},Vals (ys.map V.str) us->StrsAre us ys
 | [],_,r=>by cases r;exact .nil
 | y::ys,_,r=>by
   rw[Qp] at r
   cases r with
   | cons h t=>obtain⟨tk,rfl⟩:=h;exact .cons y tk (zhp t)
theorem zgh:∀{ys:List Str} {us:List VJ},StrsAre us ys->Vals (ys.map V.str) us
 | _,_,.nil=>.nil
 | _,_,.cons y t r=>.cons ⟨t,rfl⟩ (zgh r)
def zlh:V->List V->Hp->VK->Prop:=λx vs H Q=>∃sep p ys,x = .str sep/\vs = [.ref p]/\H p=some (.lst (ys.map V.str))/\(ys.map (·.length)).sum+ys.length * sep.length<=16777216/\Q (.str (V1 sep ys)) H
theorem zx5:MtM X "str.join" zlh:=by
 intro pins s σ H x vs v us Q I rx rv h;obtain⟨sep,p,ys,rfl,rfl,hH,hz,q⟩:=h;obtain⟨t,rfl⟩:=rx;obtain⟨u,rfl,ru⟩:=rv.one;cases ru;obtain⟨z,its,n,r,hl,e⟩:=I.lstM hH;exact join_list ⟨_,e,rfl,_,rfl⟩ (by simpa using zhp r) hz λt' k=>⟨.str _,H,I.tok _,⟨_,rfl⟩,q⟩
def zqd:List V->Hp->VK->Prop:=λxs H Q=>∃p ys,xs = [.ref p]/\H p=some (.lst (ys.map V.str))/\ys.length<64/\∀zs l,zs.Perm ys->sortedS zs=true->H l=none->Q (.ref l) (upd H l (.lst (zs.map V.str)))
theorem zo9:zca X (.builtin "sorted") zqd:=by
 intro pins s σ H xs us Q I r h;obtain⟨p,ys,rfl,hH,hz,q⟩:=h;obtain⟨u,rfl,ru⟩:=Vals.one r;cases ru;obtain⟨z,its,n,rv,hl,e⟩:=I.lstM hH;refine sorted_strs (ss:=ys) ⟨_,e,rfl,_,rfl⟩ (zhp rv) (by rw[<- hl,Qb];exact hz) λout zs h1 h2 h3=>?_;obtain⟨c,he⟩:=sortedAll_at s.heap its out;have hn:H (s.heap.objs.size+1)=none:=I.hok.fresh (Jr _);refine⟨.ref _,_,I.laid (a:=s.heap.objs.size+1) (o:=.lst (zs.map V.str)) (t':=s.toks) (λb o eb=>sortedAll_old eb) (Jr _) ?_,rfl,q zs _ h2 h3 hn⟩;refine⟨?_,out.toList,c,zgh h1,by simpa using he⟩;rw[Qb,h2.length_eq];have:sizeLine=16777216:=VP;lia
theorem zot(h:ItemsOf P acc ys.length)(hv:∀i v,P i v->∃y,ys[i]? = some y/\RelV y v):Vals ys acc.toList:=by
 have go:∀(k:Nat) (zs:List V) (l:List VJ),zs.length=l.length->(∀(i:Nat) v,l[i]? = some v->∃y,zs[i]? = some y/\RelV y v)->Vals zs l:=by
  intro k zs l
  induction l generalizing zs with
  | nil=>intro e _;cases zs with
    | nil=>exact .nil
    | cons _ _=>simp at e
  | cons a l ih=>intro e hh;cases zs with
    | nil=>simp at e
    | cons z zs=>
      obtain⟨y,h1,h2⟩:=hh 0 a rfl;simp at h1;subst h1;exact .cons h2 (ih zs (by simpa using e) λi v ev=>by simpa using hh (i+1) v (by simpa using ev))
 refine go 0 ys acc.toList (by have e:=h.1;simp[e]) λi v e=>hv i v (h.2 i v (by simpa using e))
def zsb:List V->Hp->VK->Prop:=λxs H Q=>∃x:Str,xs = [.str x]/\x.cps.size<=sizeLine/\∀l,H l=none->Q (.ref l) (upd H l (.lst (x.cps.toList.map λc=>V.str (sg c))))
theorem zo1(hc:X.calm=true):zca X (.type "list") zsb:=by
 intro pins s σ H xs us Q I r h;obtain⟨x,rfl,hz,q⟩:=h;obtain⟨u,rfl,ru⟩:=Vals.one r;obtain⟨t,rfl⟩:=ru;refine call_list_str (I.ok.hd hc) x t (λh' tk acc c kk e it=>?_) hz;refine⟨.ref _,_,I.laid (a:=s.heap.objs.size) (o:=.lst (x.cps.toList.map λc=>V.str (sg c))) kk (Qe _) ?_,rfl,q _ I.fresh⟩;refine⟨by simpa using hz,acc.toList,c,zot (P:=SignAt x) (by simpa using it) λi v hv=>?_,by simpa using e⟩;obtain⟨cc,uu,h1,rfl⟩:=hv;exact⟨.str (sg cc),by rw[Qj];simp[h1],⟨uu,rfl⟩⟩
end
def tx(l:List Nat):Str:=⟨l.toArray⟩
theorem zsf(x:Str):tx x.cps.toList=x:=by cases x;simp[tx]
theorem zge(l:List Nat):(tx l).cps.toList=l:=by simp[tx]
theorem zrc(l:List Nat):(tx l).length=l.length:=by simp[tx,JS]
def cutL{α:Type}(xs:List α)(lo hi:Option Int):List α:=(xs.drop (HT.sIx xs.length 0 lo)).take (HT.sIx xs.length xs.length hi-HT.sIx xs.length 0 lo)
theorem zht(n d:Nat)(v:Int):max (0:Int) (min (if v<0 then v+n else v) n)=((HT.sIx n d (some v):Nat):Int):=by
 rw[<- HT.clip_eq v n d]
 by_cases h:v<0
 .rw[Gm h,Gm h];lia
 .rw[Gn h,Gn h];lia
theorem zm8(lo hi:Option Int)(n:Nat):JJ lo hi 1 n=(QL (HT.sIx n n hi-HT.sIx n 0 lo)).map λk=>HT.sIx n 0 lo+k:=by
 have e1:(match lo with|none=>(0:Int)|some i=>max 0 (min (if i<0 then i+(n:Int) else i) n))=((HT.sIx n 0 lo:Nat):Int):=by
  cases lo with
  | none=>rfl
  | some v=>exact zht n 0 v
 have e2:(match hi with|none=>(n:Int)|some i=>max 0 (min (if i<0 then i+(n:Int) else i) n))=((HT.sIx n n hi:Nat):Int):=by
  cases hi with
  | none=>rfl
  | some v=>exact zht n n v
 have e0:JJ lo hi 1 n=sliceRange ((HT.sIx n 0 lo:Nat):Int) ((HT.sIx n n hi:Nat):Int) 1:=by
  rw[<- e1,<- e2];cases lo <;> cases hi <;> rfl
 rw[e0];generalize HT.sIx n 0 lo=a;generalize HT.sIx n n hi=b;simp only[sliceRange,show((1:Int) > 0)=True from by simp,Gu]
 by_cases hlt:(a:Int)<b
 .have e3:(((b:Int)-a+1-1) / 1).toNat=b-a:=by first|lia|(simp;done)|(simp;lia)
  simp only[hlt,Gu,e3];refine Zj λk _=>?_;lia
 .have:b-a=0:=by lia
  simp[hlt,this]
theorem zrp{α:Type}(l:List α):∀(n a:Nat),a+n<=l.length->((QL n).map λk=>a+k).filterMap (λi=>l[i]?)=(l.drop a).take n
 | 0,_,_=>by simp
 | n+1,a,h=>by
   have hlt:a+n<l.length:=by lia
   rw[Yw,Q6,List.filterMap_append,zrp l n a (by lia),YX,Jn];simp[Qu hlt]
section
variable {X:Cx}
def rSlS:V->Option Int->Option Int->Hp->VK->Prop:=λx lo hi H Q=>∃z:Str,x = .str z/\z.length<=sizeLine/\Q (.str (tx (cutL z.cps.toList lo hi))) H
theorem zz5:SlR X rSlS:=by
 intro pins s σ H x v vl vu lo hi sl Q I rx hs pl pu h;obtain⟨z,rfl,hz,q⟩:=h;obtain⟨t,rfl⟩:=rx;refine⟨"str",_,PySem.F.slot_str_getitem.lookup,typeIs_str s z t,?_⟩;have hl:z.cps.toList.length=z.length:=by simp[JS]
 have hi':HT.sIx z.length z.length hi<=z.length:=HT.sIx_le _ _ (Qe _) hi
 have key:∀l u:Option (Int×Tok),l.map (·.1)=lo->u.map (·.1)=hi->s.heap.IsSlice sl l u none->wpAny (model X.prog X.w) X.A (Uw (.str z t) (.ref sl)) (EP X pins σ Q) X.xe s:=by
  intro l u el eu hsl
  have e:UK z l u none=(QL (HT.sIx z.length z.length hi-HT.sIx z.length 0 lo)).map λk=>HT.sIx z.length 0 lo+k:=by
   unfold UK;rw[el,eu];exact zm8 lo hi z.length
  have ec:tx (cutL z.cps.toList lo hi)=⟨((UK z l u none).filterMap (z.cps[·]?)).toArray⟩:=by
   rw[e];unfold cutL tx;rw[hl]
   by_cases hij:HT.sIx z.length 0 lo<=HT.sIx z.length z.length hi
   .have p:=zrp z.cps.toList (HT.sIx z.length z.length hi-HT.sIx z.length 0 lo) (HT.sIx z.length 0 lo) (by rw[hl];lia);rw[<- p];simp
   .have:HT.sIx z.length z.length hi-HT.sIx z.length 0 lo=0:=by lia
    rw[this];simp
  refine wpAny_getItem_str_slice hsl rfl ?_;unfold sliceMade
  split
  .rename_i hc
   have hw:(UK z l u none).length=z.length:=by simpa using hc
   have ex:tx (cutL z.cps.toList lo hi)=z:=by
    rw[e,Qb,Zx] at hw;unfold cutL;rw[hl];have h0:HT.sIx z.length 0 lo=0\/z.length=0:=by lia
    rcases h0 with h0|h0
    .rw[h0] at hw ⊢;rw[Y7,Zy (by rw[hl];lia)];exact zsf z
    .have hn:z.cps.toList = []:=Zu (by rw[hl];exact h0);rw[hn];simp only[List.drop_nil,V7];rw[<- hn];exact zsf z
   exact⟨.str _,H,I,⟨t,by rw[ex]⟩,q⟩
  .rw[<- ec]
   have hlen:(tx (cutL z.cps.toList lo hi)).length<=sizeLine:=by
    rw[zrc];unfold cutL;rw[QT,Zh,hl];lia
   first
    | exact⟨.str _,H,I.tok _,⟨_,rfl⟩,q⟩
    | exact⟨hlen,.str _,H,I.tok _,⟨_,rfl⟩,q⟩
    | exact λ_=>⟨.str _,H,I.tok _,⟨_,rfl⟩,q⟩
 obtain⟨o,ho,hc,hd⟩:=hs
 cases pl with
 | none=>cases pu with
   | none=>exact key none none rfl rfl ⟨o,ho,hc,hd⟩
   | int j t'=>exact key none (some (j,t')) rfl rfl ⟨o,ho,hc,hd⟩
 | int i ti=>cases pu with
   | none=>exact key (some (i,ti)) none rfl rfl ⟨o,ho,hc,hd⟩
   | int j t'=>exact key (some (i,ti)) (some (j,t')) rfl rfl ⟨o,ho,hc,hd⟩
def zvr(K:Qa):V->Option Int->Option Int->Hp->VK->Prop:=λx lo hi H Q=>∃a xs,x = .ref a/\SqT K H a xs/\(HT.sIx xs.length 0 lo=0/\HT.sIx xs.length xs.length hi=xs.length)/\Q (.ref a) H
theorem zfs{prog:VO}{w:VR}{A:VY}{E:VJ->VN->Prop}{s:VN}{t sl:Addr}{items:Array VJ}{vl vu:VJ}{lo hi:Option Int}{Q:VJ->VN->Prop}(ht:IsTup s.heap t items)(hs:s.heap.IsSliceOf sl vl vu .none)(pl:UA vl lo)(pu:UA vu hi)
 (hw:HT.sIx items.size 0 lo=0/\HT.sIx items.size items.size hi=items.size) (h:Q (.ref t) s):wpAny (model prog w) A (Uw (.ref t) (.ref sl)) Q E s:=by
 obtain⟨os,hos,hcs,hds⟩:=id hs;have hTs:s.TypeIs (.ref sl) "slice" := ⟨os,hos,hcs⟩;unfold Uw
 try with_reducible refine UQ ?_
 first|refine VL (VQ ?_)|skip
 refine VL (wpAny_sequenceKey ht.typeIs (by decide) ?_)
 refine VL (VZ (name:=Zf "__getitem__") ht.typeIs QR
  (Ua QR ht.typeIs entry_tuple_getitem ?_ (args_tuple_getitem _ _)))
 show wpAny _ _ (JR (.ref t) >>= _) _ _ s;refine VL (tupleItemsOf_ ht ?_);refine VL (UE hTs ?_);rw[Gm (by decide)];refine VL (HT.sliceApplied_gen hs pl pu ?_)
 have hno:(((HT.sIx items.size 0 lo:Nat):Int) == 0 && (1:Int) == 1 && (HT.sIx items.size items.size hi-HT.sIx items.size 0 lo) == items.size)=true:=by
  rw[hw.1,hw.2];simp
 show wpAny _ _ (if(((HT.sIx items.size 0 lo:Nat):Int) == 0 && (1:Int) == 1 && (HT.sIx items.size items.size hi-HT.sIx items.size 0 lo) == items.size)=true then _ else _) _ _ s;rw[Gm hno];obtain⟨o,ho,hc,n,hd⟩:=id ht;refine VL ?_;unfold Builtin.Tuple.tupleIsExact;refine VL (UE ht.typeIs (VQ ?_));show wpAny _ _ (if((Jm "tuple") == (Jm "tuple"))=true then _ else _) _ _ s;rw[Gm (by decide)];exact VL (wpAny_rule (VQ ⟨_,rfl,VQ h⟩))
theorem sl_tupW:SlR X (zvr X.K):=by
 intro pins s σ H x v vl vu lo hi sl Q I rx hs pl pu h;obtain⟨a,xs,rfl,hx,hw,q⟩:=h;cases rx;obtain⟨its,r,ht,hz⟩:=I.tuple hx;have hlen:its.toArray.size=xs.length:=by rw[Qq];exact r.length.symm
 exact⟨"tuple",_,QR.lookup,ht.typeIs,zfs ht hs pl pu (by rw[hlen];exact hw) ⟨.ref a,H,I,rfl,q⟩⟩
def rSl(K:Qa):V->Option Int->Option Int->Hp->VK->Prop:=λx lo hi H Q=>rSlL K x lo hi H Q\/rSlT K x lo hi H Q\/zvr K x lo hi H Q\/rSlS x lo hi H Q
theorem zzh:SlR X (rSl X.K):=sl_list.or (sl_tup.or (sl_tupW.or zz5))
def zqv(K:Qa):R2:=λx y H Q=>∃a b ys,x = .ref a/\y = .ref b/\SqT K H a []/\SqT K H b ys/\Q (.ref b) H
theorem zts:OpR X (binaryOp .Add) (zqv X.K):=by
 intro pins s σ H x y v u Q I rx ry h;obtain⟨a,b,ys,rfl,rfl,ha,hb,q⟩:=h;cases rx;cases ry;obtain⟨its,r1,p1,_⟩:=I.tuple ha;obtain⟨its2,r2,p2,_⟩:=I.tuple hb;cases r1;obtain⟨⟨cls,dd,data,sl⟩,ho,hc,n,hd⟩:=id p1;obtain⟨⟨cls2,dd2,data2,sl2⟩,ho2,hc2,n2,hd2⟩:=id p2;simp only at hc hd hc2 hd2;subst hc hd hc2 hd2
 exact UV ⟨_,ho,rfl⟩ ⟨_,ho2,rfl⟩ U7 UO Jv Jp (Jd _ _)
  (tuple_addW0 a b _ its2.toArray n n2 dd dd2 sl sl2 (by simp)) ⟨ho,ho2,⟨.ref b,H,I,rfl,q⟩⟩
end
section
variable {K:Qa}{O:Ob}{F:Addr->Prop}{H:Hp}
theorem zh7:∀{vs:List V} {ys:List Str},IsAll K F H vs (ys.map .str)->vs=ys.map V.str
 | _,[],h=>by cases h;rfl
 | _,y::ys,h=>by
   rw[Qp] at h
   cases h with
   | cons h1 h2=>cases h1;rw[zh7 h2];rfl
theorem zh6:∀{vs:List V} {ns:List Int},IsAll K F H vs (ns.map .int)->vs=ns.map V.int
 | _,[],h=>by cases h;rfl
 | _,y::ys,h=>by
   rw[Qp] at h
   cases h with
   | cons h1 h2=>cases h1;rw[zh6 h2];rfl
theorem zg9:∀{vs:List V} {bs:List Bool},IsAll K F H vs (bs.map .bool)->vs=bs.map V.bl
 | _,[],h=>by cases h;rfl
 | _,y::ys,h=>by
   rw[Qp] at h
   cases h with
   | cons h1 h2=>cases h1;rw[zg9 h2];rfl
theorem zhy:∀(ys:List Str),IsAll K F H (ys.map V.str) (ys.map .str)
 | []=>.nil
 | y::ys=>.cons (.str y) (zhy ys)
theorem zkm{i:Int}{d:VI}(h:IsAll K F H vs ds)(e:atI ds i=some d):∃v,atI vs i=some v/\Is K F H v d:=by
 unfold atI at e ⊢;rw[h.length]
 cases q:ixN ds.length i with
 | none=>rw[q] at e;cases e
 | some j=>
   rw[q] at e;obtain⟨v,hv,iv⟩:=h.get (i:=j) e;exact⟨v,hv,iv⟩
theorem zf7(h:IsAll K F H vs ds)(lo hi:Option Int):IsAll K F H (cutV vs lo hi) (cutL ds lo hi):=by
 unfold cutV cutL;rw[h.length];exact(h.drop _).take _
theorem zhh(ok:O.Ok)(hp:H p=none)(h:IsAll K (unM O) H vs ds):Stp O H (upd H p (.lst vs))/\Out K O H (upd H p (.lst vs)) (.ref p) (.n ds):=by
 have s:Stp O H (upd H p (.lst vs)):=.new ok hp _;exact⟨s,p,vs,rfl,hp,zaf,h.stp s (λ_ z=>z) (λ_ z=>z)⟩
theorem zgz(ok:O.Ok)(hp:H p=none)(h:IsAll K (unM O) H vs ds):Stp O H (upd H p (.tup vs))/\Out K O H (upd H p (.tup vs)) (.ref p) (.o (.tuple ds)):=by
 have s:Stp O H (upd H p (.tup vs)):=.new ok hp _;exact⟨s,Is.tuple (.of zaf) (h.stp s (λ_ z=>z) (λ_ z=>z))⟩
def okD(d:VI):Bool:=d.canLay0 && decide (d.depth<=60)
def eqF(neg:Bool):VI->VI->Option R:=λd e=>if(okD d && e.canLay0)=true then some (.o (.bool (if neg then !PyData.eqv d e else J9 d e))) else none
theorem zm2(neg:Bool):OpD K O (rEqD K neg) (fn2 (eqF neg)):=λH x y d e Q Qd ok p ix iy ⟨r,hr,q⟩ k=>by
 unfold eqF at hr
 split at hr
 .rename_i hc
  cases hr;simp only[QV,okD,Gx] at hc;exact⟨_,_,d,e,ix,iy,hc.1.1,hc.2,hc.1.2,k _ H (.o _) (.refl _ _) (Is.bool _) q⟩
 .cases hr
def inF(neg:Bool):VI->VI->Option R:=λd e=>match d,e with
 | .str x,.str y=>some (.o (.bool (if neg then !(!(Yi y x 0 y.length 1).isEmpty) else !(Yi y x 0 y.length 1).isEmpty)))
 | d,.list es=>if(okD d && YY es)=true then some (.o (.bool (if neg then !es.any (λy=>J9 y d) else es.any λy=>J9 y d))) else none
 | d,.tuple es=>if(okD d && YY es)=true then some (.o (.bool (if neg then !es.any (λy=>J9 y d) else es.any λy=>J9 y d))) else none
 | _,_=>none
def intF(g:Int->Int->VI):VI->VI->Option R
 | .int i,.int j=>some (.o (g i j))
 | _,_=>none
theorem zlj(h:∀i j H,Is K (unM O) H (g i j) (G i j)):OpD K O (rI0 g) (fn2 (intF G)):=λH x y d e Q Qd ok p ix iy ⟨r,hr,q⟩ k=>by
 unfold intF at hr
 split at hr
 .cases ix;cases iy;cases hr;exact⟨_,_,rfl,rfl,k _ H (.o _) (.refl _ _) (h _ _ H) q⟩
 .cases hr
theorem zxn:OpD K O (rI0 λi j=>.int (i-j)) (fn2 (intF λi j=>.int (i-j))):=zlj λ_ _ _=>.int _
theorem zyu:OpD K O (rI0 λi j=>.bl (decide (i<j))) (fn2 (intF λi j=>.bool (decide (i<j)))):=zlj λ_ _ _=>.bool _
def isNF(neg:Bool):VI->VI->(R->Prop)->Prop:=λd e Q=>e = .none/\Q (.o (.bool (match d with | .none=>!neg|_=>neg)))
theorem Is.non{d:VI}(h:Is K F H v d):decide (v = .non)=(match d with | .none=>true|_=>false):=by cases h <;> rfl
theorem zor:OpD K O (λx y H Q=>y = .non/\Q (.bl (decide (x = .non))) H) (isNF false):=λH x y d e Q Qd ok p ix iy ⟨e1,q⟩ k=>by
 subst e1;cases iy;refine⟨rfl,k _ H (.o _) (.refl _ _) ?_ q⟩;rw[ix.non];cases d <;> exact Is.bool _
def zk7(K:Qa):R2:=λx y H Q=>rI0 (λi j=>.int (i+j)) x y H Q\/(∃i j,x = .str i/\y = .str j/\i.length+j.length<=sizeLine/\Q (.str (i++j)) H)\/rCat x y H Q\/zux K x y H Q\/zqv K x y H Q
theorem zn5: OpR X (binaryOp .Add) (zk7 X.K):=op_add.or (op_add_str.or (op_cat.or (op_catT.or zts)))
def addF:VI->VI->Option R:=λd e=>match d,e with
 | .int i,.int j=>some (.o (.int (i+j)))
 | .str x,.str y=>if x.length+y.length<=sizeLine then some (.o (.str (x++y))) else none
 | .list a,.list b=>if a.length+b.length<=sizeLine then some (.n (a++b)) else none
 | .tuple a,.tuple b=>if a.length+b.length<=sizeLine then some (.o (.tuple (a++b))) else none
 | _,_=>none
theorem zi6:OpD K O (zk7 K) (fn2 addF):=λH x y d e Q Qd ok p ix iy ⟨r,hr,q⟩ k=>by
 unfold addF at hr
 split at hr
 .cases ix;cases iy;cases hr;exact .inl ⟨_,_,rfl,rfl,k _ H (.o _) (.refl _ _) (Is.int _) q⟩
 .split at hr
  .rename_i hz
   cases ix;cases iy;cases hr;exact .inr (.inl ⟨_,_,rfl,rfl,hz,k _ H (.o _) (.refl _ _) (Is.str _) q⟩)
  .cases hr
 .split at hr
  .rename_i hz
   cases hr
   cases ix with
   | list f1 h1 s1=>
     cases iy with
     | list f2 h2 s2=>
       refine .inr (.inr (.inl ⟨_,_,_,_,rfl,rfl,h1,h2,by rw[s1.length,s2.length];exact hz,λp' hp=>?_⟩));obtain⟨a1,a2⟩:=zhh ok hp (s1.append s2);exact k _ _ _ a1 a2 q
  .cases hr
 .split at hr
  .rename_i hz
   cases hr
   cases ix with
   | tuple h1 s1=>
     cases iy with
     | tuple h2 s2=>
       rename_i a xs b ys
       cases xs with
       | nil=>
         cases s1;exact .inr (.inr (.inr (.inr ⟨a,b,ys,rfl,rfl,h1,h2,k _ H (.o _) (.refl _ _) (Is.tuple h2 s2) q⟩)))
       | cons z zs=>
         refine .inr (.inr (.inr (.inl ⟨a,b,_,ys,rfl,rfl,h1,h2,by simp,by rw[s1.length,s2.length];exact hz,λe=>?_,λ_ p' hp=>?_⟩)))
         .subst e;cases s2;rw[QJ] at q;exact k _ H (.o _) (.refl _ _) (Is.tuple h1 s1) q
         .obtain⟨a1,a2⟩:=zgz ok hp (s1.append s2);exact k _ _ _ a1 a2 q
  .cases hr
 .cases hr
def idxF:VI->VI->Option R:=λd e=>match d,e with
 | .list ds,.int i=>(atI ds i).map .o
 | .tuple ds,.int i=>(atI ds i).map .o
 | .str x,.int i=>if x.length<=sizeLine then(atI x.cps.toList i).map λc=>.o (.str (sg c)) else none
 | _,_=>none
theorem zwp:OpD K O (rIx K) (fn2 idxF):=λH x y d e Q Qd ok p ix iy ⟨r,hr,q⟩ k=>by
 unfold idxF at hr
 split at hr
 .obtain⟨z,hz,rfl⟩:=Qf.mp hr;cases iy
  cases ix with
  | list f1 h1 s1=>
    obtain⟨v,hv,iv⟩:=zkm s1 hz;exact .inl ⟨_,_,_,v,rfl,rfl,.of h1,hv,k v H (.o z) (.refl _ _) iv q⟩
 .obtain⟨z,hz,rfl⟩:=Qf.mp hr;cases iy
  cases ix with
  | tuple h1 s1=>
    obtain⟨v,hv,iv⟩:=zkm s1 hz;exact .inr (.inl ⟨_,_,_,v,rfl,rfl,h1,hv,k v H (.o z) (.refl _ _) iv q⟩)
 .split at hr
  .rename_i hl
   obtain⟨c,hc,rfl⟩:=Qf.mp hr;cases iy;cases ix;exact .inr (.inr ⟨_,_,c,rfl,rfl,hl,hc,k _ H (.o _) (.refl _ _) (Is.str _) q⟩)
  .cases hr
 .cases hr
abbrev DO:=DSt->(Option Int->Prop)->Prop
def OD(K:Qa)(O:Ob)(t:TO)(f:DO):Prop :=
 ∀(σ:St) (H:Hp) (ρ:DSt) (Q:Option Int->Hp->Prop) (Qd:Option Int->Prop),Seen K O H σ ρ->f ρ Qd->(∀o H',Stp O H H'->Qd o->Q o H')->t σ H Q
def noO:DO:=λ_ Q=>Q none
def zuy(f:DE):DO:=λρ Q=>f ρ λr=>∃i,r.d = .int i/\Q (some i)
theorem zxh:OD K O znn noO:=λσ H ρ Q Qd S h k=>k none H (.refl _ _) h
theorem zwi{t:TE}(h:ED K O t f):OD K O (zle t) (zuy f):=λσ H ρ Q Qd S hf k=>by
 refine h σ H ρ _ _ S hf λv H1 r s1 o1 zz=>?_;obtain⟨i,e,q⟩:=zz;have iv:=o1.is S.ok S.p;rw[e] at iv;cases iv;exact⟨i,rfl,k (some i) H1 s1 q⟩
def slcF(lo hi:Option Int):VI->Option R
 | .list ds=>some (.n (cutL ds lo hi))
 | .tuple ds=>some (.o (.tuple (cutL ds lo hi)))
 | .str x=>if x.length<=sizeLine then some (.o (.str (tx (cutL x.cps.toList lo hi)))) else none
 | _=>none
def slD(f:DE)(a b:DO):DE:=λρ Q=>f ρ λr=>a ρ λlo=>b ρ λhi=>∃s,slcF lo hi r.d=some s/\Q s
theorem zs8{t:TE}(h:ED K O t f)(ha:OD K O tl a)(hb:OD K O th b):ED K O (tSl (rSl K) t tl th) (slD f a b):=λσ H ρ Q Qd S hf k=>by
 refine h σ H ρ _ _ S hf λv H1 r s1 o1 q1=>?_;refine ha σ H1 ρ _ _ (S.stp s1) q1 λlo H2 s2 q2=>?_;refine hb σ H2 ρ _ _ ((S.stp s1).stp s2) q2 λhi H3 s3 zz=>?_;obtain⟨s,hr,q⟩:=zz;have st:=(s1.trans s2).trans s3;have iv:Is K (unM O) H3 v r.d:=Is.stp (s2.trans s3) (λ_ z=>z) (λ_ z=>z) (o1.is S.ok S.p);revert hr;generalize r.d=d at iv;intro hr;unfold slcF at hr
 split at hr
 .cases hr
  cases iv with
  | list f1 h1 z1=>
    refine .inl ⟨_,_,rfl,.of h1,λp hp=>?_⟩;obtain⟨a1,a2⟩:=zhh S.ok hp (zf7 z1 lo hi);exact k _ _ _ (st.trans a1) (Out.ahead S.ok S.p st a2) q
 .cases hr
  cases iv with
  | tuple h1 z1=>
    rename_i a' xs
    by_cases hw:HT.sIx xs.length 0 lo=0/\HT.sIx xs.length xs.length hi=xs.length
    .refine .inr (.inr (.inl ⟨a',xs,rfl,h1,hw,k _ H3 (.o _) st ?_ q⟩))
     have e:cutV xs lo hi=xs:=by
      unfold cutV;rw[hw.1,hw.2,Y7,Nat.sub_zero,QX]
     have z2:=zf7 z1 lo hi;rw[e] at z2;exact Is.tuple h1 z2
    .refine .inr (.inl ⟨a',xs,rfl,h1,hw,λp hp=>?_⟩);obtain⟨a1,a2⟩:=zgz S.ok hp (zf7 z1 lo hi);exact k _ _ _ (st.trans a1) (Out.ahead S.ok S.p st a2) q
 .split at hr
  .rename_i hl
   cases hr;cases iv;exact .inr (.inr (.inr ⟨_,rfl,hl,k _ H3 (.o _) st (Is.str _) q⟩))
  .cases hr
 .cases hr
def lenF:List VI->Option R
 | [.str x]=>if x.length<=sizeLine then some (.o (.int x.length)) else none
 | [.list ds]=>some (.o (.int ds.length))
 | [.tuple ds]=>some (.o (.int ds.length))
 | _=>none
theorem zbs{d:VI}(h:IsAll K F H vs [d]):∃v,vs = [v]/\Is K F H v d:=by
 cases h with
 | cons h1 h2=>cases h2;exact⟨_,rfl,h1⟩
theorem zzj:zdv K O (λxs H Q=>∃x n,xs = [x]/\LenV K x H n/\Q (.int n) H) (fn1 lenF):=λH vs ds Q Qd ok p is ⟨r,hr,q⟩ k=>by
 unfold lenF at hr
 split at hr
 .split at hr
  .rename_i hl
   obtain⟨v,rfl,iv⟩:=zbs is;cases iv;cases hr;exact⟨_,_,rfl,⟨hl,rfl⟩,k _ H (.o _) (.refl _ _) (Is.int _) q⟩
  .cases hr
 .obtain⟨v,rfl,iv⟩:=zbs is;cases hr
  cases iv with
  | list f1 h1 s1=>exact⟨_,_,rfl,.inl ⟨_,.of h1,s1.length.symm⟩,k _ H (.o _) (.refl _ _) (Is.int _) q⟩
 .obtain⟨v,rfl,iv⟩:=zbs is;cases hr
  cases iv with
  | tuple h1 s1=>exact⟨_,_,rfl,.inr ⟨_,h1,s1.length.symm⟩,k _ H (.o _) (.refl _ _) (Is.int _) q⟩
 .cases hr
def allD(any:Bool):List VI->(R->Prop)->Prop:=λds Q=>∃bs:List Bool,ds = [.list (bs.map .bool)]/\Q (.o (.bool (if any then bs.any id else bs.all id)))
theorem zzk(any:Bool):zdv K O (rAll any) (allD any):=λH vs ds Q Qd ok p is ⟨bs,e,q⟩ k=>by
 subst e;obtain⟨v,rfl,iv⟩:=zbs is
 cases iv with
 | list f1 h1 s1=>
   rw[zg9 s1] at h1;exact⟨_,bs,rfl,h1,k _ H (.o _) (.refl _ _) (Is.bool _) q⟩
def zp5:List VI->Option R
 | [.int i]=>some (.o (.int i))
 | [.bool b]=>some (.o (.int (if b then 1 else 0)))
 | _=>none
theorem z0u:zdv K O (λxs H Q=>(∃i,xs = [.int i]/\Q (.int i) H)\/∃k,xs = [.bl k]/\Q (.int (if k then 1 else 0)) H) (fn1 zp5):=λH vs ds Q Qd ok p is ⟨r,hr,q⟩ k=>by
 unfold zp5 at hr
 split at hr
 .obtain⟨v,rfl,iv⟩:=zbs is;cases hr;cases iv;exact .inl ⟨_,rfl,k _ H (.o _) (.refl _ _) (Is.int _) q⟩
 .obtain⟨v,rfl,iv⟩:=zbs is;cases hr;cases iv;exact .inr ⟨_,rfl,k _ H (.o _) (.refl _ _) (Is.int _) q⟩
 .cases hr
def tupF:List VI->Option R
 | [.list ds]=>some (.o (.tuple ds))
 | [.tuple ds]=>some (.o (.tuple ds))
 | _=>none
theorem ztb:zdv K O (λxs H Q=>∃p ys,xs = [.ref p]/\((SqL K H p ys/\∀l,H l=none->Q (.ref l) (upd H l (.tup ys)))\/(SqT K H p ys/\Q (.ref p) H))) (fn1 tupF):=λH vs ds Q Qd ok p is ⟨r,hr,q⟩ k=>by
 unfold tupF at hr
 split at hr
 .obtain⟨v,rfl,iv⟩:=zbs is;cases hr
  cases iv with
  | list f1 h1 s1=>
    refine⟨_,_,rfl,.inl ⟨.of h1,λl hl=>?_⟩⟩;obtain⟨a1,a2⟩:=zgz ok hl s1;exact k _ _ _ a1 a2 q
 .obtain⟨v,rfl,iv⟩:=zbs is;cases hr
  cases iv with
  | tuple h1 s1=>exact⟨_,_,rfl,.inr ⟨h1,k _ H (.o _) (.refl _ _) (Is.tuple h1 s1) q⟩⟩
 .cases hr
def zvt(fo:DE)(fa:DE):DE:=λρ Q=>fo ρ λr0=>∃sep,r0.d = .str sep/\fa ρ λr=>∃ys:List Str,r.d = .list (ys.map .str)/\(ys.map (·.length)).sum+ys.length * sep.length<=16777216/\Q (.o (.str (V1 sep ys)))
theorem zws{to:TE}(ho:ED K O to fo)(ha:ED K O ta fa):ED K O (tBM K "str" zlh to (zaw ta tNil)) (zvt fo fa):=λσ H ρ Q Qd S hf k=>by
 refine ho σ H ρ _ _ S hf λv H1 r0 s1 o1 zz=>?_;obtain⟨sep,e0,q1⟩:=zz;have i0:=o1.is S.ok S.p;rw[e0] at i0;cases i0;refine⟨rfl,?_⟩;refine ha σ H1 ρ _ _ (S.stp s1) q1 λw H2 r s2 o2 zz=>?_;obtain⟨ys,e,hz,q⟩:=zz;have i1:=o2.is S.ok (s1.p S.p);rw[e] at i1
 cases i1 with
 | list f1 h1 z1=>
   rw[zh7 z1] at h1;exact⟨sep,_,ys,rfl,rfl,h1,hz,k _ H2 (.o _) (s1.trans s2) (Is.str _) q⟩
end
structure Ctx3{ι:Type}(P:VO)(w:VR)(K:Qa)(mg:Str->Option VJ)(base:Heap)(k:Nat)(X:ι->Cx):Prop where
 hP:∀i,(X i).prog=P
 hw:∀i,(X i).w=w
 hK:∀i,(X i).K=K
 hmg:∀i,(X i).mg=mg
 hb:∀i,(X i).base=base
 calm:∀i,(X i).calm=true
 room:∀i,Room k (X i).A
 xe:∀i,(X i).xe=λ_ _=>False
def E3{ι κ:Type}(K:Qa)(X:ι->Cx)(O:κ->Ob)(e:Expr)(f:DE):Prop:=∃t,(∀i,PE (X i) e t)/\∀j,ED K (O j) t f
def T3{ι κ:Type}(K:Qa)(X:ι->Cx)(O:κ->Ob)(e:Expr)(f:DT):Prop:=∃t,(∀i,PT (X i) e t)/\∀j,TD K (O j) t f
def W3{ι κ:Type}(K:Qa)(X:ι->Cx)(O:κ->Ob)(e:Expr)(f:DT):Prop:=∃t,(∀i,PW (X i) e t)/\∀j,TD K (O j) t f
def A3{ι κ:Type}(K:Qa)(X:ι->Cx)(O:κ->Ob)(es:List Expr)(f:DA):Prop:=∃t,(∀i,PA (X i) es t)/\∀j,AD K (O j) t f
def I3{ι κ:Type}(K:Qa)(X:ι->Cx)(O:κ->Ob)(tg e:Expr)(f:DI):Prop:=∃t,(∀i,PI (X i) tg e t)/\∀j,SrcS K (O j) t f
def J3{ι κ:Type}(K:Qa)(X:ι->Cx)(O:κ->Ob)(tg e:Expr)(f:DJ):Prop:=∃t,(∀i,PI (X i) tg e t)/\∀j,SrcR K (O j) t f
def S3{ι κ:Type}(K:Qa)(X:ι->Cx)(O:κ->Ob)(s:Stmt)(g:DS):Prop:=∃t,(∀i,PS (X i) s t)/\∀j,SD K (O j) t g
def Ss3{ι κ:Type}(K:Qa)(X:ι->Cx)(O:κ->Ob)(s:List Stmt)(g:DS):Prop:=∃t,(∀i,PSs (X i) s t)/\∀j,SD K (O j) t g
def O3{ι κ:Type}(K:Qa)(X:ι->Cx)(O:κ->Ob)(e:Option Expr)(f:DO):Prop:=∃t,(∀i,PO (X i) e t)/\∀j,OD K (O j) t f
def G3{ι:Type}(K:Qa)(X:ι->Cx)(h:Nat)(tg:Expr)(g:DG):Prop:=∃t,(∀i,PG (X i) tg t)/\(∀O:Ob,GS K O t g)/\(∀O:Ob,GR K O t g)/\OwnG h t
section
variable {ι κ:Type}{P:VO}{w:VR}{K:Qa}{mg:Str->Option VJ}{base:Heap}{k:Nat}{X:ι->Cx}{O:κ->Ob}{a b c:Expr}{fa fb fc:DE}{pos:Pos}
theorem zaa(n:Nat)(hN:∀i,(X i).N[n]? = some x:=by intro i;rfl)(hv:∀i,Vis (X i).env.scope x:=by intro i;first|exact Or.inl rfl|exact Or.inr (Or.inl rfl)|exact Or.inr (Or.inr rfl))
 (hd:(x == ("__debug__" : Str))=false:=by decide) (hcd:(x == ("__classdict__" : Str))=false:=by decide):E3 K X O (.Name x pos) (vD n):=⟨_,λi=>zai (hN i) (hv i) hd hcd,λj=>zyw⟩
theorem zag{n:Int}{j:Nat}:E3 K X O (.Constant (.int n) j pos) (cD (.int n)):=⟨_,λi=>za0,λj=>zz6⟩
theorem zov{j:Nat}:E3 K X O (.Constant (.str x) j pos) (cD (.str x)):=⟨_,λi=>zbt,λj=>z0t⟩
theorem e_bl{x:Bool}{j:Nat}:E3 K X O (.Constant (.bool x) j pos) (cD (.bool x)):=⟨_,λi=>z1n,λj=>z0z⟩
theorem zgq{j:Nat}:E3 K X O (.Constant .none j pos) (cD .none):=⟨_,λi=>zzq,λj=>zyo⟩
theorem e_op(ho:∀i,OpR (X i) (binaryOp op) r)(hd:∀j,OpD K (O j) r F)(ha:E3 K X O a fa)(hb:E3 K X O b fb):E3 K X O (.BinOp a op b pos) (opDE F fa fb) :=
 let ⟨_,p1,d1⟩:=ha;let ⟨_,p2,d2⟩:=hb;⟨_,λi=>za8 (ho i) (p1 i) (p2 i),λj=>zk9 (hd j) (d1 j) (d2 j)⟩
theorem zbg(C:Ctx3 P w K mg base k X)(ha:E3 K X O a fa)(hb:E3 K X O b fb):E3 K X O (.BinOp a .Add b pos) (opDE (fn2 addF) fa fb):=e_op (λi=>by have h:=zn5 (X:=X i);rw[C.hK] at h;exact h) (λ_=>zi6) ha hb
theorem z1b(ha:E3 K X O a fa)(hb:E3 K X O b fb):E3 K X O (.BinOp a .Sub b pos) (opDE (fn2 (intF λi j=>.int (i-j))) fa fb):=e_op (λi=>zri) (λ_=>zxn) ha hb
theorem zvd(ho:∀i,OpR (X i) (Ub op) r)(hd:∀j,OpD K (O j) r F)(ha:E3 K X O a fa)(hb:E3 K X O b fb)(hm:VU op b=false):E3 K X O (.Compare a [op] [b] pos) (opDE F fa fb) :=
 let ⟨_,p1,d1⟩:=ha;let ⟨_,p2,d2⟩:=hb;⟨_,λi=>zxy (ho i) (p1 i) (p2 i) hm,λj=>zk9 (hd j) (d1 j) (d2 j)⟩
theorem zld(ho:∀i,OpR (X i) (Ub op) r)(hd:∀j,OpD K (O j) r F)(ha:E3 K X O a fa)(hb:E3 K X O b fb)(hm:VU op b=false):T3 K X O (.Compare a [op] [b] pos) (bD (opDE F fa fb)) :=
 let ⟨_,p1,d1⟩:=ha;let ⟨_,p2,d2⟩:=hb;⟨_,λi=>zex (ho i) (p1 i) (p2 i) hm,λj=>zze (zk9 (hd j) (d1 j) (d2 j))⟩
theorem zu0(C:Ctx3 P w K mg base k X):∀i,OpR (X i) (Ub .Eq) (rEqD K false):=λi=>by have h:=z0g (X:=X i) (C.room i).units;rw[C.hK] at h;exact h
theorem z1y(C:Ctx3 P w K mg base k X):∀i,OpR (X i) (Ub .NotEq) (rEqD K true):=λi=>by have h:=z0q (X:=X i) (C.room i).units;rw[C.hK] at h;exact h
theorem e_eq(C:Ctx3 P w K mg base k X)(ha:E3 K X O a fa)(hb:E3 K X O b fb):E3 K X O (.Compare a [.Eq] [b] pos) (opDE (fn2 (eqF false)) fa fb):=zvd (zu0 C) (λ_=>zm2 false) ha hb (zcp b)
theorem e_is(ha:E3 K X O a fa)(hb:E3 K X O b fb):E3 K X O (.Compare a [.Is] [b] pos) (opDE (isNF false) fa fb):=zvd (λi=>zqr) (λ_=>zor) ha hb (zcp b)
theorem t_eq(C:Ctx3 P w K mg base k X)(ha:E3 K X O a fa)(hb:E3 K X O b fb):T3 K X O (.Compare a [.Eq] [b] pos) (bD (opDE (fn2 (eqF false)) fa fb)):=zld (zu0 C) (λ_=>zm2 false) ha hb (zcp b)
theorem t_ne(C:Ctx3 P w K mg base k X)(ha:E3 K X O a fa)(hb:E3 K X O b fb):T3 K X O (.Compare a [.NotEq] [b] pos) (bD (opDE (fn2 (eqF true)) fa fb)):=zld (z1y C) (λ_=>zm2 true) ha hb (zcp b)
theorem t_lt(ha:E3 K X O a fa)(hb:E3 K X O b fb):T3 K X O (.Compare a [.Lt] [b] pos) (bD (opDE (fn2 (intF λi j=>.bool (decide (i<j)))) fa fb)):=zld (λi=>z1u) (λ_=>zyu) ha hb (zcp b)
theorem t_is(ha:E3 K X O a fa)(hb:E3 K X O b fb):T3 K X O (.Compare a [.Is] [b] pos) (bD (opDE (isNF false) fa fb)):=zld (λi=>zqr) (λ_=>zor) ha hb (zcp b)
variable {ft fu:DT}{rest:List Expr}
theorem zcj(ha:E3 K X O a fa)(he:∀i whole,isTrue a (X i).env whole=(do let v <- whole;standAt a.pos;holding [v] (truthy v)):=by intro _ _;rfl):T3 K X O a (bD fa):=let ⟨_,p,d⟩:=ha;⟨_,λi=>zsi (p i) (he i),λj=>zgn (d j)⟩
theorem zef(h:T3 K X O a ft):T3 K X O (.UnaryOp .Not a pos) (notT ft):=let ⟨_,p,d⟩:=h;⟨_,λi=>zzm (p i),λj=>zza (d j)⟩
theorem zl4(h:T3 K X O a ft):W3 K X O (.BoolOp .And [a] pos) ft:=let ⟨_,p,d⟩:=h;⟨_,λi=>znk (p i),d⟩
theorem zgp(h:T3 K X O a ft):W3 K X O (.BoolOp .Or [a] pos) ft:=let ⟨_,p,d⟩:=h;⟨_,λi=>z0k (p i),d⟩
theorem zoy(h:T3 K X O a ft)(h':W3 K X O (.BoolOp .And (b::rest) pos) fu):W3 K X O (.BoolOp .And (a::b::rest) pos) (andT ft fu):=let ⟨_,p,d⟩:=h;let ⟨_,p2,d2⟩:=h';⟨_,λi=>zq0 (p i) (p2 i),λj=>zzo (d j) (d2 j)⟩
theorem w_or(h:T3 K X O a ft)(h':W3 K X O (.BoolOp .Or (b::rest) pos) fu):W3 K X O (.BoolOp .Or (a::b::rest) pos) (orT ft fu):=let ⟨_,p,d⟩:=h;let ⟨_,p2,d2⟩:=h';⟨_,λi=>z1a (p i) (p2 i),λj=>z1m (d j) (d2 j)⟩
theorem t_w(h:W3 K X O a ft):T3 K X O a ft:=let ⟨_,p,d⟩:=h;⟨_,λi=>(p i).pt,d⟩
theorem zu1(h:E3 K X O a fa):E3 K X O (.BoolOp op [a] pos) fa:=let ⟨_,p,d⟩:=h;⟨_,λi=>zys (p i),d⟩
theorem zvx(h:E3 K X O a fa)(h':E3 K X O (.BoolOp .And (b::rest) pos) fb):E3 K X O (.BoolOp .And (a::b::rest) pos) (andV fa fb):=let ⟨_,p,d⟩:=h;let ⟨_,p2,d2⟩:=h';⟨_,λi=>zy7 (p i) (p2 i),λj=>zya (d j) (d2 j)⟩
theorem z1d(h:E3 K X O a fa):E3 K X O (.UnaryOp .Not a pos) (notV fa):=let ⟨_,p,d⟩:=h;⟨_,λi=>zyp (p i),λj=>zww (d j)⟩
theorem e_if(hc:T3 K X O c ft)(ha:E3 K X O a fa)(hb:E3 K X O b fb):E3 K X O (.IfExp c a b pos) (ifD ft fa fb):=let ⟨_,p,d⟩:=hc;let ⟨_,p1,d1⟩:=ha;let ⟨_,p2,d2⟩:=hb;⟨_,λi=>zlq (p i) (p1 i) (p2 i),λj=>z1v (d j) (d1 j) (d2 j)⟩
variable {es:List Expr}{ga:DA}
theorem zae:A3 K X O [] aNil:=⟨_,λi=>zbj,λj=>zz4⟩
theorem zab(ha:E3 K X O a fa)(hr:A3 K X O es ga)(hs:∀i,VM (a::es) (X i).env=(false,eval a (X i).env)::VM es (X i).env:=by intro i;rfl):A3 K X O (a::es) (zk3 fa ga):=let ⟨_,p,d⟩:=ha;let ⟨_,p2,d2⟩:=hr;⟨_,λi=>zas (p i) (p2 i) (hs i),λj=>zwj (d j) (d2 j)⟩
theorem zbw{n:Nat}(h:A3 K X O es ga):E3 K X O (.Tuple es n pos) (tupD ga):=let ⟨_,p,d⟩:=h;⟨_,λi=>zse (p i),λj=>zzp (d j)⟩
theorem zg0(h:A3 K X O es ga):E3 K X O (.List es pos) (lstD ga):=let ⟨_,p,d⟩:=h;⟨_,λi=>z0r (p i),λj=>zy4 (d j)⟩
theorem zal(C:Ctx3 P w K mg base k X)(ha:E3 K X O a fa)(hb:E3 K X O b fb)(hs:zob b:=by intro _ _;rfl):E3 K X O (.Subscript a b pos) (opDE (fn2 idxF) fa fb) :=
 let ⟨_,p1,d1⟩:=ha;let ⟨_,p2,d2⟩:=hb;⟨tOp (rIx K) _ _,λi=>by have h:=z1i (pos:=pos) (z0s (X:=X i)) (p1 i) (p2 i) hs;rw[C.hK] at h;exact h,λj=>zk9 zwp (d1 j) (d2 j)⟩
theorem zga:O3 K X O none noO:=⟨_,λi=>zwd,λj=>zxh⟩
theorem zcc(ha:E3 K X O a fa):O3 K X O (some a) (zuy fa):=let ⟨_,p,d⟩:=ha;⟨_,λi=>zje (p i),λj=>zwi (d j)⟩
theorem zcx(C:Ctx3 P w K mg base k X){lo hi:Option Expr}{fl fh:DO}{p2:Pos}(ha:E3 K X O a fa)(hl:O3 K X O lo fl)(hh:O3 K X O hi fh):E3 K X O (.Subscript a (.Slice lo hi none p2) pos) (slD fa fl fh) :=
 let ⟨_,p1,d1⟩:=ha;let ⟨_,q2,d2⟩:=hl;let ⟨_,q3,d3⟩:=hh;⟨tSl (rSl K) _ _ _,λi=>by have h:=zlv (pos:=pos) (p2:=p2) (zzh (X:=X i)) (p1 i) (q2 i) (q3 i);rw[C.hK] at h;exact h,λj=>zs8 (d1 j) (d2 j) (d3 j)⟩
theorem zlf{x:Str}{id:String}{r:List V->Hp->VK->Prop}{F:List VI->(R->Prop)->Prop}{p:Pos}(C:Ctx3 P w K mg base k X)(hc:∀i,zca (X i) (.builtin id) r)(hd:∀j,zdv K (O j) r F)(hv:VS x=some (.builtin id))(hm:mg x=none)(ha:A3 K X O (a::es) ga)
 (hg:∀i,Gl (X i) x:=by intro i;rfl) (hn:x ≠ "__name__" := by decide) (hdb:(x == ("__debug__" : Str))=false:=by decide) (he:∀i,VM (a::es) (X i).env=(false,eval a (X i).env)::VM es (X i).env:=by intro i;rfl) (hpl:∀i,(Ui pos (VM es (X i).env)).any (·.1)=false:=by intro i;rfl) :
 E3 K X O (.Call (.Name x p) (a::es) [] pos) (zc3 F ga):=let ⟨_,q,d⟩:=ha;⟨_,λi=>zd8 (hc i) (hg i) (by rw[C.hmg];exact hm) hv (q i) hn hdb (he i) (hpl i),λj=>zm4 (hd j) (d j)⟩
theorem zvw(C:Ctx3 P w K mg base k X)(hc:∀i,zca (X i) (.type T) r)(hd:∀j,zdv K (O j) r F)(hv:VS x=some (.type T))(hm:mg x=none)(ha:A3 K X O (a::es) ga)
 (hg:∀i,Gl (X i) x:=by intro i;rfl) (hn:x ≠ "__name__" := by decide) (hdb:(x == ("__debug__" : Str))=false:=by decide) (he:∀i,VM (a::es) (X i).env=(false,eval a (X i).env)::VM es (X i).env:=by intro i;rfl) (hpl:∀i,(Ui pos (VM es (X i).env)).any (·.1)=false:=by intro i;rfl) :
 E3 K X O (.Call (.Name x p) (a::es) [] pos) (zc3 F ga):=let ⟨_,q,d⟩:=ha;⟨_,λi=>zf5 (hc i) (hg i) (by rw[C.hmg];exact hm) hv (q i) hn hdb (he i) (hpl i),λj=>zm4 (hd j) (d j)⟩
end
theorem zlm:VS "len" = some (.builtin "len"):=by decide +kernel
theorem zyt:VS "all" = some (.builtin "all"):=by decide +kernel
theorem zqo:VS "sorted" = some (.builtin "sorted"):=by decide +kernel
theorem zzg:VS "min" = some (.builtin "min"):=by decide +kernel
theorem z0i:VS "int" = some (.type "int"):=by decide +kernel
theorem zxg:VS "list" = some (.type "list"):=by decide +kernel
theorem zth:VS "tuple" = some (.type "tuple"):=by decide +kernel
structure Blt(mg:Str->Option VJ):Prop where
 len:mg "len" = none
 all:mg "all" = none
 any:mg "any" = none
 sorted:mg "sorted" = none
 min:mg "min" = none
 max:mg "max" = none
 repr:mg "repr" = none
 int:mg "int" = none
 list:mg "list" = none
 tuple:mg "tuple" = none
 range:mg "range" = none
 set:mg "set" = none
 isinstance:mg "isinstance" = none
 enumerate:mg "enumerate" = none
 zip:mg "zip" = none
 reversed:mg "reversed" = none
 str:mg "str" = none
 sum:mg "sum" = none
 dict:mg "dict" = none
 bool:mg "bool" = none
structure Def3(P:VO)(w:VR)(K:Qa)(mg:Str->Option VJ)(base:Heap)(k:Nat)(x:Str)(ps:List Str)(sp:Sp):Prop where
 ex:∃f fd,FnOk P w K mg base CX0 k f fd ps sp/\mg x=some (.ref f)/\ZV K (.ref f)=true/\Binds K fd ps []
structure Top3(K:Qa)(mg:Str->Option VJ)(x:Str)(st:Stmt):Prop where
 ex:∃f fd,Fun K x x st f fd/\mg x=some (.ref f)
structure CIx where
 C:Addr
 s:VN
 H:Hp
 ex:List Addr
def zfi{ι:Type}(X:ι->Cx)(scope:Uo)(N':List Str):ι×CIx->Cx:=λp=>zbv (X p.1) scope N' p.2.C p.2.s p.2.H p.2.ex
def zia{κ:Type}(O:κ->Ob):{ p:κ×(Addr×List V) // ¬(O p.1).M p.2.1 }->Ob:=λp=>(O p.1.1).plus p.1.2.1 (.lst p.1.2.2)
def F3{ι κ:Type}(K:Qa)(X:ι->Cx)(O:κ->Ob)(ifs:List Expr)(f:DT):Prop:=∃t,(∀i,PF (X i) ifs t)/\∀j,TD K (O j) t f
def yesD:DT:=λ_ Q=>Q true
section
variable {ι κ:Type}{P:VO}{w:VR}{K:Qa}{mg:Str->Option VJ}{base:Heap}{k:Nat}{X:ι->Cx}{O:κ->Ob}{a b c tg:Expr}{fa fb fc:DE}{pos p:Pos}{es:List Expr}{ga:DA}
theorem Ctx3.comp(C:Ctx3 P w K mg base k X)(scope:Uo)(N':List Str):Ctx3 P w K mg base k (zfi X scope N'):=⟨λi=>C.hP i.1,λi=>C.hw i.1,λi=>C.hK i.1,λi=>C.hmg i.1,λi=>C.hb i.1,λi=>C.calm i.1,λi=>C.room i.1,λ_=>rfl⟩
theorem zb1(C:Ctx3 P w K mg base k X)(B:Blt mg)(ha:A3 K X O [a] ga)(hg:∀i,Gl (X i) "len" := by intro i;rfl)(he:∀i,VM [a] (X i).env=(false,eval a (X i).env)::VM [] (X i).env:=by intro i;rfl):E3 K X O (.Call (.Name "len" p) [a] [] pos) (zc3 (fn1 lenF) ga) :=
 zlf C (λi=>by have h:=zhr (X:=X i);rw[C.hK] at h;exact h) (λ_=>zzj) zlm B.len ha hg (by decide) (by decide) he
theorem zpc(C:Ctx3 P w K mg base k X)(B:Blt mg)(ha:A3 K X O [a] ga)(hg:∀i,Gl (X i) "all" := by intro i;rfl)(he:∀i,VM [a] (X i).env=(false,eval a (X i).env)::VM [] (X i).env:=by intro i;rfl):E3 K X O (.Call (.Name "all" p) [a] [] pos) (zc3 (allD false) ga) :=
 zlf C (λi=>zq7 (C.calm i)) (λ_=>zzk false) zyt B.all ha hg (by decide) (by decide) he
theorem zmv(C:Ctx3 P w K mg base k X)(B:Blt mg)(ha:A3 K X O [a] ga)(hg:∀i,Gl (X i) "int" := by intro i;rfl)(he:∀i,VM [a] (X i).env=(false,eval a (X i).env)::VM [] (X i).env:=by intro i;rfl):E3 K X O (.Call (.Name "int" p) [a] [] pos) (zc3 (fn1 zp5) ga) :=
 zvw C (λi=>zsa) (λ_=>z0u) z0i B.int ha hg (by decide) (by decide) he
theorem ze7(C:Ctx3 P w K mg base k X)(B:Blt mg)(ha:A3 K X O [a] ga)(hg:∀i,Gl (X i) "tuple" := by intro i;rfl)(he:∀i,VM [a] (X i).env=(false,eval a (X i).env)::VM [] (X i).env:=by intro i;rfl):E3 K X O (.Call (.Name "tuple" p) [a] [] pos) (zc3 (fn1 tupF) ga) :=
 zvw C (λi=>by have h:=zk0 (X:=X i);rw[C.hK] at h;exact h) (λ_=>ztb) zth B.tuple ha hg (by decide) (by decide) he
theorem ztt{X:Cx}:MtR X "str.join" zlh:=λpins s σ H x xs v us Q I rx rv h=>zx5 pins s σ H x xs v us Q I rx rv h
theorem zr0{apos:Pos}(C:Ctx3 P w K mg base k X)(ho:E3 K X O a fa)(hb:E3 K X O b fb)(hbase:∀i,Ul a "join" (X i).env (eval a (X i).env)=eval a (X i).env:=by intro i;rfl)
 (hfew:∀i,((Ui pos (VM [b] (X i).env)).all (λx=>!x.1) && (UJ pos (Ux [] (X i).env)).all (λx=>x.1.isSome) && decide (([b]:List Expr).length+([]:List Uv).length+(if([]:List Uv).isEmpty then 0 else 1)<30))=true:=by intro i;rfl)
 (hline:(apos.endLine == pos.line)=true:=by rfl) (hs:∀i,VM [b] (X i).env = [(false,eval b (X i).env)]:=by intro i;rfl):E3 K X O (.Call (.Attribute a "join" apos) [b] [] pos) (zvt fa fb) :=
 let ⟨_,p1,d1⟩:=ho;let ⟨_,p2,d2⟩:=hb;⟨tBM K "str" zlh _ (zaw _ tNil),λi=>by
  have h:=zli (apos:=apos) (cpos:=pos) PySem.F.plainAttrs_str PySem.F.slot_str_join PySem.F.type_str_join (ztt (X:=X i)) (p1 i) (zas (p2 i) zbj (hs i)) (hbase i) (hfew i) hline (hs i);rw[C.hK] at h
  exact h,λj=>zws (d1 j) (d2 j)⟩
theorem zbn{k' n:Nat}(C:Ctx3 P w K mg base k X)(D:Def3 P w K mg base k' x ps (spO K φ n F))(hφ:∀j,φ (O j))(ha:A3 K X O (a::es) ga)(hk:k'<=k:=by decide)(hg:∀i,Gl (X i) x:=by intro i;rfl)
 (hdb:(x == ("__debug__" : Str))=false:=by decide) (he:∀i,VM (a::es) (X i).env=(false,eval a (X i).env)::VM es (X i).env:=by intro i;rfl) (hpl:∀i,(Ui pos (VM es (X i).env)).any (·.1)=false:=by intro i;rfl):E3 K X O (.Call (.Name x p) (a::es) [] pos) (calD n F ga):=by
 obtain⟨f,fd,G,m,kp,bn⟩:=D.ex;obtain⟨t,q,d⟩:=ha;refine⟨zbp (spO K φ n F) [] E0 t,λi=>?_,λj=>zwb (hφ j) (d j)⟩;have G':FnOk (X i).prog (X i).w (X i).K (X i).mg (X i).base CX0 k f fd ps (spO K φ n F):=by rw[C.hP,C.hw,C.hK,C.hmg,C.hb];exact G.mono hk
 exact zb7 G' (C.room i) (hg i) (by rw[C.hmg];exact m) (by rw[C.hK];exact kp) (by rw[C.hK];exact bn) .nil zdg (q i) hdb (he i) (hpl i)
theorem zbl{k' n:Nat}(v:Nat)(C:Ctx3 P w K mg base k X)(D:Def3 P w K mg base k' x ps (spD K φ n F))(hφ:∀j,φ (O j))(ha:A3 K X O es ga)(hk:k'<=k:=by decide)(hg:∀i,Gl (X i) x:=by intro i;rfl)
 (hN:∀i,(X i).N[v]? = some y:=by intro i;rfl) (hv:∀i,Vis (X i).env.scope y:=by intro i;first|exact Or.inl rfl|exact Or.inr (Or.inl rfl)|exact Or.inr (Or.inr rfl)) (hd:(y == ("__debug__" : Str))=false:=by decide) (hcd:(y == ("__classdict__" : Str))=false:=by decide)
 (hdb:(x == ("__debug__" : Str))=false:=by decide) (he:∀i,VM (.Name y py::es) (X i).env=(false,eval (.Name y py) (X i).env)::VM es (X i).env:=by intro i;rfl) (hpl:∀i,(Ui pos (VM es (X i).env)).any (·.1)=false:=by intro i;rfl) :
 E3 K X O (.Call (.Name x p) (.Name y py::es) [] pos) (calO v n F ga):=by
 obtain⟨f,fd,G,m,kp,bn⟩:=D.ex;obtain⟨t,q,d⟩:=ha;refine⟨zbp (spD K φ n F) [] E0 (zaw (tVar v) t),λi=>?_,λj=>zs9 (hφ j) (d j)⟩;have G':FnOk (X i).prog (X i).w (X i).K (X i).mg (X i).base CX0 k f fd ps (spD K φ n F):=by rw[C.hP,C.hw,C.hK,C.hmg,C.hb];exact G.mono hk
 exact zb7 G' (C.room i) (hg i) (by rw[C.hmg];exact m) (by rw[C.hK];exact kp) (by rw[C.hK];exact bn) .nil zdg (zas (zai (hN i) (hv i) hd hcd) (q i) (he i)) hdb (he i) (hpl i)
theorem zco(C:Ctx3 P w K mg base k X)(ha:E3 K X O a fa):I3 K X O tg a (srcL fa):=let ⟨_,p,d⟩:=ha;⟨zgs K _,λi=>by have h:=zg2 (tg:=tg) (p i);rw[C.hK] at h;exact h,λj=>zto (d j)⟩
theorem zfl(C:Ctx3 P w K mg base k X)(ha:E3 K X O a fa):I3 K X O tg a (srcT fa):=let ⟨_,p,d⟩:=ha;⟨iTup K _,λi=>by have h:=zz7 (tg:=tg) (p i);rw[C.hK] at h;exact h,λj=>zxc (d j)⟩
theorem zu7(ha:E3 K X O a fa):I3 K X O tg a (srcS fa):=let ⟨_,p,d⟩:=ha;⟨_,λi=>zzs (p i),λj=>zyb (d j)⟩
theorem i_r1(C:Ctx3 P w K mg base k X)(B:Blt mg)(ha:A3 K X O [a] ga)(hg:∀i,Gl (X i) "range" := by intro i;rfl)(hs:∀i,VM [a] (X i).env = [(false,eval a (X i).env)]:=by intro i;rfl):I3 K X O tg (.Call (.Name "range" p) [a] [] pos) (zvk ga) :=
 let ⟨_,q,d⟩:=ha;⟨_,λi=>zj4 (hg i) (by rw[C.hmg];exact B.range) (q i) (hs i),λj=>zuc (d j)⟩
theorem i_r2(C:Ctx3 P w K mg base k X)(B:Blt mg)(ha:A3 K X O [a,b] ga)(hg:∀i,Gl (X i) "range" := by intro i;rfl)(hs:∀i,VM [a,b] (X i).env = [(false,eval a (X i).env),(false,eval b (X i).env)]:=by intro i;rfl)(hs2:∀i,VM [b] (X i).env = [(false,eval b (X i).env)]:=by intro i;rfl):
 I3 K X O tg (.Call (.Name "range" p) [a,b] [] pos) (zuz ga):=let ⟨_,q,d⟩:=ha;⟨_,λi=>zq3 (hg i) (by rw[C.hmg];exact B.range) (q i) (hs i) (hs2 i),λj=>ztj (d j)⟩
theorem zbx(h:I3 K X O tg a fi):J3 K X O tg a (newJ fi):=let ⟨_,p,d⟩:=h;⟨_,p,λj=>zyd (d j)⟩
theorem za2{h:Nat}(n:Nat)(hlt:n<h:=by decide)(hN:∀i,(X i).N.Nodup:=by intro i;exact Go (by kernel_rfl))(hi:∀i,(X i).N[n]? = some x:=by intro i;rfl)(hx:∀i,Loc (X i).env.scope x:=by intro i;first|exact Or.inl rfl|exact Or.inr rfl)
 (hf:∀i,(X i).fn x=true\/(X i).env.scope.names.lookup x=some .local:=by intro i;first|exact .inl rfl|exact .inr rfl):G3 K X h (.Name x pos) (gN n):=⟨_,λi=>zc7 (hN i) (hi i) (hx i) (hf i),λ_=>zx6,λ_=>zxr,zc8 hlt⟩
def Gs3{ι:Type}(K:Qa)(X:ι->Cx)(h:Nat)(es:List Expr)(is:List Nat):Prop:=∃t,(∀i,PGs (X i) es t)/\(∀O:Ob,GSs K O t is)/\(∀O:Ob,GRs K O t is)/\zij h t/\zg3 t
theorem zcg{h:Nat}:Gs3 K X h [] []:=⟨_,λi=>zn2,λ_=>zwx,λ_=>zwg,zno,ziz⟩
theorem zax{h:Nat}{is:List Nat}(n:Nat)(hr:Gs3 K X h es is)(hlt:n<h:=by decide)(hN:∀i,(X i).N.Nodup:=by intro i;exact Go (by kernel_rfl))(hi:∀i,(X i).N[n]? = some x:=by intro i;rfl)(hx:∀i,Loc (X i).env.scope x:=by intro i;first|exact Or.inl rfl|exact Or.inr rfl)
 (hf:∀i,(X i).fn x=true\/(X i).env.scope.names.lookup x=some .local:=by intro i;first|exact .inl rfl|exact .inr rfl) (hs:∀i,(VW (.Name x pos::es) (X i).env).map (·.2)=UI (.Name x pos) (X i).env::(VW es (X i).env).map (·.2):=by intro i;rfl):Gs3 K X h (.Name x pos::es) (n::is) :=
 let ⟨_,p,d1,d2,o,m⟩:=hr;⟨_,λi=>zhn (zc7 (hN i) (hi i) (hx i) (hf i)) (p i) (hs i),λO=>zue (d1 O),λO=>ztl (d2 O),zhk zhg m (zc8 hlt) o,zmy zhg m⟩
theorem zdt{h n:Nat}{is:List Nat}{j:Nat}(C:Ctx3 P w K mg base k X)(hr:Gs3 K X h es is)(hn:is.length=n:=by rfl)(hn2:∀i,(VW es (X i).env).length=n:=by intro i;rfl)(hst:∀i,(VW es (X i).env).findIdx? (·.1)=none:=by intro i;rfl):G3 K X h (.Tuple es j pos) (gT is) :=
 let ⟨_,p,d1,d2,o,m⟩:=hr;⟨_,λi=>by have z:=zmu (pos:=pos) (k:=j) (C.calm i) (p i) (hn2 i) (hst i);rw[C.hK] at z;exact z,λO=>z0f hn (d1 O),λO=>zy5 hn (d2 O),zi2 o⟩
theorem zde: F3 K X O' [] yesD:=⟨_,λi=>zmt,λj σ H ρ Q Qd S h k=>k true H (.refl _ _) h⟩
theorem zis(h:T3 K X O c ft):F3 K X O [c] ft:=let ⟨_,p,d⟩:=h;⟨_,λi=>zrx (p i),d⟩
theorem zb4{iter:Expr}{scope:Uo}(h:Nat)(N':List Str)(C:Ctx3 P w K mg base k X)(S:∀i,ScopeOk h N' (X i).N scope (X i).env.scope)(hs:I3 K X O tg iter fi)
 (hg:G3 K (zfi X scope N') h tg g) (hf:F3 K (zfi X scope N') (zia O) ifs ft) (he:E3 K (zfi X scope N') (zia O) elt fe) (hset:∀i x,Uf iter (X i).env x=pure x:=by intro _ _;rfl) :
 E3 K X O (.ListComp elt [⟨tg,iter,ifs,0⟩] scope pos) (zpw h fi g ft fe):=by
 obtain⟨ti,p1,d1⟩:=hs;obtain⟨tg',p2,d2,_,ow⟩:=hg;obtain⟨tf,p3,d3⟩:=hf;obtain⟨te,p4,d4⟩:=he;exact⟨_,λi=>zjo h (S i) (C.calm i) (p1 i) (λc s H ex=>p2 (i,⟨c,s,H,ex⟩)) ow (λc s H ex=>p3 (i,⟨c,s,H,ex⟩)) (λc s H ex=>p4 (i,⟨c,s,H,ex⟩)) (hset i),λj=>znv (d1 j) d2 (λD xs nm=>d3 ⟨(j,(D,xs)),nm⟩) λD xs nm=>d4 ⟨(j,(D,xs)),nm⟩⟩
variable {st:Stmt}{sts:List Stmt}{g1 g2:DS}{ft:DT}
theorem zbu:Ss3 K X O [] (λDd ρ=>Dd.nx ρ):=⟨_,λi=>zog,λj=>zwu⟩
theorem zaj(h:S3 K X O st g1):Ss3 K X O [st] g1:=let ⟨_,p,d⟩:=h;⟨_,λi=>zbz (p i),d⟩
theorem zah(h:S3 K X O st g1)(h':Ss3 K X O sts g2):Ss3 K X O (st::sts) (seqD g1 g2):=let ⟨_,p,d⟩:=h;let ⟨_,p2,d2⟩:=h';⟨_,λi=>za5 (p i) (p2 i),λj=>zz0 (d j) (d2 j)⟩
theorem zbb(ha:E3 K X O a fa):S3 K X O (.Return (some a) pos) (retS fa):=let ⟨_,p,d⟩:=ha;⟨_,λi=>zdl (p i),λj=>z0a (d j)⟩
theorem s_if(hc:T3 K X O c ft)(h:Ss3 K X O sa g1)(h':Ss3 K X O sb g2):S3 K X O (.If c sa sb pos) (ifS ft g1 g2):=let ⟨_,p,d⟩:=hc;let ⟨_,p1,d1⟩:=h;let ⟨_,p2,d2⟩:=h';⟨_,λi=>zvg (p i) (p1 i) (p2 i),λj=>z0x (d j) (d1 j) (d2 j)⟩
theorem za7(n:Nat)(ha:E3 K X O a fa)(hN:∀i,(X i).N.Nodup:=by intro i;exact Go (by kernel_rfl))(hi:∀i,(X i).N[n]? = some x:=by intro i;rfl)(hx:∀i,Loc (X i).env.scope x:=by intro i;first|exact Or.inl rfl|exact Or.inr rfl)
 (hs:∀i,VX a (some (.Name x px)) pos.line (X i).env=pure false:=by intro i;rfl) (hf:∀i,(X i).fn x=true\/(X i).env.scope.names.lookup x=some .local:=by intro i;first|exact .inl rfl|exact .inr rfl):S3 K X O (.Assign [.Name x px] a pos) (asgS n fa) :=
 let ⟨_,p,d⟩:=ha;⟨_,λi=>zbi (hN i) (hi i) (hx i) (p i) (hs i) (hf i),λj=>zrn (d j)⟩
theorem zmb(n:Nat){iter:Expr}{scope:Uo}(h:Nat)(N':List Str)(C:Ctx3 P w K mg base k X)(S:∀i,ScopeOk h N' (X i).N scope (X i).env.scope)(hs:I3 K X O tg iter fi)
 (hg:G3 K (zfi X scope N') h tg g) (hf:F3 K (zfi X scope N') (zia O) ifs ft) (he:E3 K (zfi X scope N') (zia O) elt fe) (hN:∀i,(X i).N.Nodup:=by intro i;exact Go (by kernel_rfl)) (hi:∀i,(X i).N[n]? = some x:=by intro i;rfl) (hx:∀i,(X i).env.scope.names.lookup x=some .local:=by intro i;rfl)
 (hsw:∀i,VX (.ListComp elt [⟨tg,iter,ifs,0⟩] scope p0) (some (.Name x px)) pos.line (X i).env=pure true:=by intro i;rfl) (hset:∀i x,Uf iter (X i).env x=pure x:=by intro _ _;rfl) :
 S3 K X O (.Assign [.Name x px] (.ListComp elt [⟨tg,iter,ifs,0⟩] scope p0) pos) (asgS n (zpw h fi g ft fe)):=by
 obtain⟨ti,p1,d1⟩:=hs;obtain⟨tg',p2,d2,_,ow⟩:=hg;obtain⟨tf,p3,d3⟩:=hf;obtain⟨te,p4,d4⟩:=he;exact⟨_,λi=>zh3 (hN i) (hi i) (hx i) (hsw i) h (S i) (C.calm i) (p1 i) (λc s H ex=>p2 (i,⟨c,s,H,ex⟩)) ow (λc s H ex=>p3 (i,⟨c,s,H,ex⟩)) (λc s H ex=>p4 (i,⟨c,s,H,ex⟩)) (hset i),λj=>zrn (znv (d1 j) d2 (λD xs nm=>d3 ⟨(j,(D,xs)),nm⟩) λD xs nm=>d4 ⟨(j,(D,xs)),nm⟩)⟩
theorem zp3{X:Cx}:MtR X "list.append" zgo:=λpins s σ H x xs v us Q I rx rv h=>zkq pins s σ H x xs v us Q I rx rv h
theorem zk8(n:Nat){apos cpos:Pos}(C:Ctx3 P w K mg base k X)(hb:E3 K X O b fb)(hN:∀i,(X i).N[n]? = some x:=by intro i;rfl)(hv:∀i,Vis (X i).env.scope x:=by intro i;first|exact Or.inl rfl|exact Or.inr (Or.inl rfl)|exact Or.inr (Or.inr rfl))(hd:(x == ("__debug__" : Str))=false:=by decide)(hcd:(x == ("__classdict__" : Str))=false:=by decide)
 (hbase:∀i,Ul (.Name x px) "append" (X i).env (eval (.Name x px) (X i).env)=eval (.Name x px) (X i).env:=by intro i;rfl)
 (hfew:∀i,((Ui cpos (VM [b] (X i).env)).all (λx=>!x.1) && (UJ cpos (Ux [] (X i).env)).all (λx=>x.1.isSome) && decide (([b]:List Expr).length+([]:List Uv).length+(if([]:List Uv).isEmpty then 0 else 1)<30))=true:=by intro i;rfl)
 (hline:(apos.endLine == cpos.line)=true:=by rfl) (hs:∀i,VM [b] (X i).env = [(false,eval b (X i).env)]:=by intro i;rfl) (hsw:∀i,VX (.Call (.Attribute (.Name x px) "append" apos) [b] [] cpos) none pos.line (X i).env=pure false:=by intro i;rfl) :
 S3 K X O (.Expr (.Call (.Attribute (.Name x px) "append" apos) [b] [] cpos) pos) (appS n fb):=let ⟨_,p2,d2⟩:=hb;
 ⟨zps (tBM K "list" zgo (tVar n) (zaw _ tNil)),λi=>by
  have h:=zli (apos:=apos) (cpos:=cpos) ZH PySem.F.slot_list_append PySem.F.type_list_append (zp3 (X:=X i)) (zai (pos:=px) (hN i) (hv i) hd hcd) (zas (p2 i) zbj (hs i)) (hbase i) (hfew i) hline (hs i);rw[C.hK] at h
  exact zv9 h (hsw i),λj=>zrv (d2 j)⟩
theorem zd6{X:Cx}(h:X.xe=λ_ _=>False):PassesOwn (model X.prog X.w) X.A X.env X.xe:=by rw[h];exact Yx
theorem zbh{iter:Expr}{body:List Stmt}{hh:Nat}(C:Ctx3 P w K mg base k X)(hi:J3 K X O tg iter fj)(hg:G3 K X hh tg g)(hb:Ss3 K X O body g1)(hs:∀i x,Uf iter (X i).env x=pure x:=by intro _ _;rfl):S3 K X O (.For tg iter body [] pos) (forS fj g g1):=by
 obtain⟨ti,p1,d1⟩:=hi;obtain⟨tg',p2,_,d2,_⟩:=hg;obtain⟨tb,p3,d3⟩:=hb;exact⟨_,λi=>zrf (zd6 (C.xe i)) (C.calm i) (p1 i) (p2 i) (p3 i) (hs i),λj=>z0d (d1 j) (d2 (O j)) (d3 j)⟩
theorem znl{body:List Stmt}(C:Ctx3 P w K mg base k X)(hc:T3 K X O c ft)(hb:Ss3 K X O body g1):S3 K X O (.While c body [] pos) (zrt ft g1):=let ⟨_,p,d⟩:=hc;let ⟨_,p2,d2⟩:=hb;⟨_,λi=>zhv (zd6 (C.xe i)) (p i) (p2 i),λj=>zs7 (d j) (d2 j)⟩
end
theorem len1(hl:us.length=1)(h:∀u0,Uc fd ⟨[u0],[]⟩=pure ([p0].zip [u0])):Uc fd ⟨us,[]⟩=pure ([p0].zip us):=by
 match us,hl with
 | [u0],_=>exact h u0
theorem len2(hl:us.length=2)(h:∀u0 u1,Uc fd ⟨[u0,u1],[]⟩=pure ([p0,p1].zip [u0,u1])):Uc fd ⟨us,[]⟩=pure ([p0,p1].zip us):=by
 match us,hl with
 | [u0,u1],_=>exact h u0 u1
theorem len3(hl:us.length=3)(h:∀u0 u1 u2,Uc fd ⟨[u0,u1,u2],[]⟩=pure ([p0,p1,p2].zip [u0,u1,u2])):Uc fd ⟨us,[]⟩=pure ([p0,p1,p2].zip us):=by
 match us,hl with
 | [u0,u1,u2],_=>exact h u0 u1 u2
theorem len4(hl:us.length=4)(h:∀u0 u1 u2 u3,Uc fd ⟨[u0,u1,u2,u3],[]⟩=pure ([p0,p1,p2,p3].zip [u0,u1,u2,u3])):Uc fd ⟨us,[]⟩=pure ([p0,p1,p2,p3].zip us):=by
 match us,hl with
 | [u0,u1,u2,u3],_=>exact h u0 u1 u2 u3
theorem len5(hl:us.length=5)(h:∀u0 u1 u2 u3 u4,Uc fd ⟨[u0,u1,u2,u3,u4],[]⟩=pure ([p0,p1,p2,p3,p4].zip [u0,u1,u2,u3,u4])):Uc fd ⟨us,[]⟩=pure ([p0,p1,p2,p3,p4].zip us):=by
 match us,hl with
 | [u0,u1,u2,u3,u4],_=>exact h u0 u1 u2 u3 u4
section
variable {P:VO}{w:VR}{K:Qa}{mg:Str->Option VJ}{base:Heap}{k n:Nat}{x:Str}{st:Stmt}{N ps:List Str}{φ:Ob->Prop}{F:List VI->(R->Prop)->Prop}
abbrev zbq(P:VO)(w:VR)(K:Qa)(mg:Str->Option VJ)(base:Heap)(N:List Str)(x:Str)(sc:Uo)(f:Addr)(cdv:VJ)(A:VY)(outer:List Env)(s:VN)(H:Hp)(E:XK):Unit->Cx:=λ_=>(cxOf CX0 P w K mg base N x sc f cdv A outer s H E).nox
theorem zcb{outer:List Env}(hr:Room k (A.deeper (UB x sc s.heap.objs.size f cdv))):Ctx3 P w K mg base k (zbq P w K mg base N x sc f cdv A outer s H E) :=
 ⟨λ_=>rfl,λ_=>rfl,λ_=>rfl,λ_=>rfl,λ_=>rfl,λ_=>rfl,λ_=>hr,λ_=>rfl⟩
theorem mk_O(T:Top3 K mg x st)(S:FnScope N ps (zad st))(hb:∀(kV doc pm:VJ) (an:Option Addr) (cdv ct:VJ) (us:List VJ),us.length=ps.length->Uc (Zb x x (zbk st) (zay st) (zad st) .none kV doc pm an cdv ct) ⟨us,[]⟩=pure (ps.zip us))(hn:ps.length=n)
 (body:∀(f:Addr) (cdv:VJ) (A:VY) (outer:List Env) (s:VN) (H:Hp) (E:XK) (O:Ob),φ O->Ctx3 P w K mg base k (zbq P w K mg base N x (zad st) f cdv A outer s H E) ->
  ∃g,Ss3 K (zbq P w K mg base N x (zad st) f cdv A outer s H E) (λ_:Unit=>O) (zay st) g/\∀ds Qr,ds.length=n->F ds Qr->g { nx:=λ_=>Qr (.o .none),rt:=Qr } (za9 N (ds.map .im))):Def3 P w K mg base (k+1) x ps (spO K φ n F):=by
 obtain⟨f,fd,Fu,m⟩:=T.ex;refine⟨f,fd,Fu.ok S (zgk hn) (λcdv A outer s H vs Q E hr h=>?_),m,Fu.kp,Fu.binds hb⟩;obtain⟨O,ds,Qr,ok,hφ,p,hl,is,q,kk⟩:=h;obtain⟨g,⟨t,h1,h2⟩,h3⟩:=body f cdv A outer s H E O hφ (zcb hr);exact⟨t,h1 (),z1x (h2 ()) ok p is (h3 ds Qr hl q) kk⟩
theorem mk_D(T:Top3 K mg x st)(S:FnScope N ps (zad st))(hb:∀(kV doc pm:VJ) (an:Option Addr) (cdv ct:VJ) (us:List VJ),us.length=ps.length->Uc (Zb x x (zbk st) (zay st) (zad st) .none kV doc pm an cdv ct) ⟨us,[]⟩=pure (ps.zip us))(hn:ps.length=n+1)
 (body:∀(f:Addr) (cdv:VJ) (A:VY) (outer:List Env) (s:VN) (H:Hp) (E:XK) (O:Ob),φ O->Ctx3 P w K mg base k (zbq P w K mg base N x (zad st) f cdv A outer s H E) ->
  ∃g,Ss3 K (zbq P w K mg base N x (zad st) f cdv A outer s H E) (λ_:Unit=>O) (zay st) g/\∀ds Qr,ds.length=n->F ds Qr->g { nx:=λ_=>Qr (.o .none),rt:=Qr } (za9 N (.ob::ds.map .im))):Def3 P w K mg base (k+1) x ps (spD K φ n F):=by
 obtain⟨f,fd,Fu,m⟩:=T.ex;refine⟨f,fd,Fu.ok S (zjs hn) (λcdv A outer s H vs Q E hr h=>?_),m,Fu.kp,Fu.binds hb⟩;obtain⟨O,ds,ws,Qr,ok,hφ,p,hl,rfl,is,q,kk⟩:=h;obtain⟨g,⟨t,h1,h2⟩,h3⟩:=body f cdv A outer s H E O hφ (zcb hr);exact⟨t,h1 (),z1t (h2 ()) ok p is (h3 ds Qr hl q) kk⟩
end
structure PotStp(a l:Addr)(H H':Hp):Prop where
 oth:∀b,b≠a->b≠l->H' b=H b
theorem PotStp.refl(a l:Addr)(H:Hp):PotStp a l H H:=⟨λ_ _ _=>rfl⟩
theorem PotStp.trans(x:PotStp a l H H1)(y:PotStp a l H1 H2):PotStp a l H H2:=⟨λb h1 h2=>(y.oth b h1 h2).trans (x.oth b h1 h2)⟩
theorem PotStp.upA(o:HO):PotStp a l H (upd H a o):=⟨λb h1 _=>zac h1⟩
theorem PotStp.upL(o:HO):PotStp a l H (upd H l o):=⟨λb _ h2=>zac h2⟩
abbrev lenR(K:Qa):List V->Hp->VK->Prop:=λxs H Q=>∃x n,xs = [x]/\LenV K x H n/\Q (.int n) H
def zek:List VI->(R->Prop)->Prop:=λds Q=>∃m:Int,ds = [.int m]/\0<m/\m<1073741824/\∀k,0<=k->k<m->Q (.o (.int k))
theorem zkj: MtR X "list.pop" zgd:=λpins s σ H x xs v us Q I rx rv h=>zt3 pins s σ H x xs v us Q I rx rv h
theorem zs2(ns:List Int)(lo hi:Option Int):cutV (ns.map V.int) lo hi=(cutL ns lo hi).map V.int:=by
 unfold cutV cutL;rw[Qb,V8,V9]
def abc:List Nat:=(QL 26).map (· + 97)
def zdx(c:Nat):Prop:=97<=c/\c<123
theorem zjy:∀(l:List Nat) (acc:Array Nat),(l.map sg).foldl (λacc p=>acc++(Zf "").cps++p.cps) acc=acc++l.toArray
 | [],acc=>by simp
 | c::r,acc=>by
   rw[Qp,Z9,zjy r];have e:(Zf "").cps = #[]:=by decide +kernel
   rw[e];apply Yj.mp;simp[sg]
theorem zxd(w:List Nat):V1 "" (w.map sg)=tx w:=by
 cases w with
 | nil=>decide +kernel
 | cons c r=>
   show YZ (Zf "") (sg c::r.map sg)=tx (c::r);unfold YZ;show(⟨(r.map sg).foldl _ (sg c).cps⟩:Str)=_;rw[zjy];unfold tx sg
   congr 1
   apply Yj.mp;simp
theorem z0o(c:Nat):(sg c).length=1:=rfl
theorem zyv(w:List Nat):((w.map sg).map (·.length)).sum=w.length:=by
 induction w with
 | nil=>rfl
 | cons c r ih=>rw[Qp,Qp,ZD,ih,z0o,Qs];lia
theorem unsg:∀{zs:List Str},(∀z∈zs,∃c,z=sg c/\zdx c)->∃w:List Nat,zs=w.map sg/\∀c∈w,zdx c
 | [],_=>⟨[],rfl,by simp⟩
 | z::zs,h=>by
   obtain⟨c,rfl,hc⟩:=h z Qm;obtain⟨w,rfl,hw⟩:=unsg (zs:=zs) λy hy=>h y (Qc _ hy);exact⟨c::w,rfl,λd hd=>by rcases Q1.mp hd with e|e;(rw[e];exact hc);exact hw d e⟩
theorem zj6{α β:Type}(f:α->β):∀(l:List α) (i:Nat),(l.map f).eraseIdx i=(l.eraseIdx i).map f
 | [],_=>rfl
 | _::_,0=>rfl
 | a::l,i+1=>by rw[Qp,Jq,Jq,Qp,zj6 f l i]
theorem zm1{α:Type}{l:List α}{i:Nat}{x:α}(h:x∈l.eraseIdx i):x∈l:=List.mem_of_mem_eraseIdx h
theorem zko{α:Type}:∀{l:List α} {i:Nat} (h:i<l.length),([l[i]]++l.eraseIdx i).Perm l
 | a::l,0,_=>.refl _
 | a::l,i+1,h=>by
   have h':i<l.length:=by simpa using h
   have ih:=zko (l:=l) (i:=i) h';show(l[i]::a::l.eraseIdx i).Perm (a::l);exact(List.Perm.swap a l[i] _).trans (List.Perm.cons a ih)
theorem zyr{a b:Nat}(h:sg a=sg b):a=b:=by
 have:=Gr (λx:Str=>x.cps.toList) h;simpa[sg] using this
theorem zg6:∀{w:List Nat} {x:Nat},risingS (sg x) (w.map sg)=true->(∀c∈w,x<=c)/\w.Pairwise (·<=·)
 | [],_,_=>⟨λ_ h=>(nomatch h),.nil⟩
 | y::r,x,h=>by
   have h:(!(decide (y<x) || (y == x && false)) && risingS (sg y) (r.map sg))=true:=h;rw[Bool.and_false,V5,QV,Bool.not_eq_true',decide_eq_false_iff_not] at h;obtain⟨h1,h2⟩:=zg6 (w:=r) (x:=y) h.2;refine⟨λc hc=>?_,.cons h1 h2⟩;rcases Q1.mp hc with rfl|hc
   .lia
   .have:=h1 c hc;lia
theorem zo6:∀{w:List Nat},sortedS (w.map sg)=true->w.Nodup->w.Pairwise (· < ·)
 | [],_,_=>.nil
 | x::r,h,hn=>by
   obtain⟨h1,h2⟩:=zg6 (w:=r) (x:=x) h;obtain⟨n1,n2⟩:=Zr.mp hn;refine .cons (λc hc=>YK (h1 c hc) λe=>n1 (e ▸ hc)) ?_;exact(List.Pairwise.and h2 n2).imp λ⟨a,b⟩=>YK a b
theorem zi7{neg:Bool}(hx:JK x=true)(hy:JK y=true):eqF neg (.str x) (.str y)=some (.o (.bool (if neg then !(x == y) else x == y))):=by
 unfold eqF;rw[Gm (by simp[okD,V2,VE,hx,hy])];rfl
theorem zy2(h:tx v=tx w):v=w:=by
 have:=Gr (λx:Str=>x.cps.toList) h;simpa[tx] using this
theorem zm3(v w:List Nat):(tx v == tx w)=decide (v=w):=by
 by_cases e:v=w
 .subst e;simp
 .rw[Gp e];exact beq_eq_false_iff_ne.mpr λh=>e (zy2 h)
theorem zi4{neg:Bool}{i j:Int}:eqF neg (.int i) (.int j)=some (.o (.bool (if neg then !decide (i=j) else decide (i=j)))):=by
 unfold eqF;have e:(okD (Jo i) && (Jo j).canLay0)=true:=by simp[okD,V2,VE]
 rw[Gm e];rfl
theorem zp1{h:Nat}(step:∀d∈ds,∀P:R->Prop,(∀r,r.d=e d->P r)->g d (Qh h none++ρ) λρ2=>ft ρ2 λb=>b=true/\fe ρ2 P):
 ∀acc,acc.length+ds.length<=sizeLine->Q (acc++ds.map e)->(∀d,∀(P P':DSt->Prop) ρ,(∀ρ,P ρ->P' ρ)->g d ρ P->g d ρ P')->(∀ρ (P P':Bool->Prop),(∀b,P b->P' b)->ft ρ P->ft ρ P')->zau h g ft fe ρ Q ds acc:=by
 induction ds with
 | nil=>
   intro acc _ q _ _;show Q acc;simpa using q
 | cons d ds ih=>
   intro acc hz q mg mt;have h1:=step d Qm;refine mg d _ _ _ (λρ2 z=>mt ρ2 _ _ (λb y=>?_) z) (h1 (λr=>acc.length<sizeLine/\zau h g ft fe ρ Q ds (acc ++ [r.d])) λr hr=>?_)
   .rw[y.1];exact y.2
   .rw[Qs] at hz;refine⟨by lia,?_⟩;rw[hr];exact ih (λd' hd=>step d' (Qc _ hd)) (acc ++ [e d]) (by rw[Qi];simp;lia) (by simpa using q) mg mt
theorem zhz{i:Nat}{h:Nat}(step:∀d∈ds,∀P:R->Prop,(∀r,r.d=e d->P r)->fe ((Qh h none++ρ).set i (some (.im d))) P)(hz:ds.length<=sizeLine)(q:Q (ds.map e)):
 zau h (gN i) yesD fe ρ Q ds [] :=
 zp1 (λd hd P hP=>⟨rfl,step d hd P hP⟩) [] (by simpa using hz) (by simpa using q) (λ_ _ _ _ k z=>k _ z) (λ_ _ _ k z=>k _ z)
theorem zgw{α:Type}{enc:α->VI}{i:Nat}{fe:DE}{ρ:DSt}{Q:List VI->Prop}{as:List α}{e:α->VI}{h:Nat}(step:∀a∈as,∀P:R->Prop,(∀r,r.d=e a->P r)->fe ((Qh h none++ρ).set i (some (.im (enc a)))) P)(hz:as.length<=sizeLine)(q:Q (as.map e)):
 zau h (gN i) yesD fe ρ Q (as.map enc) []:=by
 have key:∀(as:List α) (acc:List VI),(∀a∈as,∀P:R->Prop,(∀r,r.d=e a->P r)->fe ((Qh h none++ρ).set i (some (.im (enc a)))) P)->acc.length+as.length<=sizeLine->Q (acc++as.map e)->zau h (gN i) yesD fe ρ Q (as.map enc) acc:=by
  intro as
  induction as with
  | nil=>intro acc _ _ q;show Q acc;simpa using q
  | cons a as ih=>
    intro acc st hz q;rw[Qs] at hz;refine st a Qm _ λr hr=>?_;refine⟨by lia,?_⟩;rw[hr];exact ih (acc ++ [e a]) (λa' ha=>st a' (Qc _ ha)) (by rw[Qi];simp;lia) (by simpa using q)
 exact key as [] step (by simpa using hz) (by simpa using q)
theorem zaq(J:Nat->DSt->Prop)(h0:J 0 ρ)(fin:∀ρ,J ds.length ρ->Dd.nx ρ)
 (step:∀(j:Nat) d ρ (N:DSt->Prop),ds[j]? = some d->(∀ρ',J (j+1) ρ'->N ρ')->J j ρ->flat d=true/\g d ρ λρ2=>gb { Dd with nx:=N,ct:=N,bk:=Dd.nx } ρ2):zee g gb Dd ds ρ:=by
 have key:∀(k j:Nat),j+k=ds.length->∀ρ,J j ρ->zee g gb Dd (ds.drop j) ρ:=by
  intro k
  induction k with
  | zero=>
    intro j hj ρ h;rw[Zz (by lia)];have e:j=ds.length:=by lia
    rw[e] at h;exact fin ρ h
  | succ k ih=>
    intro j hj ρ h;have hlt:j<ds.length:=by lia
    rw[Z7 hlt];exact step j ds[j] ρ _ (Qu hlt) (λρ' h'=>ih (j+1) (by lia) ρ' h') h
 have:=key ds.length 0 (by lia) ρ h0;simpa using this
theorem zdm(lo:Int)(n:Nat):(zb8 lo n).length=n:=by simp[zb8]
theorem zbc{α:Type}{f:α->VI}(h:∀a,flat (f a)=true):∀l:List α,flats (l.map f)=true
 | []=>rfl
 | a::l=>by rw[Qp,flats,h a,zbc h l];rfl
theorem zgb(w:List Nat):(tx w).length=w.length:=by simp[tx,JS]
theorem zd2(h:w.length<=16777216):lenF [.str (tx w)]=some (.o (.int w.length)):=by
 unfold lenF;dsimp only;rw[zgb,Gm (by rw[VP];exact h)]
theorem zrz(h:v.length+w.length<=16777216):addF (.str (tx v)) (.str (tx w))=some (.o (.str (tx (v++w)))):=by
 unfold addF;dsimp only;rw[zgb,zgb,Gm (by rw[VP];exact h)]
 have e:tx v++tx w=tx (v++w):=by
  show Str.mk _=Str.mk _;simp[tx]
 rw[e]
theorem zgu(n d m:Nat):HT.sIx n d (some (m:Int))=min m n:=by
 have:=zht n d (m:Int);rw[Gn (by lia)] at this;lia
theorem zmp(n d:Nat):HT.sIx n d none=d:=rfl
theorem zf2{α:Type}(xs:List α)(m:Nat):cutL xs none (some (m:Int))=xs.take m:=by
 unfold cutL;rw[zgu,zmp,Y7,Nat.sub_zero,Y1,Nat.min_assoc,Nat.min_self,<- Y1]
theorem zs6{α:Type}(xs:List α)(m:Nat):cutL xs (some (m:Int)) none=xs.drop m:=by
 unfold cutL;rw[zgu,zmp];rcases Nat.le_total m xs.length with h|h
 .rw[Yy h,Zy (by rw[Zh];exact Qe _)]
 .rw[Vn h,Zz (Qe _),Zz h,V7]
theorem zh1{v:List Nat}{lo hi:Option Int}(h:v.length<=16777216):slcF lo hi (.str (tx v))=some (.o (.str (tx (cutL v lo hi)))):=by
 unfold slcF;dsimp only;rw[zgb,zge,Gm (by rw[VP];exact h)]
theorem zmg{α β:Type}{enc:α->VI}{enc2:β->VI}{good:β->Prop}{i h:Nat}{ft:DT}{fe:DE}{ρ:DSt}{Q:List VI->Prop}{as:List α}
 (step:∀a∈as,∀(Pn:Prop) (Py:VI->Prop),Pn->(∀b,good b->Py (enc2 b))->ft ((Qh h none++ρ).set i (some (.im (enc a)))) λt=>if t=true then fe ((Qh h none++ρ).set i (some (.im (enc a)))) (λr=>Py r.d) else Pn)
 (hz:as.length<=1000) (q:∀bs:List β,(∀b∈bs,good b)->bs.length<=as.length->Q (bs.map enc2)):zau h (gN i) ft fe ρ Q (as.map enc) []:=by
 have sz:=VP
 have key:∀(l:List α) (bs:List β),(∀a∈l,a∈as)->(∀b∈bs,good b)->bs.length+l.length<=as.length->zau h (gN i) ft fe ρ Q (l.map enc) (bs.map enc2):=by
  intro l
  induction l with
  | nil=>intro bs _ hb hl;exact q bs hb hl
  | cons a l ih=>
    intro bs hs hb hl;rw[Qs] at hl;refine step a (hs a Qm) _ (λd=>(bs.map enc2).length<sizeLine/\zau h (gN i) ft fe ρ Q (l.map enc) (bs.map enc2 ++ [d])) (ih bs (λx hx=>hs x (Qc _ hx)) hb (by lia)) λb gb=>⟨by rw[Qb];lia,?_⟩;have:=ih (bs ++ [b]) (λx hx=>hs x (Qc _ hx)) (λx hx=>by rcases Q9.mp hx with hx|hx;(exact hb x hx);(rw[Qn.mp hx];exact gb)) (by rw[Qi];simp;lia);rwa [Q6] at this
 exact key as [] (λ_ h=>h) (by simp) (by simp)
theorem znw(ws:List Nat)(hl:ws.length<=1000):∃ys:List Str,Vs (ws.map λc=>.str (tx [c])) = .list (ys.map .str)/\(ys.map (·.length)).sum+ys.length * (Zf "").length<=16777216/\V1 "" ys=tx ws:=by
 refine⟨ws.map sg,by rw[QN];rfl,?_,zxd ws⟩;have e0:(Zf "").length=0:=by decide +kernel
 rw[zyv,e0];lia
def zif(K:Qa):Sp:=λvs H Q _=>∃(a:Addr) (ns:List Int),vs = [.ref a]/\SqL K H a (ns.map V.int)/\ns.length<=63/\∀H',Q (.bl true) H'
theorem zhj:fillsNumberSlot (.type "tuple") "mul" = pure false :=
 PySem.fillsNumberSlot_seq (id := "tuple.__mul__") (r:=some (.builtin "tuple.__rmul__")) ZY.lookup (by decide +kernel) Va.lookup (by decide +kernel)
theorem zma:seqRepeat? (.type "tuple")=pure (some (.builtin "tuple.__mul__")):=by
 unfold seqRepeat?;rw[Vo (T := "tuple") (name := "__mul__") (id := "tuple.__mul__") ZY.lookup (by decide +kernel),Vo (T := "tuple") (name := "__rmul__") (id := "tuple.__rmul__") Va.lookup (by decide +kernel)];rfl
theorem zjt(a:Int)(t:Tok)(l:Addr)(items:Array VJ)(n:Nat)(dd:Option Addr)(sl:Array (Option VJ)):
 Meets (Builtin.«int.__rmul__» ⟨[.int a t,.ref l],[]⟩) (λ_ R s=>s.heap.get? l=some { cls:=.type "tuple",dict:=dd,data:=.seq items n,slots:=sl }/\R (.ok (.ret Value.notImplemented)) s) :=
 .of_wp λprog w A R s h=>by obtain⟨hp,g,d,tk,os⟩:=s;obtain⟨hl,h⟩:=h;wp_walk;exact⟨_,rfl,h⟩
theorem zi5(l:Addr)(items:Array VJ)(n:Nat)(dd:Option Addr)(sl:Array (Option VJ))(x:Int)(u:Tok)(hr:(decide (x < -2 ^ 63) || decide (x ≥ 2 ^ 63))=false)(h1:(items.isEmpty || x == 1)=true):
 Meets (Builtin.«tuple.__mul__» ⟨[.ref l,.int x u],[]⟩) (λ_ R s=>s.heap.get? l=some { cls:=.type "tuple",dict:=dd,data:=.seq items n,slots:=sl }/\R (.ok (.ret (.ref l))) s) :=
 .of_wp λprog w A R s h=>by obtain⟨hp,g,d,tk,os⟩:=s;obtain⟨hl,h⟩:=h;wp_walk;refine U0 (Gp (by rw[hr];exact Qo)) ?_;wp_walk;exact⟨_,rfl,h⟩
theorem zjd(l:Addr)(items:Array VJ)(n:Nat)(dd:Option Addr)(sl:Array (Option VJ))(x:Int)(u:Tok)(hr:(decide (x < -2 ^ 63) || decide (x ≥ 2 ^ 63))=false)(h1:¬(items.isEmpty || x == 1)=true)(h2:(decide (x<=0) || items.isEmpty)=true):
 Meets (Builtin.«tuple.__mul__» ⟨[.ref l,.int x u],[]⟩) (λ_ R s=>s.heap.get? l=some { cls:=.type "tuple",dict:=dd,data:=.seq items n,slots:=sl }/\R (.ok (.ret (.ref s.heap.objs.size))) { s with heap:=s.heap.push { cls:=Jm "tuple",data:=VG #[] },toks:=s.toks }) :=
 .of_wp λprog w A R s h=>by obtain⟨hp,g,d,tk,os⟩:=s;obtain⟨hl,h⟩:=h;wp_walk;refine U0 (Gp (by rw[hr];exact Qo)) ?_;wp_walk;exact⟨_,rfl,h⟩
theorem zi1(l:Addr)(items:Array VJ)(n:Nat)(dd:Option Addr)(sl:Array (Option VJ))(x:Int)(u:Tok)(hr:(decide (x < -2 ^ 63) || decide (x ≥ 2 ^ 63))=false)(h1:¬(items.isEmpty || x == 1)=true)(h2:¬(decide (x<=0) || items.isEmpty)=true)(h3:¬(items.size:Int) * x > (2 ^ 63-1) / 8)(h4:¬JT ((items.size:Int) * x)=true)(h5:(J7 (λx1 x2=>x1++x2) #[] (Qh x.toNat items)).size<=sizeLine):
 Meets (Builtin.«tuple.__mul__» ⟨[.ref l,.int x u],[]⟩) (λ_ R s=>s.heap.get? l=some { cls:=.type "tuple",dict:=dd,data:=.seq items n,slots:=sl }/\R (.ok (.ret (.ref s.heap.objs.size))) { s with heap:=s.heap.push { cls:=Jm "tuple",data:=VG (J7 (λx1 x2=>x1++x2) #[] (Qh x.toNat items)) },toks:=s.toks }) :=
 .of_wp λprog w A R s h=>by obtain⟨hp,g,d,tk,os⟩:=s;obtain⟨hl,h⟩:=h;wp_walk;refine U0 (Gp (by rw[hr];exact Qo)) ?_;wp_walk;refine U0 (Gp h3) ?_;wp_walk;exact⟨_,rfl,h⟩
section
variable {X:Cx}
def zv5(K:Qa):R2:=λx y H Q=>∃a k xs,x = .ref a/\y = .int k/\SqT K H a xs/\-(2 ^ 63)<=k/\k<2 ^ 63/\xs.length * k.toNat<=sizeLine /\
 ((xs = []\/k=1)->Q (.ref a) H)/\(¬(xs = []\/k=1)->∀p,H p=none->Q (.ref p) (upd H p (.tup (Qh k.toNat xs).flatten)))
theorem zwf:OpR X (binaryOp .Mult) (zv5 X.K):=by
 intro pins s σ H x y v u Q I rx ry h;obtain⟨a,k,xs,rfl,rfl,hS,h1,h2,hz,q1,q2⟩:=h;cases rx;obtain⟨t,rfl⟩:=ry;obtain⟨its,r1,p1,_⟩:=I.tuple hS;obtain⟨⟨cls,dd,data,sl⟩,ho,hc,n,hd⟩:=id p1;simp only at hc hd;subst hc hd;have hlen:=r1.length
 have hr:(decide (k < -2 ^ 63) || decide (k ≥ 2 ^ 63))=false:=by
  rw[Gp (by lia),Gp (by lia)];rfl
 have nil:its.toArray.isEmpty=true↔xs = []:=by
  rw[<- r1.nil_iff];simp
 have go:∀{R:VJ->VN->Prop},wpAny (model X.prog X.w) X.A (call (.builtin "tuple.__mul__") [.ref a,.int k t]) R X.xe s->wpAny (model X.prog X.w) X.A (binaryOp .Mult (.ref a) (.int k t)) R X.xe s:=λ{R} hh=>
  U3 (T := "tuple") (U := "int") (by decide) ⟨_,ho,rfl⟩ (λs'=>UD s' k t) zhj F.fills_int_mul JF zma Vl.lookup
   (Ut JF (UD s k t) Vm (YV _ _) (zjt k t a its.toArray n dd sl) ⟨ho,rfl,⟨_,ho,rfl⟩,hh⟩)
 by_cases hc:xs = []\/k=1
 .refine go (Ut ZY ⟨_,ho,rfl⟩ Ya (JU _ _) (zi5 a its.toArray n dd sl k t hr ?_) ⟨ho,⟨.ref a,H,I,rfl,q1 hc⟩⟩);rcases hc with e|e
  .rw[nil.mpr e];rfl
  .rw[e];simp
 .have hx:xs≠[]:=λe=>hc (.inl e);have hk:k≠1:=λe=>hc (.inr e)
  have hne:its.toArray.isEmpty=false:=by
   cases e:its.toArray.isEmpty with
   | false=>rfl
   | true=>exact absurd (nil.mp e) hx
  have hb:¬(its.toArray.isEmpty || k == 1)=true:=by rw[hne];simp[hk]
  by_cases h0:k<=0
  .refine go (Ut ZY ⟨_,ho,rfl⟩ Ya (JU _ _) (zjd a its.toArray n dd sl k t hr hb (by rw[Gq h0];rfl)) ⟨ho,?_⟩);have e0:k.toNat=0:=by lia
   have q:=q2 hc s.heap.objs.size (I.hok.fresh (Qe _));rw[e0] at q;exact⟨.ref s.heap.objs.size,_,I.laid (t':=s.toks) (o:=.tup []) (λb ob q=>Qg _ q) (Qe _) ⟨QC _,_,.nil,YC _ _⟩,rfl,q⟩
  .have hsz:(its.toArray.size:Int) * k=((xs.length * k.toNat:Nat):Int):=by
    rw[Qq,<- hlen];rw[Vt]
    congr 1
    lia
   have hnew:J7 (λx1 x2=>x1++x2) #[] (Qh k.toNat its.toArray)=(Qh k.toNat its).flatten.toArray:=by
    have:=zfv its k.toNat [];rw[Jj] at this;exact this
   have sz:=VP;refine go (Ut ZY ⟨_,ho,rfl⟩ Ya (JU _ _) (zi1 a its.toArray n dd sl k t hr hb (by rw[hne,Gp h0];exact Qo) (by rw[hsz];lia) (by rw[hsz];unfold JT;rw[Gp (by lia)];exact Qo) (by rw[hnew,Qq,zg5,<- hlen,Jw];exact hz)) ⟨ho,?_⟩);rw[hnew];exact⟨.ref s.heap.objs.size,_,I.laid (t':=s.toks) (o:=.tup (Qh k.toNat xs).flatten) (λb ob q=>Qg _ q) (Qe _) ⟨by rw[zg5,Jw];exact hz,_,r1.rep k.toNat,YC _ _⟩,rfl,q2 hc _ (I.hok.fresh (Qe _))⟩
def zvf:R2:=λx y H Q=>∃i k,x = .str i/\y = .int k/\-(2 ^ 63)<=k/\k<2 ^ 63/\i.length * k.toNat<=sizeLine/\Q (.str (tx (Qh k.toNat i.cps.toList).flatten)) H
theorem zih(w:List Nat):∀(k:Nat) (acc:List Nat),J7 (λx1 x2=>x1++x2) acc.toArray (Qh k w.toArray)=(acc++(Qh k w).flatten).toArray
 | 0,acc=>by simp
 | k+1,acc=>by
   rw[Zd,Z9,List.append_toArray,zih w k (acc++w),Zd,Zw,QZ]
theorem op_repS:OpR X (binaryOp .Mult) zvf:=by
 intro pins s σ H x y v u Q I rx ry h;obtain⟨i,k,rfl,rfl,h1,h2,hz,q⟩:=h;obtain⟨t,rfl⟩:=rx;obtain⟨t2,rfl⟩:=ry;have sz:=VP
 have hr:(decide (k < -(2 ^ 63:Int)) || decide (k ≥ 2 ^ 63))=false:=by
  rw[Gp (by lia),Gp (by lia)];rfl
 have hlen:i.length=i.cps.toList.length:=by simp[JS]
 have hnew:(⟨(Qh k.toNat i.cps).foldl (· ++ ·) #[]⟩:Str)=tx (Qh k.toNat i.cps.toList).flatten:=by
  have:=zih i.cps.toList k.toNat [];rw[Jj] at this;show Str.mk _=Str.mk _;rw[<- this]
 refine PySem.P.mul_str hr (λn1 nn=>?_) (λn1 nn=>?_) ?_
 .have hk:0<k.toNat:=by lia
  have h3:i.length<=sizeLine:=Q3 (Nat.le_mul_of_pos_right _ hk) hz;intro hh
  have h4:(i.length:Int) * k<=16777216:=by
   have:((i.length * k.toNat:Nat):Int)<=16777216:=by lia
   rwa [Vt,show((k.toNat:Nat):Int)=k by lia] at this
  have h5:=YL (Int.lt_mul_of_ediv_lt (by lia:(0:Int)<k) hh) h4;lia
 .unfold Builtin.Str.tooLong;exact Gp (by lia)
 .by_cases c1:k<1
  .rw[Gm c1];have e0:k.toNat=0:=by lia
   rw[e0] at q;exact⟨by decide,.str _,H,I.tok _,⟨_,rfl⟩,q⟩
  .rw[Gn c1]
   by_cases c2:(k == 1 || i.length == 0)=true
   .rw[Gm c2]
    have e1:tx (Qh k.toNat i.cps.toList).flatten=i:=by
     rcases(Bool.or_eq_true _ _).mp c2 with e|e
     .have:k=1:=by simpa using e
      subst this;show tx ([i.cps.toList]:List (List Nat)).flatten=i;simp[tx]
     .have e:i.length=0:=by simpa using e
      have e2:i.cps.toList = []:=Zu (by lia);rw[e2];have:(Qh k.toNat ([]:List Nat)).flatten = []:=by simp
      rw[this];have e3:i.cps = #[]:=Yj.mp e2;cases i
      simp_all [tx]
    rw[e1] at q;exact⟨.str i,H,I,⟨_,rfl⟩,q⟩
   .rw[Gn c2];refine⟨?_,.str _,H,I.tok _,⟨_,rfl⟩,?_⟩
    .show JS _<=sizeLine;rw[hnew,zgb,zg5,Jw,<- hlen];exact hz
    .show Q (.str _) H;rw[hnew];exact q
end
def zu8(K:Qa):R2:=λx y H Q=>rI CMul (λi j=>.int (i * j)) x y H Q\/zvf x y H Q\/rRep x y H Q\/zv5 K x y H Q
theorem zwv: OpR X (binaryOp .Mult) (zu8 X.K):=op_mul.or (op_repS.or (op_rep.or zwf))
def mulD:VI->VI->(R->Prop)->Prop:=λd e Q=>∃k:Int,e = .int k/\-(2 ^ 63)<=k/\k<2 ^ 63/\match d with
 | .int i=>CMul i k/\Q (.o (.int (i * k)))
 | .str x=>x.length * k.toNat<=sizeLine/\Q (.o (.str (tx (Qh k.toNat x.cps.toList).flatten)))
 | .list ds=>ds.length * k.toNat<=sizeLine/\Q (.n (Qh k.toNat ds).flatten)
 | .tuple ds=>ds.length * k.toNat<=sizeLine/\Q (.o (.tuple (Qh k.toNat ds).flatten))
 | _=>False
section
variable {K:Qa}{O:Ob}{F:Addr->Prop}{H:Hp}
theorem zf8(h:IsAll K F H xs ds):∀k:Nat,IsAll K F H (Qh k xs).flatten (Qh k ds).flatten
 | 0=>.nil
 | k+1=>by
   rw[Zd,Zd,Zw,Zw];exact h.append (zf8 h k)
theorem ztf:OpD K O (zu8 K) mulD:=λH x y d e Q Qd ok p ix iy ⟨k,he,h1,h2,q⟩ kk=>by
 subst he;cases iy
 cases ix with
 | int i=>exact .inl ⟨_,_,rfl,rfl,q.1,kk _ H (.o _) (.refl _ _) (Is.int _) q.2⟩
 | str x=>exact .inr (.inl ⟨_,_,rfl,rfl,h1,h2,q.1,kk _ H (.o _) (.refl _ _) (Is.str _) q.2⟩)
 | list f1 h3 s1=>
   refine .inr (.inr (.inl ⟨_,_,_,rfl,rfl,h3,h1,h2,by rw[s1.length];exact q.1,λp' hp=>?_⟩));obtain⟨a1,a2⟩:=zhh ok hp (zf8 s1 k.toNat);exact kk _ _ _ a1 a2 q.2
 | tuple h3 s1=>
   refine .inr (.inr (.inr ⟨_,_,_,rfl,rfl,h3,h1,h2,by rw[s1.length];exact q.1,λhc=>?_,λhc p' hp=>?_⟩))
   .rcases hc with e|e
    .subst e;cases s1;have e2:(Qh k.toNat ([]:List VI)).flatten = []:=by simp
     have q2:=q.2;rw[e2] at q2;exact kk _ H (.o _) (.refl _ _) (Is.tuple h3 .nil) q2
    .subst e;have q2:=q.2;have e2:∀ds:List VI,(Qh (1:Int).toNat ds).flatten=ds:=λds=>by simp
     rw[e2] at q2;exact kk _ H (.o _) (.refl _ _) (Is.tuple h3 s1) q2
   .obtain⟨a1,a2⟩:=zgz ok hp (zf8 s1 k.toNat);exact kk _ _ _ a1 a2 q.2
 | _=>exact q.elim
end
theorem zy3{ι κ:Type}{P:VO}{w:VR}{K:Qa}{mg:Str->Option VJ}{base:Heap}{k:Nat}{X:ι->Cx}{O:κ->Ob}{a b:Expr}{fa fb:DE}{pos:Pos}(C:Ctx3 P w K mg base k X)(ha:E3 K X O a fa)(hb:E3 K X O b fb):E3 K X O (.BinOp a .Mult b pos) (opDE mulD fa fb):=e_op (λi=>by have h:=zwv (X:=X i);rw[C.hK] at h;exact h) (λ_=>ztf) ha hb
theorem zsq{α:Type}{enc:α->VI}{g:DG}{fe:DE}{ρ:DSt}{Q:List VI->Prop}{as:List α}{e:α->VI}{h:Nat}(step:∀a∈as,∀P:R->Prop,(∀r,r.d=e a->P r)->g (enc a) (Qh h none++ρ) λρ2=>if true=true then fe ρ2 P else False)(mg:∀d ρ (P P':DSt->Prop),(∀ρ,P ρ->P' ρ)->g d ρ P->g d ρ P')(hz:as.length<=sizeLine)(q:Q (as.map e)):
 zau h g yesD fe ρ Q (as.map enc) []:=by
 have key:∀(l:List α) (acc:List VI),(∀a∈l,a∈as)->acc.length+l.length<=sizeLine->Q (acc++l.map e)->zau h g yesD fe ρ Q (l.map enc) acc:=by
  intro l
  induction l with
  | nil=>intro acc _ _ q;show Q acc;simpa using q
  | cons a l ih=>
    intro acc hs hz q;rw[Qs] at hz;refine mg _ _ _ _ (λρ2 z=>?_) (step a (hs a Qm) (λr=>acc.length<sizeLine/\zau h g yesD fe ρ Q (l.map enc) (acc ++ [r.d])) λr hr=>⟨by lia,?_⟩)
    .rw[Gm rfl] at z;exact iteT (B:=zau h g yesD fe ρ Q (l.map enc) acc) z
    .rw[hr];exact ih (acc ++ [e a]) (λx hx=>hs x (Qc _ hx)) (by rw[Qi];simp;lia) (by simpa using q)
 exact key as [] (λ_ h=>h) (by simpa using hz) (by simpa using q)
theorem zx2{is:List Nat}:∀d ρ (P P':DSt->Prop),(∀ρ,P ρ->P' ρ)->gT is d ρ P->gT is d ρ P':=by
 have key:∀(is:List Nat) (ds:List VI) ρ (P P':DSt->Prop),(∀ρ,P ρ->P' ρ)->gTD is ds ρ P->gTD is ds ρ P':=by
  intro is
  induction is with
  | nil=>intro ds ρ P P' h z;cases ds with
    | nil=>exact h _ z
    | cons _ _=>exact z.elim
  | cons i is ih=>intro ds ρ P P' h z;cases ds with
    | nil=>exact z.elim
    | cons d ds=>exact ih ds _ P P' h z
 exact λd ρ P P' h ⟨ds,e,z⟩=>⟨ds,e,key _ _ _ _ _ h z⟩
theorem zui{α β:Type}{enc:α->VI}{enc2:β->VI}{good:β->Prop}{i h:Nat}{fe:DE}{ρ:DSt}{Q:List VI->Prop}{as:List α}
 (step:∀a∈as,∀(Py:VI->Prop),(∀b,good b->Py (enc2 b))->fe ((Qh h none++ρ).set i (some (.im (enc a)))) (λr=>Py r.d))
 (hz:as.length<=1000) (q:∀bs:List β,(∀b∈bs,good b)->bs.length=as.length->Q (bs.map enc2)):zau h (gN i) yesD fe ρ Q (as.map enc) []:=by
 have sz:=VP
 have key:∀(l:List α) (bs:List β),(∀a∈l,a∈as)->(∀b∈bs,good b)->bs.length+l.length=as.length->zau h (gN i) yesD fe ρ Q (l.map enc) (bs.map enc2):=by
  intro l
  induction l with
  | nil=>intro bs _ hb hl;exact q bs hb hl
  | cons a l ih=>
    intro bs hs hb hl;rw[Qs] at hl;refine step a (hs a Qm) (λd=>(bs.map enc2).length<sizeLine/\zau h (gN i) yesD fe ρ Q (l.map enc) (bs.map enc2 ++ [d])) λb gb=>⟨by rw[Qb];lia,?_⟩;have:=ih (bs ++ [b]) (λx hx=>hs x (Qc _ hx)) (λx hx=>by rcases Q9.mp hx with hx|hx;(exact hb x hx);(rw[Qn.mp hx];exact gb)) (by rw[Qi];simp;lia);rwa [Q6] at this
 exact key as [] (λ_ h=>h) (by simp) (by simp)
def truB:VI->Option Bool
 | .none=>some false
 | .bool b=>some b
 | .int i=>some (i != 0)
 | .str x=>if x.length<=sizeLine then some ((x.length:Int) != 0) else none
 | .list ds=>some (!ds.isEmpty)
 | .tuple ds=>some (!ds.isEmpty)
 | _=>none
def truD(f:DE):DT:=λρ Q=>f ρ λr=>∃b,truB r.d=some b/\Q b
section
variable {K:Qa}{O:Ob}
theorem zhb(h:IsAll K F H xs ds):xs.isEmpty=ds.isEmpty:=by
 cases h <;> rfl
theorem zy0{t:TE}(h:ED K O t f):TD K O (λσ H Q=>t σ H λx H'=>∃k,TruV K x H' k/\Q k H') (truD f):=λσ H ρ Q Qd S hf k=>by
 refine h σ H ρ _ _ S hf λv H1 r s1 o1 zz=>?_;obtain⟨b,e,q⟩:=zz;have iv:=o1.is S.ok S.p;refine⟨b,?_,k b H1 s1 q⟩;generalize r.d=d at iv e
 cases iv with
 | none=>cases e;rfl
 | bool b=>cases e;rfl
 | int i=>cases e;rfl
 | str x=>
   have e:(if x.length<=sizeLine then some ((x.length:Int) != 0) else none)=some b:=e
   by_cases hl:x.length<=sizeLine
   .rw[Gm hl] at e;cases e;exact⟨hl,rfl⟩
   .rw[Gn hl] at e;cases e
 | list f1 h1 s1=>cases e;exact .inl ⟨_,.of h1,by rw[zhb s1]⟩
 | tuple h1 s1=>cases e;exact .inr (.inl ⟨_,h1,by rw[zhb s1]⟩)
end
section
variable {ι κ:Type}{P:VO}{w:VR}{K:Qa}{mg:Str->Option VJ}{base:Heap}{k:Nat}{X:ι->Cx}{O:κ->Ob}{a b:Expr}{fa:DE}{pos p:Pos}{ga:DA}
theorem zv1(C:Ctx3 P w K mg base k X)(ha:E3 K X O a fa)(he:∀i whole,isTrue a (X i).env whole=(do let v <- whole;standAt a.pos;holding [v] (truthy v)):=by intro _ _;rfl):T3 K X O a (truD fa):=let ⟨_,q,d⟩:=ha;
 ⟨_,λi=>by have h:=zti (X:=X i) (q i) (he i);rw[C.hK] at h;exact h,λj=>zy0 (d j)⟩
theorem zwo{X:Cx}:MtR X "list.pop" rPop:=λpins s σ H x xs v us Q I rx rv h=>zzx pins s σ H x xs v us Q I rx rv h
end
section
variable {K:Qa}{O:Ob}
def z2d:List VI->Option R
 | [.int i,.int j]=>some (.o (.int (if j > i then j else i)))
 | _=>none
def zk5:List VI->Option R
 | [.int i,.int j]=>some (.o (.int (if j<i then j else i)))
 | _=>none
theorem zry{d:VI}(h:IsAll K F H vs [d,e]):∃v w,vs = [v,w]/\Is K F H v d/\Is K F H w e:=by
 cases h with
 | cons h1 h2=>cases h2 with
   | cons h3 h4=>cases h4;exact⟨_,_,rfl,h1,h3⟩
theorem zw4:zdv K O (λxs H Q=>∃i j,xs = [.int i,.int j]/\Q (.int (if j<i then j else i)) H) (fn1 zk5):=λH vs ds Q Qd ok p is ⟨r,hr,q⟩ k=>by
 unfold zk5 at hr
 split at hr
 .cases hr;obtain⟨v,w,rfl,i1,i2⟩:=zry is;cases i1;cases i2;exact⟨_,_,rfl,k _ H (.o _) (.refl _ _) (Is.int _) q⟩
 .cases hr
end
section
variable {ι κ:Type}{P:VO}{w:VR}{K:Qa}{mg:Str->Option VJ}{base:Heap}{k:Nat}{X:ι->Cx}{O:κ->Ob}{a b:Expr}{fa fb:DE}{pos p:Pos}{ga:DA}
theorem zz2:VS "max" = some (.builtin "max"):=by decide +kernel
theorem z0b(C:Ctx3 P w K mg base k X)(B:Blt mg)(ha:A3 K X O [a,b] ga)(hg:∀i,Gl (X i) "min" := by intro i;rfl)(he:∀i,VM [a,b] (X i).env=(false,eval a (X i).env)::VM [b] (X i).env:=by intro i;rfl)(hpl:∀i,(Ui pos (VM [b] (X i).env)).any (·.1)=false:=by intro i;rfl):E3 K X O (.Call (.Name "min" p) [a,b] [] pos) (zc3 (fn1 zk5) ga) :=
 zlf C (λi=>zro (C.calm i)) (λ_=>zw4) zzg B.min ha hg (by decide) (by decide) he hpl
end
namespace RV
theorem zj0:UR (.type "list_reverseiterator") "__len__" = pure none:=by rw[typeLookup_type,UG];kernel_rfl
theorem zl8:UR (.type "list_reverseiterator") "__length_hint__" = pure (some (.builtin "list_reverseiterator.__length_hint__")):=by rw[typeLookup_type,UG];kernel_rfl
theorem zf3:isSubtype (.type "list_reverseiterator") (.type "list_reverseiterator")=pure true:=by rw[isSubtype_type];kernel_rfl
theorem zpa:splitId "list_reverseiterator.__length_hint__" = some ("list_reverseiterator", "__length_hint__"):=by decide +kernel
theorem zxa{prog:VO}(t:s.TypeIs (.ref it) "list_reverseiterator")(q:Q false s):wpAny (model prog w) A (JL (.ref it)) Q E s:=by
 have sp:=zpa;unfold JL;refine VL (U1 t zj0 (VL (U1 t zl8 ?_)));revert sp;generalize z:("list_reverseiterator.__length_hint__" : String)=nm;intro sp;dsimp only;rw[sp];subst z;exact VL (wpAny_isInstance (b:=true) t zf3 (VQ q))
theorem list_of_rev{prog:VO}{items:Array VJ}(hh:A.handled=none)(hr:s.heap.IsRevIter it l ((items.size:Int)-1))(hl:s.heap.IsList l items)(hne:l≠it)(hz:items.size<=sizeLine)
 (q:∀h' t' vs c,(∀b o,b≠it->s.heap.get? b=some o->h'.get? b=some o)->h'.get? s.heap.objs.size=some { cls:=.type "list",dict:=none,data:=.seq vs c,slots:=#[] }->ItemsOf (λi v=>items[items.size-1-i]? = some v) vs items.size->Q (.ref s.heap.objs.size) { s with heap:=h',toks:=t' }) :
 wpAny (model prog w) A (call (.type "list") [.ref it]) Q E s:=by
 have W:=(Walks.listRev (prog:=prog) (w:=w) (A:=A.in1.in1) hh it l hne items).toS
 have new:∀b o,s.heap.get? b=some o->b≠s.heap.objs.size:=λb o e z=>by
  subst z;rw[Heap.get?] at e;simp at e
 refine callType_codes (Q₁:=λv s1=>v = .ref s.heap.objs.size/\s1 = { s with heap:=s.heap.push { cls:=.type "list",data:=.seq #[] } }) F.called_list (F.typeCall_list_1 _) F.entry_list_init (code_list_new _ ⟨rfl,rfl⟩) ?_;rintro _ _ ⟨rfl,rfl⟩;refine⟨⟨_,Qv _ rfl,rfl⟩,F.args_list_init_2 _ _,?_⟩;obtain⟨o,ho,hc,hd⟩:=id hr;have nI:s.heap.objs.size≠it:=λz=>new it _ ho z.symm;have same:Yb (.ref s.heap.objs.size) (.ref it)=false:=by simp[Yb,nI]
 have t1:Jm "list_reverseiterator" ≠ Jm "list" := by decide
 have eS:(s.heap.push { cls:=.type "list",data:=.seq #[] }).get? s.heap.objs.size=some { cls:=.type "list",data:=.seq #[] }:=Qv _ rfl;have eI:=Qg { cls:=.type "list",data:=.seq (#[]:Array VJ) } ho;have a1:=zj0;have a2:=zl8;have a3:=zf3;obtain⟨hp,g,dr,tk,os⟩:=s
 have eI2:(((hp.push { cls:=.type "list",data:=.seq #[] }).update hp.objs.size (J8 λ_=>(#[]:Array VJ))).get? it)=some o:=by
  rw[ZM _ _ nI];exact eI
 have eS2:=Y2 (J8 (λ_=>(#[]:Array VJ))) eS rfl;have hr2:((hp.push { cls:=.type "list",data:=.seq #[] }).update hp.objs.size (J8 λ_=>(#[]:Array VJ))).IsRevIter it l ((items.size:Int)-1):=⟨o,eI2,hc,hd⟩;have hT:Shared.TypeIs ⟨((hp.push { cls:=.type "list",data:=.seq #[] }).update hp.objs.size (J8 λ_=>(#[]:Array VJ))),g,dr,tk,os⟩ (.ref it) "list_reverseiterator" := ⟨o,eI2,hc⟩;unfold Builtin.«list.__init__»
 wp_walk using wpAny_pyIter_revIter hr2,UE hT,zxa hT
 have hl2:((hp.push { cls:=.type "list",data:=.seq #[] }).update hp.objs.size (J8 λ_=>(#[]:Array VJ))).IsList l items:=by
  obtain⟨ol,h1,h2⟩:=hl;refine⟨ol,?_,h2⟩;rw[ZM _ _ (λz=>new l _ h1 z.symm)];exact Qg _ h1
 have hS:hp.objs.size ∉ [it,l]:=λz=>by
  obtain⟨ol,h1,_⟩:=hl;rcases Q1.mp z with z|z
  .exact nI z
  .exact new l _ h1 (Qn.mp z).symm
 refine⟨plainId_quiet F.plain_extend_loop _,codeAny_extend_loopS W hz _ hS _ items.size 0 _ _ _ rfl (QC _) ⟨QC _,by simpa using hr2,hl2⟩ eS2 (ItemsOf.nil _) λs' vs c m e is=>⟨rfl,?_⟩⟩;obtain⟨hp',g',dr',tk',os'⟩:=s';obtain⟨m1,m2,m3,m4,m5⟩:=m;have m2:g'=g:=m2;have m3:dr'=dr:=m3;have m4:os'=os:=m4;subst m2 m3 m4;refine q hp' tk' vs c (λb ob hb eb=>m1 b ob (λz=>?_) ?_) e is
 .rcases Q1.mp z with z|z
  .exact new b _ eb z
  .exact hb (Qn.mp z)
 .show((hp.push _).update _ _).get? b=_;rw[ZM _ _ (λz=>new b _ eb z.symm)];exact Qg _ eb
theorem items_rev{its:List VJ}{vs:Array VJ}(h:ItemsOf (λi v=>its.toArray[its.toArray.size-1-i]? = some v) vs its.toArray.size):vs=its.reverse.toArray:=by
 obtain⟨h1,h2⟩:=h;apply Array.ext';apply YW;intro i
 by_cases hi:i<vs.size
 .have e:vs.toList[i]? = some vs[i]:=by simp[hi]
  have e2:=h2 i vs[i] (by simp[hi]);rw[e,<- e2];simp at h1 e2 ⊢;rw[List.getElem?_reverse (by lia)]
 .rw[QI (by simpa using hi)];symm;apply QI;simp at h1 ⊢;lia
end RV
def tLR(K:Qa)(te:TE):TE:=λσ H Q=>te σ H λv H1=>∃a xs,v = .ref a/\SqL K H1 a xs/\∀p,H1 p=none->Q (.ref p) (upd H1 p (.lst xs.reverse))
theorem zpg(calm:X.A.handled=none)(gl:Gl X "list")(ml:X.mg "list" = none)(gr:Gl X "reversed")(mr:X.mg "reversed" = none)(he:PE X e te)
 (s1:VM [.Call (.Name "reversed" p2) [e] [] p3] X.env=(false,eval (.Call (.Name "reversed" p2) [e] [] p3) X.env)::VM [] X.env:=by rfl) (s2:VM [e] X.env=(false,eval e X.env)::VM [] X.env:=by rfl) :
 PE X (.Call (.Name "list" p1) [.Call (.Name "reversed" p2) [e] [] p3] [] p4) (tLR X.K te):=by
 intro pins s σ H Q I h;refine Ue (zcn I gl ml (u:=.type "list") rfl ?_);refine QQ ?_ s1;rw[s1];show wpAny _ _ (UW ((false,eval (.Call (.Name "reversed" p2) [e] [] p3) X.env) :: [])) _ _ s;refine Zm ?_;refine Ue (zcn I gr mr (u:=.type "reversed") rfl ?_);refine QQ ?_ s2;rw[s2];show wpAny _ _ (UW ((false,eval e X.env) :: [])) _ _ s;refine Zm (thn (he pins s σ H _ I h) λu s' zz=>?_);obtain⟨y,H1,I1,r1,a,xs,ey,hq,q⟩:=zz;subst ey;cases r1;refine ZA ?_;obtain⟨its,rv,pl,hz⟩:=I1.list hq;have hlen:=rv.length;have isl:=pl.isList;refine call_reversed_list isl ?_;refine ZA ?_
 have new:a≠s'.heap.objs.size:=λz=>by
  obtain⟨o,ho,_⟩:=isl;exact QY _ (z ▸ Qt ho)
 have isl2:(s'.heap.push (revObj a ((its.toArray.size:Int)-1))).IsList a its.toArray:=isl.push _;refine RV.list_of_rev (s:={ s' with heap:=s'.heap.push (revObj a ((its.toArray.size:Int)-1)) }) calm ⟨_,Qv _ rfl,rfl,rfl⟩ isl2 new (by simp;lia) λh' t' vs c kp e is=>?_;have ez:(s'.heap.push (revObj a ((its.toArray.size:Int)-1))).objs.size=s'.heap.objs.size+1:=QW ..;have ev:=RV.items_rev is;subst ev;have kp2:∀b o,s'.heap.get? b=some o->h'.get? b=some o:=λb o eb=>kp b o (λz=>QY _ (z ▸ Qt eb)) (Qg _ eb);have fr:H1 (s'.heap.objs.size+1)=none:=I1.hok.fresh (Jr _);dsimp only at e ⊢;rw[ez] at e ⊢;exact⟨.ref (s'.heap.objs.size+1),_,I1.laid (t':=t') kp2 (Jr _) (show ObjOk X.prog X.w _ h' _ (.lst xs.reverse) from⟨by rw[List.length_reverse];exact hz,its.reverse,c,rv.reverse,e⟩),rfl,q _ fr⟩
end L3
namespace L3
open PySem PySem.Spec
open PyProof.Rows hiding St
open L2
abbrev zct:Key:=.inr "seed"
abbrev kNum:Key:=.inr "number"
abbrev zdy:Key:=.inr "left"
def zbf(seed num:Int)(l:Addr):List (Key×V):=[(zct,.int seed),(kNum,.int num),(zdy,.ref l)]
def zh9(seed num:Int)(l:Addr):HO:=.dK (zbf seed num l)
theorem zul(s n:Int)(l:Addr):valV (zbf s n l) zct=some (.int s):=by simp[valV,zbf,Zs]
theorem zx3(s n:Int)(l:Addr):valV (zbf s n l) kNum=some (.int n):=by
 have h1:¬(zct=kNum):=by decide +kernel
 simp[valV,zbf,Zs,h1]
theorem ztm(s n:Int)(l:Addr):valV (zbf s n l) zdy=some (.ref l):=by
 have h1:¬(zct=zdy):=by decide +kernel
 have h2:¬(kNum=zdy):=by decide +kernel
 simp[valV,zbf,Zs,h1,h2]
theorem zt2(s n s':Int)(l:Addr):putK (zbf s n l) zct (.int s')=zbf s' n l:=by
 have h1:¬(kNum=zct):=by decide +kernel
 have h2:¬(zdy=zct):=by decide +kernel
 simp[putK,zbf,h1,h2]
theorem zxe(s n n':Int)(l:Addr):putK (zbf s n l) kNum (.int n')=zbf s n' l:=by
 have h1:¬(zct=kNum):=by decide +kernel
 have h2:¬(zdy=kNum):=by decide +kernel
 simp[putK,zbf,h1,h2]
structure DealAt(H:Hp)(a l:Addr)(seed num:Int)(ns:List Int):Prop where
 ne:a≠l
 ha:H a=some (zh9 seed num l)
 hl:H l=some (.lst (ns.map V.int))
 s0:0<=seed
 s1:seed<4294967296
 n0:0<=num
 ns0:∀n∈ns,0<=n
structure IsDeal(O:Ob):Prop where
 ex:∃a l,O.v = .ref a/\O.M a/\O.M l/\(∀H,O.P H->∃s n ns,DealAt H a l s n ns)/\∀H H' s n ns,O.P H->DealAt H' a l s n ns->(∀b,O.M b->b≠a->b≠l->H' b=H b)->O.P H'
theorem IsDeal.plus(h:IsDeal O)(D:Addr)(u:HO)(nm:¬O.M D):IsDeal (O.plus D u):=by
 obtain⟨a,l,hv,ma,ml,h1,h2⟩:=h.ex;have da:D≠a:=λe=>nm (e ▸ ma);have dl:D≠l:=λe=>nm (e ▸ ml);refine⟨a,l,hv,.inl ma,.inl ml,λH p=>h1 H p.1,λH H' s n ns p q k=>⟨h2 H H' s n ns p.1 q λb mb=>k b (.inl mb),?_⟩⟩;rw[k D (.inr rfl) da dl];exact p.2
theorem upD{κ:Type}{O:κ->Ob}(h:∀j,IsDeal (O j)):∀j,IsDeal (zia O j):=λj=>(h j.1.1).plus _ _ j.2
def zh2(a l:Addr):Ob:=⟨λb=>b=a\/b=l,λH=>∃s n ns,DealAt H a l s n ns,.ref a⟩
theorem zqw(a l:Addr):(zh2 a l).Ok:=by
 refine⟨λH H' e ⟨s,n,ns,p⟩=>⟨s,n,ns,p.ne,(e a (.inl rfl)).trans p.ha,(e l (.inr rfl)).trans p.hl,p.s0,p.s1,p.n0,p.ns0⟩,λH b o ⟨s,n,ns,p⟩ eb m=>?_,λH b ⟨s,n,ns,p⟩ m=>?_⟩
 .rcases m with rfl|rfl
  .rw[p.ha] at eb;cases eb;exact⟨λ_ z=>(by cases z),λ_ _ z=>(by cases z)⟩
  .rw[p.hl] at eb;cases eb;exact⟨λ_ z=>(by cases z),λ_ _ z=>(by cases z)⟩
 .rcases m with rfl|rfl
  .exact⟨_,p.ha⟩
  .exact⟨_,p.hl⟩
theorem zqp(a l:Addr):IsDeal (zh2 a l):=⟨a,l,rfl,.inl rfl,.inr rfl,λ_ p=>p,λ_ _ s n ns _ q _=>⟨s,n,ns,q⟩⟩
abbrev dAt(k:Str):TE:=zk4 (tVar 0) (tC (.str k))
def zzi(K:Qa):TS :=
 zfw (tAnd (zfm (tOp rEq (dAt "number") (tC (.int 0)))) (zfm (tOp (rI0 λi j=>.bl (decide (j<i))) (tCB (lenR K) (zaw (dAt "left") tNil)) (tC (.int 0)))))
  (ze1 (tVar 0) (tC (.str "number")) (tBM0 K "list" rPop (dAt "left")))
theorem zsd{s n:Int}(p:DealAt H a l s n ns)(hσ:σ[0]? = some (some (.ref a)))(q:Q (.int n) H):dAt "number" σ H Q :=
 ⟨_,hσ,a,_,rfl,.inl ⟨_,kNum,.inl p.ha,rfl,(zx3 s n l).symm⟩,q⟩
theorem zi3{s n:Int}(p:DealAt H a l s n ns)(hσ:σ[0]? = some (some (.ref a)))(q:Q (.int s) H):dAt "seed" σ H Q :=
 ⟨_,hσ,a,_,rfl,.inl ⟨_,zct,.inl p.ha,rfl,(zul s n l).symm⟩,q⟩
theorem zn8{s n:Int}(p:DealAt H a l s n ns)(hσ:σ[0]? = some (some (.ref a)))(q:Q (.ref l) H):dAt "left" σ H Q :=
 ⟨_,hσ,a,_,rfl,.inl ⟨_,zdy,.inl p.ha,rfl,(ztm s n l).symm⟩,q⟩
theorem zsc(s n:Int)(l:Addr):(zbf s n l).length<sizeLine:=by rw[VP];show 3<16777216;decide
theorem DealAt.setN{s n:Int}(p:DealAt H a l s n ns){n':Int}(h:0<=n'):DealAt (upd H a (zh9 s n' l)) a l s n' ns :=
 ⟨p.ne,zaf,by rw[zac (Zt p.ne)];exact p.hl,p.s0,p.s1,h,p.ns0⟩
theorem DealAt.setS{s n:Int}(p:DealAt H a l s n ns){s':Int}(h:0<=s')(h2:s'<4294967296):DealAt (upd H a (zh9 s' n l)) a l s' n ns :=
 ⟨p.ne,zaf,by rw[zac (Zt p.ne)];exact p.hl,h,h2,p.n0,p.ns0⟩
theorem zvo{s n:Int}(p:DealAt H a l s n ns)(n':Int):DPut H a (.str "number") (.int n') (upd H a (zh9 s n' l)) :=
 .inl ⟨_,kNum,p.ha,rfl,zsc s n l,by rw[zxe];rfl⟩
theorem z1c{s n:Int}(p:DealAt H a l s n ns)(s':Int):DPut H a (.str "seed") (.int s') (upd H a (zh9 s' n l)) :=
 .inl ⟨_,zct,p.ha,rfl,zsc s n l,by rw[zt2];rfl⟩
theorem zs0{s n s' n':Int}(ma:O.M a)(ml:O.M l)(h2:∀H H' s n ns,O.P H->DealAt H' a l s n ns->(∀b,O.M b->b≠a->b≠l->H' b=H b)->O.P H')(p:DealAt H a l s n ns)(p':DealAt H' a l s' n' ns')(st:PotStp a l H H'):Stp O H H':=by
 refine⟨λb o e nm=>?_,λpp=>h2 H H' _ _ _ pp p' λb _ h3 h4=>st.oth b h3 h4,λb u hu e=>?_⟩
 .rw[st.oth b (λz=>nm (z ▸ ma)) λz=>nm (z ▸ ml)];exact e
 .rw[st.oth b (λz=>?_) λz=>?_]
  .exact e
  .rw[z,p.ha] at e;cases e;obtain⟨xs,e1|⟨o,e1⟩⟩:=hu <;> cases e1
  .rw[z,p.hl] at e;cases e;obtain⟨xs,e1|⟨o,e1⟩⟩:=hu <;> cases e1
theorem upd2(H:Hp)(a:Addr)(x y:HO):upd (upd H a x) a y=upd H a y:=by
 funext b
 by_cases e:b=a
 .subst e;rw[zaf,zaf]
 .rw[zac e,zac e,zac e]
theorem ziv{K:Qa}{c:Addr}{ns:List Int}{σ:St}{H:Hp}{tf:TT}{te:TE}{G:Addr->Hp->Prop}(p:Int->Bool)(f:Int->Int)(hS:SqL K H c (ns.map V.int))(hz:ns.length<=63)
 (ht:∀n H' R,R (p n) H'->tf (some (.int n)::σ) H' R) (he:∀n H' R,R (V.int (f n)) H'->te (some (.int n)::σ) H' R)
 (q:∀D,H D=none->G D (upd H D (.lst (((ns.filter p).map f).map V.int)))) :
 ∀D,H D=none->∃W:Nat->Nat->List V->Hp->Prop,(∃m,W 0 m [] (upd H D (.lst [])))/\∀i m ys H',W i m ys H'->H' D=some (.lst ys)/\(((Itl K c).stop i H'/\G D H')\/((Itl K c).go i H'/\∀x H'',(Itl K c).yld i H' x H''->zap 0 x (Qh 1 none++σ) H'' λσ2 H2=>tf σ2 H2 λb H3=>
   if b=true then te σ2 H3 λy H4=>H4 D=some (.lst ys)/\ys.length<sizeLine/\∃m',m'<m/\W (i+1) m' (ys ++ [y]) (upd H4 D (.lst (ys ++ [y]))) else ∃m',m'<m/\W (i+1) m' ys H3)):=by
 intro D hD;have sz:=VP;refine⟨λi m ys H'=>m=ns.length-i/\i<=ns.length/\ys=(((ns.take i).filter p).map f).map V.int/\H'=upd H D (.lst ys),⟨_,rfl,QC _,rfl,rfl⟩,?_⟩;rintro i m ys H' ⟨rfl,hi,rfl,rfl⟩;refine⟨zaf,?_⟩;have hS':=(L3.same_new hD (.lst ((((ns.take i).filter p).map f).map V.int))).seq hS
 by_cases lt:i<ns.length
 .right;refine⟨⟨_,.int ns[i],hS',by rw[Qj,Qu lt];rfl⟩,λx H'' ⟨e,y⟩=>?_⟩;subst e;have ex:=y _ hS';rw[Qj,Qu lt] at ex;cases ex;show tf (some (.int ns[i])::σ) _ _
  have et:(ns.take (i+1)).filter p=(ns.take i).filter p++(if p ns[i]=true then[ns[i]] else[]):=by
   rw[List.take_succ_eq_append_getElem lt,YM,ZZ];rfl
  refine ht _ _ _ ?_
  by_cases cc:p ns[i]=true
  .rw[Gm cc] at et ⊢;have hlen:((ns.take i).filter p).length<=ns.length:=Q3 (Y3 _ _) (by rw[QT];lia);refine he _ _ _ ⟨zaf,by rw[Qb,Qb];lia,ns.length-(i+1),by lia,rfl,lt,?_,upd2 _ _ _ _⟩;rw[et,Q6,Q6];rfl
  .rw[Gn cc] at et ⊢;rw[QJ] at et;exact⟨ns.length-(i+1),by lia,rfl,lt,by rw[et],rfl⟩
 .left;have e:i=ns.length:=by lia
  subst e;refine⟨⟨_,hS',by rw[Qb];exact Qe _⟩,?_⟩;rw[QX];exact q D hD
abbrev zuv:List V->Hp->VK->Prop:=λxs H Q=>∃i j,xs = [.int i,.int j]/\Q (.int (if j > i then j else i)) H
def zh0(K:Qa):Sp:=λvs H Q _=>∃(a:Addr) (ns:List Int),vs = [.ref a,.int 0]/\SqL K H a (ns.map V.int)/\ns.length<=63/\∀p l s left H',H p=none->H l=none->Same H H'->DealAt H' p l s 0 left->Q (.ref p) H'
structure DC where
 (cb cc ce m2 m3 m4:Int)
structure DC.Ok(c:DC):Prop where
 (cc:-(2 ^ 64)<c.cc/\c.cc<2 ^ 64) 
 (m2:0<c.m2/\c.m2<4294967296)
 (m3:0<c.m3/\c.m3<4294967296)
 (m4:0<c.m4/\c.m4<4294967296)
def zjk(K:Qa)(c:DC):TS :=
 tSeq (tAsg (dAt "number") (zap 2))
 (tSeq (tIfS (zfm (tOp (rI0 λi j=>.bl (decide (j<i))) (tVar 2) (tC (.int 0))))
  (tSeq (ze1 (tVar 0) (tC (.str "number")) (tOp (rI CDiv λi j=>.int (i / j)) (tVar 2) (tVar 1))) (tRet (tOp (rI (λ_ j=>0<j) λi j=>.int (i % j)) (tVar 2) (tVar 1)))) zgv)
 (tSeq (tAsg (tOp (rI (λ_ j=>0<j) λi j=>.int (i % j)) (tOp (rI0 λi j=>.int (i+j)) (tOp (rI CMul λi j=>.int (i * j)) (dAt "seed") (tC (.int 48271))) (tC (.int c.cb))) (tC (.int 2147483647))) (zap 3))
 (tSeq (ze1 (tVar 0) (tC (.str "seed")) (tOp (rI (λ_ j=>0<j) λi j=>.int (i % j)) (tOp (rI0 λi j=>.int (i+j)) (tOp (rI CMul λi j=>.int (i * j)) (tVar 3) (tC (.int c.cc))) (tC (.int c.ce))) (tC (.int c.m2))))
 (tSeq (tAsg (tOp (rI (λ_ j=>0<j) λi j=>.int (i % j)) (tOp (rI CMul λi j=>.int (i * j)) (dAt "seed") (dAt "seed")) (tC (.int c.m3))) (zap 4))
 (tRet (tOp (rI (λ_ j=>0<j) λi j=>.int (i % j)) (tOp (rI0 λi j=>.int (i+j)) (tOp (rI CMul λi j=>.int (i * j)) (tOp (rI (λ_ j=>0<j) λi j=>.int (i % j)) (tOp (rI CMul λi j=>.int (i * j)) (tVar 3) (tVar 3)) (tC (.int c.m4))) (tC (.int c.m3))) (tVar 4)) (tVar 1)))))))
def zjn(K:Qa)(c:DC):TS:=tSeq (zzi K) (zjk K c)
theorem zrb{K:Qa}{c:DC}(hc:c.Ok){H:Hp}{a l:Addr}{s n:Int}{ns:List Int}{m:Int}{D:Ends}(p:DealAt H a l s n ns)(m0:0<m)(m1:m<1073741824)
 (q:∀k H' s' n' ns',0<=k->k<m->DealAt H' a l s' n' ns'->PotStp a l H H'->D.rt (.int k) H'):zjk K c D [some (.ref a),some (.int m),none,none,none] H:=by
 refine zsd p rfl ?_;refine⟨_,rfl,n,0,rfl,rfl,_,rfl,?_⟩;refine ite2 (λ_=>?_) (λ_=>?_)
 .refine⟨_,rfl,_,rfl,n,m,rfl,rfl,⟨m0,m1⟩,?_⟩;refine⟨_,rfl,a,_,rfl,zvo p _,?_⟩;exact⟨_,rfl,_,rfl,n,m,rfl,rfl,m0,q _ _ s _ ns (ZO _ (by lia)) (Z3 _ m0) (p.setN (Int.ediv_nonneg p.n0 (by lia))) (.upA _)⟩
 .have s0:=p.s0;have s1:=p.s1;refine zi3 p rfl ?_;refine⟨s,48271,rfl,rfl,.inl ⟨by lia,by lia⟩,?_⟩;refine⟨_,_,rfl,rfl,_,_,rfl,rfl,(show(0:Int)<2147483647 by decide),?_⟩;dsimp only;have e0:0<=(s * 48271+c.cb) % 2147483647:=ZO _ (by decide);have e1:(s * 48271+c.cb) % 2147483647<2147483647:=Z3 _ (by decide);generalize (s * 48271+c.cb) % 2147483647=one at e0 e1;have hm2:=hc.m2;have hm3:=hc.m3;have hm4:=hc.m4;refine⟨_,rfl,one,c.cc,rfl,rfl,.inl ⟨by lia,by lia⟩,?_⟩;refine⟨_,_,rfl,rfl,_,_,rfl,rfl,hm2.1,?_⟩;dsimp only;have f0:0<=(one * c.cc+c.ce) % c.m2:=ZO _ (by lia);have f1:(one * c.cc+c.ce) % c.m2<c.m2:=Z3 _ hm2.1;generalize (one * c.cc+c.ce) % c.m2=sd at f0 f1;refine⟨_,rfl,a,_,rfl,z1c p _,?_⟩;have p2:=p.setS (s':=sd) (by lia) (by lia);refine zi3 p2 rfl (zi3 p2 rfl ?_);refine⟨sd,sd,rfl,rfl,.inl ⟨by lia,by lia⟩,_,_,rfl,rfl,hm3.1,?_⟩;have g0:0<=one * one % c.m4:=ZO _ (by lia);have g1:one * one % c.m4<c.m4:=Z3 _ hm4.1;refine⟨_,rfl,_,rfl,one,one,rfl,rfl,.inl ⟨by lia,by lia⟩,?_⟩;refine⟨_,_,rfl,rfl,hm4.1,_,_,rfl,rfl,.inl ⟨by lia,by lia⟩,?_⟩;refine⟨_,rfl,_,_,rfl,rfl,_,rfl,_,_,rfl,rfl,m0,?_⟩;exact q _ _ _ _ _ (ZO _ (by lia)) (Z3 _ m0) p2 (.upA _)
theorem zus{K:Qa}{dc:DC}(hc:dc.Ok){H:Hp}{a l:Addr}{s n:Int}{ns:List Int}{m:Int}{D:Ends}(p:DealAt H a l s n ns)(m0:0<m)(m1:m<1073741824)
 (q:∀k H' s' n' ns',0<=k->k<m->DealAt H' a l s' n' ns'->PotStp a l H H'->D.rt (.int k) H'):zjn K dc D [some (.ref a),some (.int m),none,none,none] H:=by
 refine⟨λc σ H'=>σ = [some (.ref a),some (.int m),none,none,none]/\∃s n ns,c=ns.length/\DealAt H' a l s n ns/\PotStp a l H H',⟨_,rfl,s,n,ns,rfl,p,.refl _ _ _⟩,?_⟩;rintro c σ H1 ⟨rfl,s,n,ns,rfl,p,st⟩;have out:zjk K dc D [some (.ref a),some (.int m),none,none,none] H1:=zrb hc p m0 m1 λk H' s' n' ns' h1 h2 h3 h4=>q k H' s' n' ns' h1 h2 h3 (st.trans h4);refine zsd p rfl ?_;refine⟨rfl,_,rfl,?_⟩;refine ite2 (λc=>?_) (λc=>iteF out);refine zn8 p rfl ?_;refine⟨_,_,rfl,.inl ⟨_,.of p.hl,rfl⟩,_,_,rfl,rfl,_,rfl,?_⟩;refine ite2 (λc2=>?_) (λc2=>out);have c3:=Go c2;have hne:ns≠[]:=λe=>by rw[e] at c3;simp at c3
 obtain⟨r,x,rfl⟩:∃r x,ns=r ++ [x]:=⟨ns.dropLast,ns.getLast hne,(List.dropLast_concat_getLast hne).symm⟩;refine⟨λσ' H'=>σ' = [some (.ref a),some (.int m),none,none,none]/\∃s n ns,ns.length<(r ++ [x]).length/\DealAt H' a l s n ns/\PotStp a l H H',λσ' H' ⟨e,s,n,ns,hl,h1,h2⟩=>⟨_,hl,e,s,n,ns,rfl,h1,h2⟩,?_⟩;refine zn8 p rfl ?_;have p1:DealAt (upd H1 l (.lst ((r ++ [x]).map V.int).dropLast)) a l s n r:=⟨p.ne,by rw[zac p.ne];exact p.ha,by rw[zaf,Q6];show some (HO.lst (List.dropLast (_ ++ [V.int x])))=_;rw[List.dropLast_concat],p.s0,p.s1,p.n0,λz hz=>p.ns0 z (ZU _ hz)⟩;refine⟨.inl ⟨rfl,_,.of p.hl⟩,l,_,.int x,rfl,rfl,p.hl,by simp,?_⟩;refine⟨_,rfl,a,_,rfl,zvo p1 x,rfl,s,x,r,by simp,p1.setN (p.ns0 x (by simp)),st.trans (PotStp.trans (.upL _) (.upA _))⟩
theorem znc{K:Qa}{c:DC}(hc:c.Ok){O:Ob}{H:Hp}{ds:List VI}{ws:List V}{Qr:R->Prop}{Q:VK}{x1 x2 x3 x4 x5:Str}(hφ:IsDeal O)(p:O.P H)(is:IsAll K (unM O) H ws ds)(q:zek ds Qr)(kk:∀r,Qr r->∀v H',Stp O H H'->Out K O H H' v r->Q v H'):
 zjn K c { nx:=λ_ H'=>Q .non H',rt:=Q } (L2.start [x1,x2,x3,x4,x5] (O.v::ws)) H:=by
 obtain⟨m,rfl,m0,m1,q⟩:=q;obtain⟨a,l,hv,ma,ml,h1,h2⟩:=hφ.ex;obtain⟨s,n,ns,pa⟩:=h1 H p;obtain⟨v,rfl,iv⟩:=zbs is;cases iv;rw[hv];exact zus hc pa m0 m1 λk H' s' n' ns' k0 k1 p' st=>kk _ (q k k0 k1) _ H' (zs0 ma ml h2 pa p' st) (Is.int k)
def zrw(K:Qa)(ti ts:TE):TS :=
 tSeq (tAsg (zfd 1 (zgs K (tSl (rSlL K) (tVar 0) (zle (tVar 1)) (zle (tC (.int 63))))) (zap 0) tYes (tCB zuv (zaw (tVar 0) (zaw (tOp (rI0 λi j=>.int (i-j)) (tC (.int 0)) (tVar 0)) tNil)))) (zap 2))
 (tSeq (tAsg ti (zap 3))
 (tSeq (tFor (zgs K (tVar 2)) (zap 4)
  (tAsg ts (zap 3)))
 (tRet (zp0 [(tC (.str "seed"),tVar 3),(tC (.str "number"),tC (.int 0)),(tC (.str "left"),tLR K (zfd 1 (zgs K (tVar 2)) (zap 0) (zfm (tOp (rI0 λi j=>.bl (decide (j<=i))) (tVar 0) (tOp (rI CPow λi j=>.int (i ^ j.toNat)) (tC (.int 10)) (tC (.int 18))))) (tVar 0)))]))))
theorem zo7{K:Qa}{ti ts:TE}{s0:Int}(hs0:0<=s0)(hs1:s0<4294967296)(hi:∀(v v1:V) H Q,Q (.int s0) H->ti [some v,some (.int 0),some v1,none,none] H Q)(hst:∀(v v1:V) (s n:Int) H Q,0<=s->s<4294967296->(∀s',0<=s'->s'<4294967296->Q (.int s') H)->ts [some v,some (.int 0),some v1,some (.int s),some (.int n)] H Q){H:Hp}{Q:VK}{a:Addr}{ns:List Int}(hS:SqL K H a (ns.map V.int))(hl:ns.length<=63)
 (q:∀p l s left H',H p=none->H l=none->Same H H'->DealAt H' p l s 0 left->Q (.ref p) H'):zrw K ti ts { nx:=λ_ H'=>Q .non H',rt:=Q } [some (.ref a),some (.int 0),none,none,none] H:=by
 have sL:=VP;refine⟨_,rfl,_,rfl,_,rfl,63,rfl,a,_,rfl,hS,λc hc=>?_⟩;rw[zs2]
 have hcl:(cutL ns (some 0) (some 63)).length<=63:=by
  unfold cutL;rw[QT,Zh];lia
 generalize cutL ns (some 0) (some 63)=cs at hcl;refine⟨c,rfl,⟨_,.of zaf⟩,?_⟩;have g1:Same H (upd H c (.lst (cs.map V.int))):=L3.same_new hc _;refine ziv (K:=K) (c:=c) (H:=upd H c (.lst (cs.map V.int))) (σ:=[some (.ref a),some (.int 0),none,none,none]) (tf:=tYes) (te:=tCB zuv (zaw (tVar 0) (zaw (tOp (rI0 λi j=>.int (i-j)) (tC (.int 0)) (tVar 0)) tNil))) (λ_=>true) (λn=>if 0-n > n then 0-n else n) (.of zaf) hcl (λn H' R r=>r) (λn H' R r=>⟨_,rfl,_,rfl,0,n,rfl,rfl,n,0-n,rfl,r⟩) λd hd=>?_;have hcs:cs.filter (λ_=>true)=cs:=List.filter_eq_self.mpr λ_ _=>rfl;rw[hcs]
 have habs:∀n∈cs.map (λn=>if 0-n > n then 0-n else n),0<=n:=λn hn=>by
  obtain⟨m,_,rfl⟩:=Q8.mp hn
  split <;> lia
 have hal:(cs.map (λn=>if 0-n > n then 0-n else n)).length<=63:=by rw[Qb];exact hcl
 generalize cs.map (λn=>if 0-n > n then 0-n else n)=es at habs hal;have g2:Same H (upd (upd H c (.lst (cs.map V.int))) d (.lst (es.map V.int))):=g1.trans (L3.same_new hd _);generalize eH:upd (upd H c (.lst (cs.map V.int))) d (.lst (es.map V.int))=H1 at g2;have hd1:H1 d=some (.lst (es.map V.int)):=by rw[<- eH];exact zaf
 refine hi _ _ _ _ ?_;refine⟨_,rfl,d,rfl,⟨_,.of hd1⟩,?_⟩;refine zst (xs:=es.map V.int) (λi σ H'=>∃(s:Int) (o:Option V),σ = [some (.ref a),some (.int 0),some (.ref d),some (.int s),o]/\0<=s/\s<4294967296/\H'=H1) ?_ ?_ ?_ ?_
 .exact⟨_,none,rfl,hs0,hs1,rfl⟩
 .rintro i σ H' hi ⟨s,o,rfl,h1,h2,rfl⟩;exact .of hd1
 .rintro i x σ H' hx ⟨s,o,rfl,h1,h2,rfl⟩;rw[Qj] at hx;obtain⟨n,hn,rfl⟩:=Qf.mp hx;exact hst _ _ s n _ _ h1 h2 λs' f0 f1=>⟨_,_,rfl,f0,f1,rfl⟩
 .rintro σ H' ⟨s,o,rfl,h1,h2,rfl⟩;intro p hp;have npd:p≠d:=λz=>by rw[z,hd1] at hp;cases hp
  refine⟨_,rfl,?_⟩;have hd2:upd H' p (.dK []) d=some (.lst (es.map V.int)):=by rw[zac (Zt npd)];exact hd1
  refine⟨_,rfl,d,rfl,⟨_,.of hd2⟩,?_⟩;refine ziv (tf:=zfm (tOp (rI0 λi j=>.bl (decide (j<=i))) (tVar 0) (tOp (rI CPow λi j=>.int (i ^ j.toNat)) (tC (.int 10)) (tC (.int 18))))) (te:=tVar 0) (λn=>decide ((10:Int) ^ (18:Int).toNat<=n)) (λn=>n) (.of hd2) hal (λn H' R r=>⟨_,rfl,10,18,rfl,rfl,⟨by decide,by decide,by decide⟩,_,_,rfl,rfl,_,rfl,r⟩) (λn H' R r=>⟨_,rfl,r⟩) λe he=>?_;rw[List.map_id'];have hfl:∀n∈es.filter (λn=>decide ((10:Int) ^ (18:Int).toNat<=n)),0<=n:=λn hn=>habs n (Jh.mp hn).1;generalize es.filter (λn=>decide ((10:Int) ^ (18:Int).toNat<=n))=left at hfl;have npe:p≠e:=λz=>by rw[<- z,zaf] at he;cases he
  refine⟨e,_,rfl,.of zaf,λl hln=>?_⟩
  have npl:p≠l:=λz=>by
   rw[<- z,zac npe,zaf] at hln;cases hln
  have nel:e≠l:=λz=>by rw[<- z,zaf] at hln;cases hln
  have hlp:upd H' p (.dK []) l=none:=by rw[zac (Zt nel)] at hln;exact hln
  have hlH:H' l=none:=by rw[zac (Zt npl)] at hlp;exact hlp
  refine⟨by rw[zac npl,zac npe];exact zaf,zbf s 0 l,rfl,by show 3<=15;decide,?_⟩
  have em:zd3 [] (zbf s 0 l)=zbf s 0 l:=by
   have a1:¬(zct=kNum):=by decide +kernel
   have a2:¬(zct=zdy):=by decide +kernel
   have a3:¬(kNum=zdy):=by decide +kernel
   simp[zd3,zbf,putK,a1,a2,a3]
  rw[em];have heH:H' e=none:=by rw[zac (Zt npe)] at he;exact he
  have hm:(left.map V.int).reverse=left.reverse.map V.int:=List.map_reverse.symm;rw[hm];refine q p l s left.reverse _ (g2.free hp) (g2.free hlH) (λb o eb=>?_) ⟨npl,zaf,?_,h1,h2,Int.le_refl 0,λn hn=>hfl n (List.mem_reverse.mp hn)⟩
  .have e1:=g2 b o eb;have n1:b≠p:=λz=>by rw[z,hp] at e1;cases e1
   have n2:b≠l:=λz=>by rw[z,hlH] at e1;cases e1
   have n3:b≠e:=λz=>by rw[z,heH] at e1;cases e1
   rw[zac n1,zac n2,zac n3,zac n1];exact e1
  .rw[zac (Zt npl)];exact zaf
def zej:List VI->(R->Prop)->Prop:=λds Q=>ds = []/\∀w:List Nat,1<=w.length->w.length<=3->(∀c∈w,zdx c)->w.Pairwise (· < ·)->Q (.n (w.map λc=>.str (sg c)))
def zf0(K:Qa)(drawSp:Sp):TS :=
 tSeq (tAsg (tCB zsb (zaw (tC (.str "abcdefghijklmnopqrstuvwxyz")) tNil)) (zap 1))
 (tRet (tCB zqd (zaw (zfd 1 (zpl (zaw (tOp (rI0 λi j=>.int (i+j)) (tC (.int 1)) (zbp drawSp [] E0 (zaw (tVar 0) (zaw (tC (.int 3)) tNil)))) tNil)) (zap 0) tYes (tBM K "list" zgd (tVar 2) (zaw (zbp drawSp [] E0 (zaw (tVar 1) (zaw (tCB (lenR K) (zaw (tVar 2) tNil)) tNil))) tNil))) tNil)))
theorem zk1{K:Qa}{φ:Ob->Prop}(hp:∀(O:Ob) (D:Addr) (u:HO),φ O->¬O.M D->φ (O.plus D u)){O:Ob}{H:Hp}{ds:List VI}{ws:List V}{Qr:R->Prop}{Q:VK}{x1 x2:Str}(ok:O.Ok)(hφ:φ O)(p:O.P H)(is:IsAll K (unM O) H ws ds)(q:zej ds Qr)(kk:∀r,Qr r->∀v H',Stp O H H'->Out K O H H' v r->Q v H'):
 zf0 K (spD K φ 1 zek) { nx:=λ_ H'=>Q .non H',rt:=Q } (L2.start [x1,x2] (O.v::ws)) H:=by
 obtain⟨rfl,q⟩:=q;cases is;have hsz:sizeLine=16777216:=VP;refine⟨_,rfl,by decide,λl hl=>?_⟩;have eabc:(Zf "abcdefghijklmnopqrstuvwxyz").cps.toList=abc:=by decide +kernel
 rw[eabc];have sl:Stp O H (upd H l (.lst (abc.map λc=>V.str (sg c)))):=.new ok hl _;have nMl:¬O.M l:=λmm=>by obtain⟨o,z⟩:=ok.here H l p mm;rw[hl] at z;cases z
 have al:∀b o,H b=some o->b≠l:=λb o e z=>by rw[z,hl] at e;cases e
 have okl:=ok.plus l (abc.map λc=>V.str (sg c));have hpl:φ (O.plus l (.lst (abc.map λc=>V.str (sg c)))):=hp _ l _ hφ nMl;have pl0:(O.plus l (.lst (abc.map λc=>V.str (sg c)))).P (upd H l (.lst (abc.map λc=>V.str (sg c)))):=⟨sl.p p,zaf⟩;refine⟨_,rfl,?_⟩;show spD K φ 1 zek ([O.v,V.int 3] ++ []) _ _ E0;refine⟨_,[.int 3],[.int 3],λx=>∃k:Int,x = .o (.int k)/\0<=k/\k<3,okl,hpl,pl0,rfl,rfl,.cons (.int _) .nil,⟨_,rfl,by lia,by lia,λk k0 k1=>⟨k,rfl,k0,k1⟩⟩,?_⟩;rintro _ ⟨k,rfl,k0,k1⟩ v H0 st0 o0;cases o0;obtain⟨p0,hl0⟩:=st0.p pl0;refine⟨_,_,rfl,rfl,?_⟩;obtain⟨m,em⟩:∃m:Int,m=1+k:=⟨_,rfl⟩;refine⟨m,by rw[em],by lia,by lia,λD hD=>?_⟩
 have kp0:∀b o,H b=some o->¬O.M b->H0 b=some o:=λb o e n=>st0.s b o (by rw[zac (al b o e)];exact e) λmm=>by
  rcases mm with mm|mm
  .exact n mm
  .exact al b o e mm
 have ts0:TupStay H H0:=λb u hu e=>st0.t b u hu (by rw[zac (al b u e)];exact e);have nlD:l≠D:=λz=>by rw[<- z,hl0] at hD;cases hD
 have nMD:¬O.M D:=λmm=>by obtain⟨o,z⟩:=ok.here H0 D p0 mm;rw[hD] at z;cases z
 have hDH:H D=none:=by
  cases e:H D with
  | none=>rfl
  | some o=>have:=kp0 D o e nMD;rw[hD] at this;cases this
 have aD:∀b o,H b=some o->b≠D:=λb o e z=>by rw[z,hDH] at e;cases e
 have pl:∀{H':Hp} {b:Addr} {o:HO},¬O.M b->O.P H'->O.P (upd H' b o):=λ{H' b o} nb pp=>ok.loc H' _ (λc mc=>zac λz=>nb (z ▸ mc)) pp
 refine⟨λi c ys H'=>c=m.toNat-i/\i<=m.toNat/\H' D=some (.lst ys)/\(∃w r:List Nat,ys=w.map (λc=>V.str (sg c))/\w.length=i/\(∀c∈w,zdx c)/\H' l=some (.lst (r.map λc=>V.str (sg c)))/\r.length+i=26/\(∀c∈r,zdx c)/\(w++r).Nodup) /\
  O.P H'/\(∀b o,H b=some o->¬O.M b->H' b=some o)/\TupStay H H',⟨_,rfl,QC _,zaf,⟨[],abc,rfl,rfl,by simp,by rw[zac nlD];exact hl0,rfl,by unfold zdx;decide,by decide⟩,pl nMD p0,λb o e n=>?_,λb u _ e=>?_⟩,?_⟩
 .rw[zac (aD b o e)];exact kp0 b o e n
 .rw[zac (aD b u e)];exact ts0 b u ‹_› e
 rintro i c ys H' ⟨rfl,hi,hDy,⟨w,r,rfl,hw,hwl,hr,hrl,hrc,hnd⟩,pp,kp,ts⟩;refine⟨hDy,?_⟩
 by_cases hlt:i<m.toNat
 .right;refine⟨hlt,λx H2 zz=>?_⟩;obtain⟨e2,_⟩:=zz;subst e2;have hr0:0<r.length:=by lia
  show tBM K "list" zgd (tVar 2) _ _ H2 _;refine⟨_,rfl,.inl ⟨rfl,_,.of hr⟩,_,rfl,?_⟩;refine⟨_,rfl,_,r.length,rfl,.inl ⟨_,.of hr,by rw[Qb]⟩,?_⟩;have okp:=(ok.plus D (w.map λc=>V.str (sg c))).plus l (r.map λc=>V.str (sg c))
  have nl2:¬(O.plus D (.lst (w.map λc=>V.str (sg c)))).M l:=λmm=>by
   rcases mm with mm|mm
   .exact nMl mm
   .exact nlD mm
  show spD K φ 1 zek ([O.v,V.int r.length] ++ []) H2 _ E0;refine⟨_,[.int r.length],[.int r.length],λx=>∃k:Int,x = .o (.int k)/\0<=k/\k<r.length,okp,hp _ l _ (hp _ D _ hφ nMD) nl2,⟨⟨pp,hDy⟩,hr⟩,rfl,rfl,.cons (.int _) .nil,⟨_,rfl,by lia,by lia,λk k0 k1=>⟨k,rfl,k0,k1⟩⟩,?_⟩;rintro _ ⟨k,rfl,k0,k1⟩ v H3 st o3;cases o3;obtain⟨⟨p3,hD3⟩,hl3⟩:=st.p ⟨⟨pp,hDy⟩,hr⟩;have hk:k.toNat<r.length:=by lia
  have ek:k=((k.toNat:Nat):Int):=by lia
  refine⟨l,_,k,k.toNat,V.str (sg r[k.toNat]),rfl,rfl,hl3,by lia,by lia,?_,by rw[Qj,Qu hk];rfl,?_⟩
  .rw[Qb];unfold UM;simp only[show ¬k<0 by lia,Gv]
   first|(rw[Gm (by lia)])|(simp;lia)|lia
  .have ne1:D≠l:=Zt nlD;refine⟨by rw[zac ne1];exact hD3,by rw[Qb];lia,m.toNat-(i+1),by lia,rfl,hlt,zaf,⟨w ++ [r[k.toNat]],r.eraseIdx k.toNat,by rw[Q6];rfl,by rw[Qi,hw];rfl,λc hc=>?_,?_,?_,λc hc=>hrc c (zm1 hc),?_⟩,pl nMD (pl nMl p3),λb o e n=>?_,λb u hu e=>?_⟩
   .rcases Q9.mp hc with hc|hc
    .exact hwl c hc
    .rw[Qn.mp hc];exact hrc _ (ZG hk)
   .rw[zac nlD,zaf,zj6]
   .rw[List.length_eraseIdx];rw[Gm hk];lia
   .rw[QZ];refine(List.Perm.nodup_iff (List.Perm.append_left w ?_)).mp hnd;exact(zko hk).symm
   .rw[zac (aD b o e),zac (al b o e)]
    exact st.s b o (kp b o e n) λmm=>by
     rcases mm with (mm|mm)|mm
     .exact n mm
     .exact aD b o e mm
     .exact al b o e mm
   .rw[zac (aD b u e),zac (al b u e)];exact st.t b u hu (ts b u hu e)
 .left;have e:i=m.toNat:=by lia
  refine⟨by show m.toNat<=i;lia,?_⟩;refine⟨D,w.map sg,rfl,by rw[hDy,QN];rfl,by rw[Qb];lia,λzs z hpm hs hz=>?_⟩
  obtain⟨w2,rfl,hw2⟩:=unsg (zs:=zs) λy hy=>by
   obtain⟨c,hc,rfl⟩:=Q8.mp (hpm.mem_iff.mp hy);exact⟨c,rfl,hwl c hc⟩
  have hlen:w2.length=w.length:=by have:=hpm.length_eq;simpa using this
  have hinc:w2.Pairwise (· < ·):=by
   refine zo6 hs ?_;have hw1:(w.map sg).Nodup:=Vb.mpr ((ZR.mp hnd).1.imp λne e=>ne (zyr e));have hw3:(w2.map sg).Nodup:=hpm.symm.nodup_iff.mp hw1;exact(Vb.mp hw3).imp λne e=>ne (Gr sg e)
  have az:∀b o,H b=some o->¬O.M b->b≠z:=λb o eb n e2=>by rw[e2] at eb;have:=kp z o eb (e2 ▸ n);rw[hz] at this;cases this
  have nMz:¬O.M z:=λmm=>by obtain⟨o,y⟩:=ok.here H' z pp mm;rw[hz] at y;cases y
  have hzH:H z=none:=by
   cases e:H z with
   | none=>rfl
   | some o=>have:=kp z o e nMz;rw[hz] at this;cases this
  refine kk _ (q w2 (by lia) (by lia) hw2 hinc) _ _ ⟨λb o eb n=>by rw[zac (az b o eb n)];exact kp b o eb n,λ_=>pl nMz pp,λb u hu eb=>?_⟩ ⟨z,_,rfl,hzH,zaf,?_⟩
  .have h1:=ts b u hu eb;rw[zac λe2=>by rw[e2,hz] at h1;cases h1];exact h1
  .have:=zhy (K:=K) (F:=unM O) (H:=upd H' z (.lst ((w2.map sg).map V.str))) (w2.map sg);rw[QN (g:=Yq)] at this;exact this
theorem zkz{K:Qa}{O:Ob}{H:Hp}{ds:List VI}{ws:List V}{Qr:R->Prop}{Q:VK}{x1 x2:Str}(ok:O.Ok)(hφ:IsDeal O)(p:O.P H)(is:IsAll K (unM O) H ws ds)(q:zej ds Qr)(kk:∀r,Qr r->∀v H',Stp O H H'->Out K O H H' v r->Q v H'):
 zf0 K (spD K IsDeal 1 zek) { nx:=λ_ H'=>Q .non H',rt:=Q } (L2.start [x1,x2] (O.v::ws)) H:=zk1 (λO D u h n=>h.plus D u n) ok hφ p is q kk
section
open PySem PySem.Builtin PySem.Builtin.Str
def sOk(x:PySem.Str):Prop:=∀c∈x.cps.toList,c<0x110000
theorem zq8: JK x=true↔sOk x:=by
 unfold JK sOk;rw[Array.all_eq_true'];simp
end
open PySem PySem.Spec
open PyProof.Rows hiding St
open L2
theorem zw8{P:VO}{w:VR}{K:Qa}{mg:Str->Option VJ}{base:Heap}{k:Nat}{st st0:Stmt}{rest:List Stmt}{N:List Str}{f₁:Addr}{fd₁:Us}(Fu:Fun K "law" "law" st f₁ fd₁)(S:FnScope ("_law_script" :: "_law_deal_here" :: N) ["_law_script"] (zad st))
 (hs:zay st=st0::rest)
 (first:∀(f:Addr) (cdv:VJ) (A:VY) (outer:List Env) (s:VN) (H:Hp) (E:XK),Ctx3 P w K mg base k (zbq P w K mg base ("_law_script" :: "_law_deal_here" :: N) "law" (zad st) f cdv A outer s H E) ->
  PS (zbq P w K mg base ("_law_script" :: "_law_deal_here" :: N) "law" (zad st) f cdv A outer s H E ()) st0 (tAsg (zbp (zh0 K) [] E0 (zaw (tVar 0) (zaw (tC (.int 0)) tNil))) (zap 1)))
 (body:∀(f:Addr) (cdv:VJ) (A:VY) (outer:List Env) (s:VN) (H:Hp) (E:XK),Ctx3 P w K mg base k (zbq P w K mg base ("_law_script" :: "_law_deal_here" :: N) "law" (zad st) f cdv A outer s H E) ->
  ∃g,Ss3 K (zbq P w K mg base ("_law_script" :: "_law_deal_here" :: N) "law" (zad st) f cdv A outer s H E) (λj:Addr×Addr=>zh2 j.1 j.2) rest g/\g { nx:=λ_=>False,rt:=λr=>r = .o (.bool true) } (none::some .ob::Qh N.length none)) :
 FnOk P w K mg base CX0 (k+1) f₁ fd₁ ["_law_script"] (zif K):=by
 refine Fu.ok S (λvs H Q E h=>by obtain⟨a,ns,rfl,_⟩:=h;rfl) (λcdv A outer s H vs Q E hr h=>?_);obtain⟨a,ns,rfl,hS,hl,q⟩:=h;have C:=zcb (P:=P) (w:=w) (K:=K) (mg:=mg) (base:=base) (N := "_law_script" :: "_law_deal_here" :: N) (x := "law") (sc:=zad st) (f:=f₁) (cdv:=cdv) (A:=A) (outer:=outer) (s:=s) (H:=H) (E:=E) hr;obtain⟨g,⟨t,h1,h2⟩,h3⟩:=body f₁ cdv A outer s H E C;refine⟨tSeq (tAsg (zbp (zh0 K) [] E0 (zaw (tVar 0) (zaw (tC (.int 0)) tNil))) (zap 1)) t,?_,?_⟩
 .rw[hs];exact za5 (first f₁ cdv A outer s H E C) (h1 ())
 .refine⟨_,rfl,a,ns,rfl,hS,hl,λp l s left H' hp hln sm pa=>?_⟩;refine h2 (p,l) H' (λ_ _=>False) _ H' _ _ _ ⟨zqw p l,⟨s,0,left,pa⟩,⟨s,0,left,pa⟩,.refl _ _,λ_ _ _ z=>z.elim,λ_ _ z=>z.elim,λi r e=>?_,?_⟩ h3 ⟨λ_ _ _ _ _ _ z=>z.elim,λ_ _ _ _ _ _ z=>z.elim,λ_ _ _ _ _ _ z=>z.elim,λH' v r _ o e=>?_⟩
  .match i with
   | 0=>cases e
   | 1=>cases e;exact⟨_,rfl,rfl⟩
   | i+2=>
     rw[ZF,ZF,QU] at e
     split at e <;> cases e
  .rw[QA];simp[L2.start]
  .subst e;cases o;exact q H'
end L3
namespace L56
open PySem PySem.Spec
open PyProof.Rows hiding St
open L2 L3
def top(i:Nat):Stmt:=PySem.Challenge.pw_lostpost_k56_trees_of_least_size.main.body.getD i (.Pass ⟨0,0,0,0⟩)
section
variable {P:VO}{w:VR}{K:Qa}{mg:Str->Option VJ}{base:Heap}{k:Nat}
abbrev zgx(P:VO)(w:VR)(K:Qa)(mg:Str->Option VJ)(base:Heap):Prop:=Def3 P w K mg base 1 "_law_draw" ["_law_deal_here", "_law_many"] (spD K IsDeal 1 zek)
abbrev zpe:Stmt:=top 6
theorem zzc:FnScope ["_law_script", "_law_base", "_law_cells", "_law_number", "_law_cell"] ["_law_script", "_law_base"] (zad zpe):=⟨rfl,rfl,rfl,by decide +kernel,rfl,by decide +kernel,by decide +kernel⟩
theorem d_law_deal(B:Blt mg)(T:Top3 K mg "_law_deal" zpe):Def3 P w K mg base 1 "_law_deal" ["_law_script", "_law_base"] (zh0 K):=by
 obtain⟨f,fd,Fu,m⟩:=T.ex;refine⟨f,fd,Fu.ok zzc (λvs H Q E h=>by obtain⟨a,ns,rfl,_⟩:=h;rfl) (λcdv A outer s H vs Q E hr h=>?_),m,Fu.kp,Fu.binds (λ_ _ _ _ _ _ us hl=>len2 hl λ_ _=>rfl)⟩;obtain⟨a,ns,rfl,hS,hl,q⟩:=h;refine⟨zrw K (tOp (rI0 λi j=>.int (i+j)) (tC (.int 7919)) (tVar 1)) (tOp (rI (λ_ j=>0<j) λi j=>.int (i % j)) (tOp (rI0 λi j=>.int (i+j)) (tOp (rI CMul λi j=>.int (i * j)) (tVar 3) (tC (.int 48271))) (tOp (rI (λ_ j=>0<j) λi j=>.int (i % j)) (tVar 4) (tC (.int 2147483629)))) (tC (.int 2147483647))),?_,zo7 (s0:=7919+0) (by decide) (by decide) (λv v1 H Q q=>⟨_,rfl,7919,0,rfl,rfl,q⟩) (λv v1 s n H Q h1 h2 q=>⟨_,rfl,s,48271,rfl,rfl,.inl ⟨by lia,by lia⟩,_,rfl,n,2147483629,rfl,rfl,(show(0:Int)<2147483629 by decide),_,_,rfl,rfl,_,_,rfl,rfl,(show(0:Int)<2147483647 by decide),q _ (ZO _ (by decide)) (YL (Z3 _ (by decide)) (by decide))⟩) hS hl q⟩;have nd:(["_law_script", "_law_base", "_law_cells", "_law_number", "_law_cell"]:List Str).Nodup:=by decide +kernel
 exact(za5 (zh3 (n0:=2) nd rfl rfl rfl 1 (N':=["_law_cell", "_law_script", "_law_base", "_law_cells", "_law_number", "._law_cell"]) (.of rfl (by kernel_rfl)) rfl (zg2 (zlv sl_list (zai (i:=0) rfl (by first|exact Or.inl rfl|exact Or.inr (Or.inl rfl)|exact Or.inr (Or.inr rfl))) (zje (zai (i:=1) rfl (by first|exact Or.inl rfl|exact Or.inr (Or.inl rfl)|exact Or.inr (Or.inr rfl)))) (zje za0))) (λC s H ex=>zc7 (Go (by kernel_rfl)) rfl (by first|exact Or.inl rfl|exact Or.inr rfl) (by first|exact .inl rfl|exact .inr rfl)) (zc8 (by decide)) (λC s H ex=>zmt) (λC s H ex=>zd8 (zqa rfl) rfl B.max zz2 (zas (zai (i:=0) rfl (by first|exact Or.inl rfl|exact Or.inr (Or.inl rfl)|exact Or.inr (Or.inr rfl))) (zas (za8 zri za0 (zai (i:=0) rfl (by first|exact Or.inl rfl|exact Or.inr (Or.inl rfl)|exact Or.inr (Or.inr rfl)))) zbj))))
  (za5 (zbi (i:=3) nd rfl (by first|exact Or.inl rfl|exact Or.inr rfl) (za8 op_add za0 (zai (i:=1) rfl (by first|exact Or.inl rfl|exact Or.inr (Or.inl rfl)|exact Or.inr (Or.inr rfl)))))
  (za5 (zrf Yx rfl (zg2 (zai (i:=2) rfl (by first|exact Or.inl rfl|exact Or.inr (Or.inl rfl)|exact Or.inr (Or.inr rfl)))) (zc7 (i:=4) nd rfl (by first|exact Or.inl rfl|exact Or.inr rfl)) (zbz (zbi (i:=3) nd rfl (by first|exact Or.inl rfl|exact Or.inr rfl) (za8 zdi (za8 op_add (za8 op_mul (zai (i:=3) rfl (by first|exact Or.inl rfl|exact Or.inr (Or.inl rfl)|exact Or.inr (Or.inr rfl))) za0) (za8 zdi (zai (i:=4) rfl (by first|exact Or.inl rfl|exact Or.inr (Or.inl rfl)|exact Or.inr (Or.inr rfl))) za0)) za0))))
  (zbz (zdl (zon (zfe zbt (zai (i:=3) rfl (by first|exact Or.inl rfl|exact Or.inr (Or.inl rfl)|exact Or.inr (Or.inr rfl))) (zfe zbt za0 (zfe zbt (zpg (hr.hd) rfl B.list rfl B.reversed (zjo 1 (N':=["_law_cell", "_law_script", "_law_base", "_law_cells", "_law_number", "._law_cell"]) (.of rfl (by kernel_rfl)) rfl (zg2 (zai (i:=2) rfl (by first|exact Or.inl rfl|exact Or.inr (Or.inl rfl)|exact Or.inr (Or.inr rfl)))) (λC s H ex=>zc7 (Go (by kernel_rfl)) rfl (by first|exact Or.inl rfl|exact Or.inr rfl) (by first|exact .inl rfl|exact .inr rfl)) (zc8 (by decide)) (λC s H ex=>zrx (zex z1w (zai (i:=0) rfl (by first|exact Or.inl rfl|exact Or.inr (Or.inl rfl)|exact Or.inr (Or.inr rfl))) (za8 zz9 za0 za0) (zcp _))) (λC s H ex=>(zai (i:=0) rfl (by first|exact Or.inl rfl|exact Or.inr (Or.inl rfl)|exact Or.inr (Or.inr rfl)))))) zny))) rfl rfl (by simp) (by decide)))))))
def dc:DC:=⟨7919,40692,104729,2147483399,2147483563,2147483629⟩
theorem z1s:dc.Ok:=⟨by decide,by decide,by decide,by decide⟩
abbrev zpx:Stmt:=top 7
theorem zyn:FnScope ["_law_deal_here", "_law_many", "_law_number", "_law_one", "_law_other"] ["_law_deal_here", "_law_many"] (zad zpx):=⟨rfl,rfl,rfl,by decide +kernel,rfl,by decide +kernel,by decide +kernel⟩
theorem d_law_draw(B:Blt mg)(T:Top3 K mg "_law_draw" zpx):Def3 P w K mg base 1 "_law_draw" ["_law_deal_here", "_law_many"] (spD K IsDeal 1 zek):=by
 obtain⟨f,fd,Fu,m⟩:=T.ex;refine⟨f,fd,Fu.ok zyn (zjs rfl) (λcdv A outer s H vs Q E hr h=>?_),m,Fu.kp,Fu.binds (λ_ _ _ _ _ _ us hl=>len2 hl λ_ _=>rfl)⟩;obtain⟨O,ds,ws,Qr,ok,hφ,p,hl,rfl,is,q,kk⟩:=h;refine⟨zjn K dc,?_,znc z1s hφ p is q kk⟩;have nd:(["_law_deal_here", "_law_many", "_law_number", "_law_one", "_law_other"]:List Str).Nodup:=by decide +kernel
 exact(za5 (zhv Yx (PW.pt (zq0 (zex z2b (zck (zbe hr) (zai (i:=0) rfl (by first|exact Or.inl rfl|exact Or.inr (Or.inl rfl)|exact Or.inr (Or.inr rfl))) zbt (λ_ _=>rfl)) za0 (zcp _)) (znk (zex zvb (zd8 zhr rfl B.len zlm (zas (zck (zbe hr) (zai (i:=0) rfl (by first|exact Or.inl rfl|exact Or.inr (Or.inl rfl)|exact Or.inr (Or.inr rfl))) zbt (λ_ _=>rfl)) zbj)) za0 (zcp _))))) (zbz (zdz (zbe hr) (zai (i:=0) rfl (by first|exact Or.inl rfl|exact Or.inr (Or.inl rfl)|exact Or.inr (Or.inr rfl))) zbt (zzf ZH J2 J4 zwo (zck (zbe hr) (zai (i:=0) rfl (by first|exact Or.inl rfl|exact Or.inr (Or.inl rfl)|exact Or.inr (Or.inr rfl))) zbt (λ_ _=>rfl))) rfl)))
  (za5 (zbi (i:=2) nd rfl (by first|exact Or.inl rfl|exact Or.inr rfl) (zck (zbe hr) (zai (i:=0) rfl (by first|exact Or.inl rfl|exact Or.inr (Or.inl rfl)|exact Or.inr (Or.inr rfl))) zbt (λ_ _=>rfl)))
  (za5 (zvg (zex zvb (zai (i:=2) rfl (by first|exact Or.inl rfl|exact Or.inr (Or.inl rfl)|exact Or.inr (Or.inr rfl))) za0 (zcp _)) (za5 (zdz (zbe hr) (zai (i:=0) rfl (by first|exact Or.inl rfl|exact Or.inr (Or.inl rfl)|exact Or.inr (Or.inr rfl))) zbt (za8 zyl (zai (i:=2) rfl (by first|exact Or.inl rfl|exact Or.inr (Or.inl rfl)|exact Or.inr (Or.inr rfl))) (zai (i:=1) rfl (by first|exact Or.inl rfl|exact Or.inr (Or.inl rfl)|exact Or.inr (Or.inr rfl)))) rfl) (zbz (zdl (za8 zdi (zai (i:=2) rfl (by first|exact Or.inl rfl|exact Or.inr (Or.inl rfl)|exact Or.inr (Or.inr rfl))) (zai (i:=1) rfl (by first|exact Or.inl rfl|exact Or.inr (Or.inl rfl)|exact Or.inr (Or.inr rfl))))))) zog)
  (za5 (zbi (i:=3) nd rfl (by first|exact Or.inl rfl|exact Or.inr rfl) (za8 zdi (za8 op_add (za8 op_mul (zck (zbe hr) (zai (i:=0) rfl (by first|exact Or.inl rfl|exact Or.inr (Or.inl rfl)|exact Or.inr (Or.inr rfl))) zbt (λ_ _=>rfl)) za0) za0) za0))
  (za5 (zdz (zbe hr) (zai (i:=0) rfl (by first|exact Or.inl rfl|exact Or.inr (Or.inl rfl)|exact Or.inr (Or.inr rfl))) zbt (za8 zdi (za8 op_add (za8 op_mul (zai (i:=3) rfl (by first|exact Or.inl rfl|exact Or.inr (Or.inl rfl)|exact Or.inr (Or.inr rfl))) za0) za0) za0) rfl)
  (za5 (zbi (i:=4) nd rfl (by first|exact Or.inl rfl|exact Or.inr rfl) (za8 zdi (za8 op_mul (zck (zbe hr) (zai (i:=0) rfl (by first|exact Or.inl rfl|exact Or.inr (Or.inl rfl)|exact Or.inr (Or.inr rfl))) zbt (λ_ _=>rfl)) (zck (zbe hr) (zai (i:=0) rfl (by first|exact Or.inl rfl|exact Or.inr (Or.inl rfl)|exact Or.inr (Or.inr rfl))) zbt (λ_ _=>rfl))) za0))
  (zbz (zdl (za8 zdi (za8 op_add (za8 op_mul (za8 zdi (za8 op_mul (zai (i:=3) rfl (by first|exact Or.inl rfl|exact Or.inr (Or.inl rfl)|exact Or.inr (Or.inr rfl))) (zai (i:=3) rfl (by first|exact Or.inl rfl|exact Or.inr (Or.inl rfl)|exact Or.inr (Or.inr rfl)))) za0) za0) (zai (i:=4) rfl (by first|exact Or.inl rfl|exact Or.inr (Or.inl rfl)|exact Or.inr (Or.inr rfl)))) (zai (i:=1) rfl (by first|exact Or.inl rfl|exact Or.inr (Or.inl rfl)|exact Or.inr (Or.inr rfl))))))))))))
abbrev zhi:Stmt:=top 9
theorem zra:FnScope ["_law_deal_here", "_law_left"] ["_law_deal_here"] (zad zhi):=⟨rfl,rfl,rfl,by decide +kernel,rfl,by decide +kernel,by decide +kernel⟩
theorem zdn(B:Blt mg)(d_law_draw:zgx P w K mg base)(T:Top3 K mg "_law_letters" zhi):Def3 P w K mg base 2 "_law_letters" ["_law_deal_here"] (spD K IsDeal 0 zej):=by
 obtain⟨f,fd,Fu,m⟩:=T.ex;refine⟨f,fd,Fu.ok zra (zjs rfl) (λcdv A outer s H vs Q E hr h=>?_),m,Fu.kp,Fu.binds (λ_ _ _ _ _ _ us hl=>len1 hl λ_=>rfl)⟩;obtain⟨O,ds,ws,Qr,ok,hφ,p,hl,rfl,is,q,kk⟩:=h;refine⟨zf0 K (spD K IsDeal 1 zek),?_,zkz ok hφ p is q kk⟩;have nd:(["_law_deal_here", "_law_left"]:List Str).Nodup:=by decide +kernel
 obtain⟨fD,fdD,G,mD,kpD,bnD⟩:=d_law_draw.ex
 exact za5 (zbi (i:=1) nd rfl (by first|exact Or.inl rfl|exact Or.inr rfl) (zf5 (zo1 rfl) rfl B.list zxg (zas zbt zbj)))
  (zbz (zdl (zd8 zo9 rfl B.sorted zqo (zas
   (zjo 1 (N':=["_law_k", "_law_deal_here", "_law_left"]) (.of rfl (by kernel_rfl)) rfl (zj4 rfl B.range (zas (za8 op_add za0 (zb7 (k:=1) (by exact G) (by exact hr) rfl mD kpD bnD .nil zdg (zas (zai (i:=0) rfl (by first|exact Or.inl rfl|exact Or.inr (Or.inl rfl)|exact Or.inr (Or.inr rfl))) (zas za0 zbj)))) zbj))
    (λC s H ex=>zc7 (Go (by kernel_rfl)) rfl (by first|exact Or.inl rfl|exact Or.inr rfl) (by first|exact .inl rfl|exact .inr rfl)) (zc8 (by decide)) (λC s H ex=>zmt)
    (λC s H ex=>zli ZH J2 J4 zkj (zai (i:=2) rfl (by first|exact Or.inl rfl|exact Or.inr (Or.inl rfl)|exact Or.inr (Or.inr rfl)))
     (zas (zb7 (k:=1) (by exact G) (by exact hr) rfl mD kpD bnD .nil zdg (zas (zai (i:=1) rfl (by first|exact Or.inl rfl|exact Or.inr (Or.inl rfl)|exact Or.inr (Or.inr rfl))) (zas (zd8 zhr rfl B.len zlm (zas (zai (i:=2) rfl (by first|exact Or.inl rfl|exact Or.inr (Or.inl rfl)|exact Or.inr (Or.inr rfl))) zbj)) zbj))) zbj))) zbj))))
end
end L56
namespace L3
open PySem PySem.Spec
open PyProof.Rows hiding St
open L2
def tyD:VI->String
 | .none=> "NoneType"
 | .bool _=> "bool"
 | .int _=> "int"
 | .str _=> "str"
 | .list _=> "list"
 | .tuple _=> "tuple"
 | .dict _=> "dict"
def zfx(d:VI)(T:String):Option Bool:=match T with
 | "int" =>some (match d with | .int _=>true | .bool _=>true|_=>false)
 | "bool" =>some (match d with | .bool _=>true|_=>false)
 | "str" =>some (match d with | .str _=>true|_=>false)
 | "tuple" =>some (match d with | .tuple _=>true|_=>false)
 | "list" =>some (match d with | .list _=>true|_=>false)
 | _=>none
theorem zc9(K:Qa){d:VI}{b:Bool}(h:zfx d T=some b)(hd:∀kvs,d≠.dict kvs):Vz K (.type (tyD d)) (.type T)=some b:=by
 unfold zfx at h
 split at h
 all_goals first
  | (cases h;cases d <;> first|rfl|exact absurd rfl (hd _))
  | cases h
def tIsI(K:Qa)(T:String)(te:TE):TE:=λσ H Q=>te σ H λv H1=>∃F d b,Is K F H1 v d/\zfx d T=some b/\Q (.bl b) H1
theorem znj{pins:List (Addr×Obj)}{d:VI}{b:Bool}(I:Inv X pins σ H s)(rx:RelV x u)(is:Is X.K F H x d)(e:zfx d T=some b)(h:∀tk,Q (.bool b) { s with toks:=tk }):
 wpAny (model X.prog X.w) A (call (.builtin "isinstance") [u,.type T]) Q E s:=by
 cases is with
 | none=>exact zdk I rx .non (zc9 _ e λ_ z=>nomatch z) h
 | bool y=>exact zdk I rx (.bl y) (zc9 _ e λ_ z=>nomatch z) h
 | int i=>exact zdk I rx (.int i) (zc9 _ e λ_ z=>nomatch z) h
 | str y=>exact zdk I rx (.str y) (zc9 _ e λ_ z=>nomatch z) h
 | list f q r=>exact zdk I rx (.lst q) (zc9 _ e λ_ z=>nomatch z) h
 | @tuple a xs ds q r=>
   cases (show u=QS a from rx);obtain⟨its,_,⟨o,h1,h2,_⟩,_⟩:=I.tuple q;exact Zc YI I.kIn ⟨o,h1,h2⟩ (zc9 X.K (d:=.tuple ds) e λ_ z=>nomatch z) (λz=>nomatch z) h
theorem zzb(gi:Gl X "isinstance")(mi:X.mg "isinstance" = none)(gT:Gl X x)(mT:X.mg x=none)(hT:VS x=some (.type T))(he:PE X e te)(hn:x ≠ "__name__" := by decide)(hdb:(x == ("__debug__" : Str))=false:=by decide)
 (s1:VM [e,.Name x p2] X.env=(false,eval e X.env)::(false,eval (.Name x p2) X.env)::VM [] X.env:=by rfl) (s2:VM [e,.Name x p2] X.env=(false,eval e X.env)::VM [.Name x p2] X.env:=by rfl) (s3:(Ui p3 (VM [.Name x p2] X.env)).any (·.1)=false:=by rfl) :
 PE X (.Call (.Name "isinstance" p1) [e,.Name x p2] [] p3) (tIsI X.K T te):=by
 intro pins s σ H Q I h;refine Ue (zcn I gi mi (u:=.builtin "isinstance") (by decide +kernel) ?_);refine J5 ?_ s2 s3;rw[s1];show wpAny _ _ (UW ((false,eval e X.env)::(false,eval (.Name x p2) X.env) :: [])) _ _ s;refine Zm (thn (he pins s σ H _ I h) λu s' zz=>?_);obtain⟨y,H1,I1,r1,F,d,b,is,ek,q⟩:=zz;refine Zm (zcn I1 gT mT hT (ZA ?_) hn hdb);exact znj I1 r1 is ek λtk=>⟨.bl b,H1,I1.tok _,rfl,q⟩
def isID(T:String)(f:DE):DE:=λρ Q=>f ρ λr=>∃b,zfx r.d T=some b/\Q (.o (.bool b))
theorem z0l{K:Qa}{O:Ob}{T:String}{t:TE}{f:DE}(h:ED K O t f):ED K O (tIsI K T t) (isID T f):=λσ H ρ Q Qd S hf k=>by
 refine h σ H ρ _ _ S hf λv H1 r s1 o1 zz=>?_;obtain⟨b,e,q⟩:=zz;exact⟨_,r.d,b,o1.is S.ok S.p,e,k _ H1 (.o (.bool b)) s1 (Is.bool b) q⟩
section
variable {ι κ:Type}{P:VO}{w:VR}{K:Qa}{mg:Str->Option VJ}{base:Heap}{k:Nat}{X:ι->Cx}{O:κ->Ob}{a:Expr}{fa:DE}{pos p p2:Pos}
theorem zdq(C:Ctx3 P w K mg base k X)(B:Blt mg)(ha:E3 K X O a fa)(hm:mg x=none)(hT:VS x=some (.type T):=by decide +kernel)(hg:∀i,Gl (X i) "isinstance" := by intro i;rfl)(hg2:∀i,Gl (X i) x:=by intro i;rfl)(hn:x ≠ "__name__" := by decide)(hdb:(x == ("__debug__" : Str))=false:=by decide)
 (s1:∀i,VM [a,.Name x p2] (X i).env=(false,eval a (X i).env)::(false,eval (.Name x p2) (X i).env)::VM [] (X i).env:=by intro i;rfl) (s2:∀i,VM [a,.Name x p2] (X i).env=(false,eval a (X i).env)::VM [.Name x p2] (X i).env:=by intro i;rfl) (s3:∀i,(Ui pos (VM [.Name x p2] (X i).env)).any (·.1)=false:=by intro i;rfl) :
 E3 K X O (.Call (.Name "isinstance" p) [a,.Name x p2] [] pos) (isID T fa) :=
 let ⟨_,q,d⟩:=ha;⟨_,λi=>by
  have h:=zzb (p1:=p) (p3:=pos) (hg i) (by rw[C.hmg];exact B.isinstance) (hg2 i) (by rw[C.hmg];exact hm) hT (q i) hn hdb (s1 i) (s2 i) (s3 i);rw[C.hK] at h
  exact h,λj=>z0l (d j)⟩
end
theorem zlt:VS "enumerate" = some (.type "enumerate"):=by decide +kernel
section
variable {K:Qa}{O:Ob}
def zeh(ds:List VI):List VI:=ds.mapIdx λi d=>.tuple [.int (i:Nat),d]
theorem zkt(ds:List VI):(zeh ds).length=ds.length:=by unfold zeh;rw[List.length_mapIdx]
theorem zj9{i:Nat}{d:VI}(h:(zeh ds)[i]? = some d):∃e,ds[i]? = some e/\d = .tuple [.int (i:Nat),e]:=by
 unfold zeh at h;rw[List.getElem?_mapIdx] at h;obtain⟨e,he,rfl⟩:=Qf.mp h;exact⟨e,he,rfl⟩
end
mutual
def z1h:VI->Bool
 | .none=>true
 | .int _=>true
 | .str _=>true
 | .tuple ds=>zsl ds
 | _=>false
def zsl:List VI->Bool
 | []=>true
 | d::ds=>z1h d && zsl ds
end
theorem zgr{i:Nat}{d:VI}(h:ds[i]? = some d):idxF (.list ds) (.int (i:Nat))=some (.o d):=by
 show(atI ds _).map R.o=_;rw[zoh (v:=d) h];rfl
theorem zxp{i:Nat}{d:VI}(h:ds[i]? = some d):idxF (.tuple ds) (.int (i:Nat))=some (.o d):=by
 show(atI ds _).map R.o=_;rw[zoh (v:=d) h];rfl
theorem zxo(h:a.length+b.length<=16777216):addF (.list a) (.list b)=some (.n (a++b)):=by
 show(if a.length+b.length<=sizeLine then some (R.n (a++b)) else none)=_;rw[Gm (by rw[VP];exact h)]
theorem znx(h:a.length+b.length<=16777216):addF (.tuple a) (.tuple b)=some (.o (.tuple (a++b))):=by
 show(if a.length+b.length<=sizeLine then some (R.o (.tuple (a++b))) else none)=_;rw[Gm (by rw[VP];exact h)]
theorem zrm{α β:Type}{enc:α->VI}{enc2:β->VI}{good:β->Prop}{i h:Nat}{fe:DE}{ρ:DSt}{Q:List VI->Prop}{as:List α}
 (step:∀a∈as,∀(Py:VI->Prop),(∀b,good b->Py (enc2 b))->fe ((Qh h none++ρ).set i (some (.im (enc a)))) (λr=>Py r.d))
 (hz:as.length<=1000) (q:∀bs:List β,(∀b∈bs,good b)->bs.length=as.length->Q (bs.map enc2)):zau h (gN i) (λ_ Q=>Q true) fe ρ Q (as.map enc) []:=by
 have sz:=VP
 have key:∀(l:List α) (bs:List β),(∀a∈l,a∈as)->(∀b∈bs,good b)->bs.length+l.length=as.length->zau h (gN i) (λ_ Q=>Q true) fe ρ Q (l.map enc) (bs.map enc2):=by
  intro l
  induction l with
  | nil=>intro bs _ hb hl;exact q bs hb hl
  | cons a l ih=>
    intro bs hs hb hl;rw[Qs] at hl;refine iteT (B:=True) (step a (hs a Qm) (λd=>(bs.map enc2).length<sizeLine/\zau h (gN i) (λ_ Q=>Q true) fe ρ Q (l.map enc) (bs.map enc2 ++ [d])) λb gb=>⟨by rw[Qb];lia,?_⟩);have:=ih (bs ++ [b]) (λx hx=>hs x (Qc _ hx)) (λx hx=>by rcases Q9.mp hx with hx|hx;(exact hb x hx);(rw[Qn.mp hx];exact gb)) (by rw[Qi,QH];lia);rwa [Q6] at this
 exact key as [] (λ_ h=>h) (by simp) (by simp)
theorem zlw{α:Type}{P:α->Prop}{xs:List α}{a:α}(h:∀x∈xs,P x)(ha:P a):∀x∈xs ++ [a],P x:=λx hx=>by
 rcases Q9.mp hx with hx|hx
 .exact h x hx
 .rw[Qn.mp hx];exact ha
theorem ze9{α:Type}{enc:α->VI}{i h:Nat}{ft:DT}{fe:DE}{ρ:DSt}{Q:List VI->Prop}{as:List α}{p:α->Bool}{e:α->VI}
 (step:∀a∈as,∀(Pn:Prop) (Py:R->Prop),(p a=false->Pn)->(p a=true->∀r,r.d=e a->Py r)->ft ((Qh h none++ρ).set i (some (.im (enc a)))) λt=>if t=true then fe ((Qh h none++ρ).set i (some (.im (enc a)))) Py else Pn)
 (hz:as.length<=sizeLine) (q:Q ((as.filter p).map e)):zau h (gN i) ft fe ρ Q (as.map enc) []:=by
 have key:∀(l:List α) (acc:List VI),(∀a∈l,a∈as)->acc.length+l.length<=sizeLine->Q (acc++(l.filter p).map e)->zau h (gN i) ft fe ρ Q (l.map enc) acc:=by
  intro l
  induction l with
  | nil=>intro acc _ _ q;show Q acc;simpa using q
  | cons a l ih=>
    intro acc hs hz q;rw[Qs] at hz;refine step a (hs a Qm) (zau h (gN i) ft fe ρ Q (l.map enc) acc) (λr=>acc.length<sizeLine/\zau h (gN i) ft fe ρ Q (l.map enc) (acc ++ [r.d])) (λhp=>?_) (λhp r hr=>⟨by lia,?_⟩)
    .refine ih acc (λb hb=>hs b (Qc _ hb)) (by lia) ?_;rw[ZZ,hp] at q;exact q
    .refine ih _ (λb hb=>hs b (Qc _ hb)) (by rw[Qi,QH];lia) ?_;rw[ZZ,hp,Gm rfl,Qp] at q;rw[hr,QZ];exact q
 exact key as [] (λ_ h=>h) (by simpa using hz) (by simpa using q)
def stl(a:Addr)(o:Obj):HO:=.ext λh=>h.get? a=some o
theorem ztw{k:Key}(h:zfb k v=true):RelV (kV k) v:=by
 rcases zba h with ⟨i,t,rfl,rfl⟩|⟨x,t,rfl,rfl⟩
 .exact⟨t,rfl⟩
 .exact⟨t,rfl⟩
section
variable {K:Qa}{O:Ob}
def augS(i:Nat)(f:DE):DS:=λDd ρ=>∃a:Int,ρ[i]? = some (some (.im (.int a)))/\f ρ λr=>∃b:Int,r.d = .int b/\Dd.nx (ρ.set i (some (.im (.int (a+b)))))
theorem zz8{i:Nat}{t:TE}(h:ED K O t f):SD K O (tAug i t (ipI λi j=>i+j)) (augS i f):=λH₀ A σ H ρ D Dd r q P=>by
 obtain⟨a,e,q⟩:=q;obtain⟨v,hv,iv⟩:=r.at_ i _ e;have iv':Is K (unO O A) H v (.int a):=iv;cases iv';refine⟨_,hv,?_⟩;refine h σ H ρ _ _ r.seen q λw H1 x s1 o1 zz=>?_;obtain⟨b,eb,q1⟩:=zz;have i1:=o1.is r.ok r.p;rw[eb] at i1;cases i1;exact⟨a,b,rfl,rfl,P.nx _ _ H1 _ ((r.stp s1).setIm (.int (a+b))) (.setIm s1) q1⟩
end
section
variable {ι κ:Type}{P:VO}{w:VR}{K:Qa}{mg:Str->Option VJ}{base:Heap}{k:Nat}{X:ι->Cx}{O:κ->Ob}{a b:Expr}{fa fb:DE}{pos p1 p2 p3 p4:Pos}
theorem z1p(n:Nat)(ha:E3 K X O a fa)(hN:∀i,(X i).N.Nodup:=by intro i;exact Go (by kernel_rfl))(hi:∀i,(X i).N[n]? = some x:=by intro i;rfl)(hx:∀i,Loc (X i).env.scope x:=by intro i;first|exact Or.inl rfl|exact Or.inr rfl)
 (hf:∀i,(X i).fn x=true\/(X i).env.scope.names.lookup x=some .local:=by intro i;first|exact .inl rfl|exact .inr rfl):S3 K X O (.AugAssign (.Name x px) .Add a pos) (augS n fa) :=
 let ⟨_,q,d⟩:=ha;⟨_,λi=>zzd (hN i) (hi i) (hx i) (q i) z0n (hf i),λj=>zz8 (d j)⟩
end
end L3
namespace HK
open PySem PySem.Spec PyProof.Rows
mutual
def hk:VI->Bool
 | .int _=>true
 | .str _=>true
 | .tuple ds=>hks ds
 | _=>false
def hks:List VI->Bool
 | []=>true
 | d::ds=>hk d && hks ds
end
mutual
def hD(w:VR):VI->Int
 | .int i=>hashInt i
 | .str x=>hashStr w x
 | .tuple ds=>reduceHash (Builtin.Tuple.tupleHashOf (hDs w ds))
 | _=>0
def hDs(w:VR):List VI->List Int
 | []=>[]
 | d::ds=>hD w d::hDs w ds
end
mutual
def bv:VI->Bool
 | .int _=>true
 | .tuple ds=>bvs ds
 | _=>false
def bvs:List VI->Bool
 | []=>true
 | d::ds=>bv d && bvs ds
end
mutual
def dr:VI->Nat
 | .tuple ds=>drs ds+1
 | _=>1
def drs:List VI->Nat
 | []=>0
 | d::ds=>dr d+drs ds
end
end HK
namespace HK
open PySem PySem.Spec PyProof.Rows PySem.W
mutual
def dlt:VI->VI->Bool
 | .int i,.int j=>decide (i<j)
 | .str x,.str y=>decide (x.cps.toList<y.cps.toList)
 | .tuple xs,.tuple ys=>dlts xs ys
 | _,_=>false
def dlts:List VI->List VI->Bool
 | [],[]=>false
 | [],_::_=>true
 | _::_,[]=>false
 | x::xs,y::ys=>if J9 x y then dlts xs ys else dlt x y
end
end HK
namespace L3
open PySem PySem.Spec
open PyProof.Rows hiding St
open L2
mutual
def solL:VI->Bool
 | .none=>true
 | .int _=>true
 | .str _=>true
 | .tuple ds=>zou ds
 | .list ds=>zou ds
 | _=>false
def zou:List VI->Bool
 | []=>true
 | d::ds=>solL d && zou ds
end
theorem iteB{b:Bool}{A B:Prop}(ht:b=true->A)(hf:b=false->B):if b=true then A else B:=by
 cases b with
 | true=>exact iteT (ht rfl)
 | false=>exact iteF (hf rfl)
theorem eqI{i j:Int}:eqF false (.int i) (.int j)=some (.o (.bool (decide (i=j)))):=by rw[zi4,Gn Qo]
theorem neI{i j:Int}:eqF true (.int i) (.int j)=some (.o (.bool (!decide (i=j)))):=by rw[zi4,Gm rfl]
theorem dr{m:Int}{P:Int->Prop}(h0:0<m)(h1:m<1073741824)(q:∀k:Nat,(k:Int)<m->P (k:Int)):0<m/\m<1073741824/\∀k:Int,0<=k->k<m->P k :=
 ⟨h0,h1,λk k0 k1=>by obtain⟨n,rfl⟩:=Js k0;exact q n k1⟩
end L3
namespace HK
open PySem PySem.Spec PyProof.Rows PySem.SetTable
noncomputable instance:DecidableEq VI:=λa b=>Classical.propDecidable (a=b)
end HK
namespace L3
open PySem PySem.Spec
open PyProof.Rows hiding St
open L2
def ArgV(K:Qa)(O:Ob)(H:Hp)(v:V)(r:DV):Prop:=(∃d,r = .im d/\Is K (unM O) H v d)\/(∃f ds,r = .rd f ds/\SeenV K O H v (.rd f ds))\/(r = .ob/\v=O.v)\/∃T,r = .thr T/\SeenV K O H v (.thr T)
def Args(K:Qa)(O:Ob)(H:Hp):List V->List DV->Prop
 | [],[]=>True
 | v::vs,r::rs=>ArgV K O H v r/\Args K O H vs rs
 | _,_=>False
theorem Args.length{K:Qa}{O:Ob}{H:Hp}:∀{vs:List V} {rs:List DV},Args K O H vs rs->vs.length=rs.length
 | [],[],_=>rfl
 | _::_,_::_,h=>by rw[Qs,Qs,Args.length h.2]
theorem Args.get{K:Qa}{O:Ob}{H:Hp}:∀{vs:List V} {rs:List DV} {i:Nat} {r:DV},Args K O H vs rs->rs[i]? = some r->∃v,vs[i]? = some v/\ArgV K O H v r
 | [],[],_,_,_,e=>by simp at e
 | [],_::_,_,_,h,_=>h.elim
 | _::_,[],_,_,h,_=>h.elim
 | _::_,_::_,0,_,h,e=>by cases e;exact⟨_,rfl,h.1⟩
 | _::_,_::_,i+1,_,h,e=>by
   obtain⟨v,h1,h2⟩:=Args.get (i:=i) h.2 (by simpa using e);exact⟨v,by simpa using h1,h2⟩
def spG(K:Qa)(φ:Ob->Prop)(n:Nat)(f:List DV->(R->Prop)->Prop):Sp:=λvs H Q _=>
 ∃(O:Ob) (rs:List DV) (Qr:R->Prop),O.Ok/\φ O/\O.P H/\rs.length=n/\Args K O H vs rs/\f rs Qr/\∀r,Qr r->∀v H',Stp O H H'->Out K O H H' v r->Q v H'
theorem zoq{K:Qa}{φ:Ob->Prop}{n:Nat}{f:List DV->(R->Prop)->Prop}{ps:List Str}(hn:ps.length=n):∀vs H Q E,spG K φ n f vs H Q E->vs.length=ps.length:=λvs H Q E zz=>by obtain⟨O,rs,_,_,_,_,h,is,_⟩:=zz;rw[is.length,h,hn]
abbrev DGA:=DSt->(List DV->Prop)->Prop
def AG(K:Qa)(O:Ob)(t:TA)(f:DGA):Prop :=
 ∀(σ:St) (H:Hp) (ρ:DSt) (Q:List V->Hp->Prop) (Qd:List DV->Prop),Seen K O H σ ρ->f ρ Qd->(∀vs H' rs,Stp O H H'->Args K O H' vs rs->Qd rs->Q vs H')->t σ H Q
def zvc:DGA:=λ_ Q=>Q []
def gImA(f:DE)(g:DGA):DGA:=λρ Q=>f ρ λr=>g ρ λrs=>Q (.im r.d::rs)
section
variable {K:Qa}{O:Ob}
theorem z0h:AG K O tNil zvc:=λσ H ρ Q Qd S h k=>k [] H [] (.refl _ _) trivial h
theorem z2c{t:TE}(h:ED K O t f)(h':AG K O u g):AG K O (zaw t u) (gImA f g):=λσ H ρ Q Qd S hf k=>by
 refine h σ H ρ _ _ S hf λv H1 r s1 o1 q1=>?_;refine h' σ H1 ρ _ _ (S.stp s1) q1 λvs H2 rs s2 a2 q2=>?_;exact k (v::vs) H2 (.im r.d::rs) (s1.trans s2) ⟨.inl ⟨r.d,rfl,Is.stp s2 (λ_ f=>f) (λ_ f=>f) (o1.is S.ok S.p)⟩,a2⟩ q2
def calG(n:Nat)(f:List DV->(R->Prop)->Prop)(g:DGA):DE:=λρ Q=>g ρ λrs=>rs.length=n/\f rs Q
theorem zub{n:Nat}{t:TA}(hφ:φ O)(h:AG K O t g):ED K O (zbp (spG K φ n f) [] E t) (calG n f g):=λσ H ρ Q Qd S q k=>by
 refine h σ H ρ _ _ S q λvs H1 rs s1 is zz=>?_;obtain⟨hn,q1⟩:=zz;rw[QJ];exact⟨O,rs,Qd,S.ok,hφ,s1.p S.p,hn,is,q1,λr qr v H' s2 o2=>k v H' r (s1.trans s2) (o2.ahead S.ok S.p s1) qr⟩
theorem zig(ok:O.Ok)(p:O.P H)(h:Args K O H vs rs):Rep K O H (λ_ _=>False) H (L2.start N vs) (za9 N rs):=by
 have hl:=h.length;refine⟨ok,p,p,.refl _ _,λ_ _ _ z=>z.elim,λ_ _ z=>z.elim,λi r e=>?_,?_⟩
 .unfold za9 at e
  by_cases hi:i<rs.length
  .rw[Qy (by simpa using hi),Qj] at e
   cases q:rs[i]? with
   | none=>rw[q] at e;cases e
   | some r'=>
     rw[q] at e;have e':r'=r:=QM (QM e);subst e';obtain⟨v,hv,hh⟩:=h.get q;refine⟨v,?_,?_⟩
     .unfold L2.start;rw[Qy (by rw[Qb,hl];exact hi),Qj,hv];rfl
     .rcases hh with ⟨d,rfl,hd⟩|⟨f,ds,rfl,a,xs,e1,nm,q1,z⟩|⟨rfl,hd⟩|⟨T,rfl,W,hw,z⟩
      .exact hd.weak λa u=>⟨u,λj z=>z⟩
      .exact⟨a,xs,e1,⟨nm,λ_ z=>z⟩,q1,z.weak λa u=>⟨u,λj z=>z⟩⟩
      .exact hd
      .exact⟨W,λb w=>⟨⟨(hw b w).1,λ_ z=>z⟩,(hw b w).2⟩,T.to (λb u f q=>⟨⟨f,λ_ z=>z⟩,q⟩) (λb u w q=>⟨w,q⟩) (TupStay.refl _) z⟩
  .rw[Q7 (by simpa using hi),QU] at e
   split at e <;> cases e
 .unfold za9 L2.start;rw[Qi,Qi,Qb,Qb,QG,QG,hl]
theorem z1e{t:TS}(h:SD K O t g)(ok:O.Ok)(p:O.P H)(ia:Args K O H vs rs)
 (hg:g { nx:=λ_=>Qr (.o .none),rt:=Qr } (za9 N rs)) (hQ:∀r,Qr r->∀v H',Stp O H H'->Out K O H H' v r->Q v H'):t { nx:=λ_ H'=>Q .non H',rt:=Q } (L2.start N vs) H :=
 h H _ _ H _ _ _ (zig ok p ia) hg ⟨λA' σ' H' ρ' r' _ q=>hQ _ q .non H' r'.st Is.none,λA' σ' H' ρ' r' _ q=>q.elim,λA' σ' H' ρ' r' _ q=>q.elim,λH' v r s o q=>hQ r q v H' s o⟩
end
def AG3{ι κ:Type}(K:Qa)(X:ι->Cx)(O:κ->Ob)(es:List Expr)(f:DGA):Prop:=∃t,(∀i,PA (X i) es t)/\∀j,AG K (O j) t f
section
variable {ι κ:Type}{P:VO}{w:VR}{K:Qa}{mg:Str->Option VJ}{base:Heap}{k:Nat}{X:ι->Cx}{O:κ->Ob}{a:Expr}{es:List Expr}{fa:DE}{ga:DGA}{pos p:Pos}
theorem zie:AG3 K X O [] zvc:=⟨tNil,λi=>zbj,λj=>z0h⟩
theorem g_im(ha:E3 K X O a fa)(hs:AG3 K X O es ga)(he:∀i,VM (a::es) (X i).env=(false,eval a (X i).env)::VM es (X i).env:=by intro i;rfl):AG3 K X O (a::es) (gImA fa ga):=let ⟨_,p1,d1⟩:=ha;let ⟨_,p2,d2⟩:=hs;⟨_,λi=>zas (p1 i) (p2 i) (he i),λj=>z2c (d1 j) (d2 j)⟩
theorem zg1{k' n:Nat}(C:Ctx3 P w K mg base k X)(D:Def3 P w K mg base k' x ps (spG K φ n F))(hφ:∀j,φ (O j))(ha:AG3 K X O (a::es) ga)(hk:k'<=k:=by decide)(hg:∀i,Gl (X i) x:=by intro i;rfl)
 (hdb:(x == ("__debug__" : Str))=false:=by decide) (he:∀i,VM (a::es) (X i).env=(false,eval a (X i).env)::VM es (X i).env:=by intro i;rfl) (hpl:∀i,(Ui pos (VM es (X i).env)).any (·.1)=false:=by intro i;rfl):E3 K X O (.Call (.Name x p) (a::es) [] pos) (calG n F ga):=by
 obtain⟨f,fd,G,m,kp,bn⟩:=D.ex;obtain⟨t,q,d⟩:=ha;refine⟨zbp (spG K φ n F) [] E0 t,λi=>?_,λj=>zub (hφ j) (d j)⟩;have G':FnOk (X i).prog (X i).w (X i).K (X i).mg (X i).base CX0 k f fd ps (spG K φ n F):=by rw[C.hP,C.hw,C.hK,C.hmg,C.hb];exact G.mono hk
 exact zb7 G' (C.room i) (hg i) (by rw[C.hmg];exact m) (by rw[C.hK];exact kp) (by rw[C.hK];exact bn) .nil zdg (q i) hdb (he i) (hpl i)
end
section
variable {P:VO}{w:VR}{K:Qa}{mg:Str->Option VJ}{base:Heap}{k n:Nat}{x:Str}{st:Stmt}{N ps:List Str}{φ:Ob->Prop}{F:List DV->(R->Prop)->Prop}
theorem mk_G(T:Top3 K mg x st)(S:FnScope N ps (zad st))(hb:∀(kV doc pm:VJ) (an:Option Addr) (cdv ct:VJ) (us:List VJ),us.length=ps.length->Uc (Zb x x (zbk st) (zay st) (zad st) .none kV doc pm an cdv ct) ⟨us,[]⟩=pure (ps.zip us))(hn:ps.length=n)
 (body:∀(f:Addr) (cdv:VJ) (A:VY) (outer:List Env) (s:VN) (H:Hp) (E:XK) (O:Ob),φ O->Ctx3 P w K mg base k (zbq P w K mg base N x (zad st) f cdv A outer s H E) ->
  ∃g,Ss3 K (zbq P w K mg base N x (zad st) f cdv A outer s H E) (λ_:Unit=>O) (zay st) g/\∀rs Qr,rs.length=n->F rs Qr->g { nx:=λ_=>Qr (.o .none),rt:=Qr } (za9 N rs)):Def3 P w K mg base (k+1) x ps (spG K φ n F):=by
 obtain⟨f,fd,Fu,m⟩:=T.ex;refine⟨f,fd,Fu.ok S (zoq hn) (λcdv A outer s H vs Q E hr h=>?_),m,Fu.kp,Fu.binds hb⟩;obtain⟨O,rs,Qr,ok,hφ,p,hl,is,q,kk⟩:=h;obtain⟨g,⟨t,h1,h2⟩,h3⟩:=body f cdv A outer s H E O hφ (zcb hr);exact⟨t,h1 (),z1e (h2 ()) ok p is (h3 rs Qr hl q) kk⟩
end
def thB(i n:Int):Bool:=decide (0<=i) && decide (i<n)
inductive GThg where
 | nm (i:Int)
 | lt (w:List Nat)
def zan:GThg->VI
 | .nm i=>.int i
 | .lt w=>.str (tx w)
structure RuG where
 n:Int
 b:List GThg
def zbd(r:RuG):VI:=.tuple [.int r.n,.tuple (r.b.map zan)]
structure GraZ where
 n:Int
 rs:List RuG
def zao(g:GraZ):VI:=.tuple [.int g.n,.tuple (g.rs.map zbd)]
def GThg.isN:GThg->Bool
 | .nm _=>true
 | .lt _=>false
theorem zxu(t:GThg):flat (zan t)=true:=by cases t <;> rfl
theorem zcl(r:RuG):flat (zbd r)=true:=by
 show(true && (flats (r.b.map zan) && true))=true;rw[zbc zxu];rfl
theorem zd0(g:GraZ):flat (zao g)=true:=by
 show(true && (flats (g.rs.map zbd) && true))=true;rw[zbc zcl];rfl
def zdc:List VI->(R->Prop)->Prop:=λds Q=>∃b:List GThg,ds = [.tuple (b.map zan)]/\b.length<=1000/\Q (.n ((b.filter GThg.isN).map zan))
def zgg(ls:List Nat)(n:Nat):GThg->Prop
 | .nm i=>0<=i/\i<n
 | .lt w=>∃c∈ls,w = [c]
def zlx(m:Nat):List VI->(R->Prop)->Prop:=λds Q=>∃ls:List Nat,ds = [.list (ls.map λc=>.str (sg c))]/\1<=ls.length/\ls.length<=26/\(∀c∈ls,zdx c) /\
 ∀g:GraZ,1<=g.n->g.n<=3->g.rs.length<m->(∀r∈g.rs,0<=r.n/\r.n<g.n/\r.b.length<=3/\(r.b.filter GThg.isN).length<=2/\∀t∈r.b,zgg ls g.n.toNat t)->Q (.o (zao g))
def zam(a:Int)(ks:List VI):VI:=.tuple [.int a,.tuple ks]
inductive Odd:VI->Prop
 | nil:Odd (.tuple [])
 | one {x:VI}:Odd (.tuple [x])
 | three {x y z:VI}:Odd (.tuple [x,y,z])
 | tup {x:List VI} {y:VI}:Odd (.tuple [.tuple x,y])
 | num {a b:Int}:Odd (.tuple [.int a,.int b])
def Lk:Nat->VI->Prop
 | 0,_=>False
 | n+1,d=>(∃a ks,d=zam a ks/\ks.length<=3/\∀k∈ks,Lk n k)\/(Odd d/\flat d=true)
theorem zdj:∀{ds:List VI},(∀d∈ds,flat d=true)->flats ds=true
 | [],_=>rfl
 | d::ds,h=>by
   show(flat d && flats ds)=true;rw[h d (by simp),zdj λx hx=>h x (Qc _ hx)];rfl
theorem zkv{a:Int}(h:∀k∈ks,flat k=true):flat (zam a ks)=true:=by
 show(true && (flats ks && true))=true;rw[zdj h];rfl
theorem Lk.flat:∀{n:Nat} {d:VI},Lk n d->L3.flat d=true
 | 0,_,h=>h.elim
 | n+1,d,h=>by
   rcases h with ⟨a,ks,rfl,l,hk⟩|h
   .exact zkv λk m=>(hk k m).flat
   .exact h.2
def GraZ.at_(g:GraZ)(a:Int):RuG:=g.rs.getD a.toNat ⟨0,[]⟩
def nmI:GThg->Int
 | .nm i=>i
 | .lt _=>0
def nms(b:List GThg):List Int:=(b.filter GThg.isN).map nmI
theorem zew(b:List GThg):(b.filter GThg.isN).map zan=(nms b).map .int:=by
 unfold nms;rw[QN];refine Zj λt ht=>?_
 cases t with
 | nm i=>rfl
 | lt w=>exact absurd (Jh.mp ht).2 (λz=>by cases z)
theorem zcf{g:GraZ}{a:Int}(h:thB a g.rs.length=true):g.rs[a.toNat]? = some (g.at_ a)/\g.at_ a∈g.rs/\0<=a/\a.toNat<g.rs.length:=by
 unfold thB at h;simp only[QV,Gx] at h;have l:a.toNat<g.rs.length:=by lia
 have e:g.rs[a.toNat]? = some (g.at_ a):=by
  unfold GraZ.at_;rw[Z4,Qu l];rfl
 exact⟨e,Qw e,h.1,l⟩
def GraZ.isT(g:GraZ):Nat->Int->VI->Bool
 | 0,_,_=>false
 | n+1,x,.tuple [.int a,.tuple ks]=>thB a g.rs.length && (decide ((g.at_ a).n=x) && (decide ((nms (g.at_ a).b).length=ks.length) && ((nms (g.at_ a).b).zip ks).all λp=>g.isT n p.1 p.2))
 | _+1,_,_=>false
theorem zl7(g:GraZ)(n:Nat)(x a:Int)(ks:List VI):g.isT (n+1) x (zam a ks)=(thB a g.rs.length && (decide ((g.at_ a).n=x) && (decide ((nms (g.at_ a).b).length=ks.length) && ((nms (g.at_ a).b).zip ks).all λp=>g.isT n p.1 p.2))):=rfl
theorem zx0{g:GraZ}{n:Nat}{x:Int}{d:VI}(h:Odd d):g.isT (n+1) x d=false:=by
 cases h <;> (rw[GraZ.isT] <;> simp)
def cntT:Nat->VI->Nat
 | 0,_=>0
 | n+1,.tuple [.int _,.tuple ks]=>1+(ks.map (cntT n)).sum
 | _+1,_=>1
theorem zkf(n:Nat)(a:Int)(ks:List VI):cntT (n+1) (zam a ks)=1+(ks.map (cntT n)).sum:=rfl
theorem znq{α:Type}{f:α->Nat}{b:Nat}:∀{l:List α},(∀x∈l,f x<=b)->(l.map f).sum<=l.length * b
 | [],_=>by simp
 | x::l,h=>by
   have h1:=h x (by simp);have h2:=znq (l:=l) λy hy=>h y (Qc _ hy);rw[Qp,ZD,Qs,Nat.add_mul];lia
def Gd(g:GraZ):Nat->VI->Prop
 | 0,_=>False
 | n+1,d=>∃a ks,d=zam a ks/\ks.length<=3/\thB a g.rs.length=true/\(nms (g.at_ a).b).length=ks.length/\∀k∈ks,Gd g n k
theorem Gd.up: ∀{n:Nat} {d:VI},Gd g n d->Gd g (n+1) d
 | 0,_,h=>h.elim
 | n+1,d,h=>by
   obtain⟨a,ks,e,l,h1,h2,hk⟩:=h;exact⟨a,ks,e,l,h1,h2,λk m=>(hk k m).up⟩
theorem Gd.lk: ∀{n:Nat} {d:VI},Gd g n d->Lk n d
 | 0,_,h=>h.elim
 | n+1,d,h=>by
   obtain⟨a,ks,e,l,h1,h2,hk⟩:=h;exact .inl ⟨a,ks,e,l,λk m=>(hk k m).lk⟩
def za6:List GThg->List (List Nat)->List Nat
 | [],_=>[]
 | .lt w::b,ks=>w++za6 b ks
 | .nm _::b,k::ks=>k++za6 b ks
 | .nm _::b,[]=>za6 b []
def GraZ.wordT(g:GraZ):Nat->VI->List Nat
 | 0,_=>[]
 | n+1,.tuple [.int a,.tuple ks]=>za6 (g.at_ a).b (ks.map (g.wordT n))
 | _+1,_=>[]
theorem zc2(g:GraZ)(n:Nat)(a:Int)(ks:List VI):g.wordT (n+1) (zam a ks)=za6 (g.at_ a).b (ks.map (g.wordT n)):=rfl
section
variable {prog:VO}{w:VR}{A:VY}{E:VJ->VN->Prop}{s:VN}
theorem zwh{t:Addr}{i:Nat}(st:s.heap.IsTupleIter it t i)(tp:s.heap.IsTuple t zs)(hv:zs[i]? = some x)(k:∀h',h'.IsTupleIter it t (i+1)->Zo it s.heap h'->Q x { s with heap:=h' }):
 wpAny (model prog w) A (Z8 (.ref it)) Q E s:=by
 obtain⟨o,eo,co,dv⟩:=id st;obtain⟨u,eu,_,m,du⟩:=tp;unfold Z8;refine VL (VZ (name:=Zf "__next__") st.typeIs Z5 (Ua Z5 st.typeIs JM ?_ (JH _)));refine VL (m:=field (.ref it) 0) (VT eo dv (x:=.ref t) rfl ?_);have ne:¬((QS t == Jl)=true):=Qo;show wpAny _ _ (if(QS t == Jl)=true then _ else _) _ _ s;rw[Gn ne];refine VL (m:=field (.ref it) 1) (VT eo dv (x:=.int i 0) rfl ?_);refine VL (m:=seqItems? (.ref t)) (wpAny_seqItems eu du ?_);simp only[ZS,hv];refine VL (wpAny_setField eo dv (by simp) (VQ ⟨x,rfl,VQ (k _ ⟨_,Y2 _ eo (Obj.isFreed_of_fields (YN dv _)),(Obj.cls_mapFields ..).trans co,?_⟩ (YE ..))⟩));rw[YN dv];simp[Gk]
theorem zm5(hh:A.in1.handled=none)(k:∀h' e,(∀c o,s.heap.get? c=some o->h'.get? c=some o)->(∃o,h'.get? e=some o/\o.cls = .type "StopIteration")->E (.ref e) { s with heap:=h' }):
 wpAny (model prog w) A.in1 (newExc (.type "StopIteration") []) (λa s'=>wpAny (model prog w) A.in1 (raiseNew a) Q E s') E s:=by
 simp only[newExc,newTuple];refine VL (Ug ?_ (by size_fits));refine VL (m:=firstArgMember _ _) (wpAny_of_eq (a:=Jl) (by simp only[firstArgMember];rfl) (Ug ?_ (by size_fits)));simp only[raiseNew];refine VL (wpAny_handled ?_);rw[hh];exact VL (VQ (wpAny_throw (k _ _ (λc o e=>Qg _ (Qg _ e)) ⟨_,Qv _ rfl,rfl⟩)))
theorem zyx{t:Addr}{i:Nat}(hh:A.handled=none)(st:s.heap.IsTupleIter it t i)(tp:s.heap.IsTuple t zs)(hv:zs[i]? = none)
 (k:∀h' e,Heap.ExtBut it s.heap h'->(∃o,h'.get? e=some o/\o.cls = .type "StopIteration")->E (.ref e) { s with heap:=h' }):wpAny (model prog w) A (Z8 (.ref it)) Q E s:=by
 obtain⟨o,eo,co,dv⟩:=id st;obtain⟨u,eu,_,m,du⟩:=tp;unfold Z8;refine VL (VZ (name:=Zf "__next__") st.typeIs Z5 (Ua Z5 st.typeIs JM ?_ (JH _)));refine VL (m:=field (.ref it) 0) (VT eo dv (x:=.ref t) rfl ?_);have ne:¬((QS t == Jl)=true):=Qo;show wpAny _ _ (if(QS t == Jl)=true then _ else _) _ _ s;rw[Gn ne];refine VL (m:=field (.ref it) 1) (VT eo dv (x:=.int i 0) rfl ?_);refine VL (m:=seqItems? (.ref t)) (wpAny_seqItems eu du ?_);simp only[ZS,hv];refine VL (wpAny_rule (VL (wpAny_setField eo dv (by simp) ?_)));refine VL (zm5 hh λh' e up ex=>?_);exact k h' e (λc o' cn q=>up c o' ((YE ..).extBut c o' cn q)) ex
def itN:Bool->String
 | true=> "list_iterator"
 | false=> "tuple_iterator"
abbrev zq1(b1:Bool)(h:Heap)(l1:Addr):Heap:=h.push { cls:=.type (itN b1),data:=.fields #[.ref l1,.int 0 0] }
end
section
variable {X:Cx}{pins:List (Addr×Obj)}{σ:L2.St}{H:Hp}{s:VN}{h':Heap}{t':Nat}
theorem zkp{fp:List Addr}(I:Inv X pins σ H s)(hf:∀b∈fp,FpOk X pins H b)(k:∀b o,b ∉ fp->s.heap.get? b=some o->h'.get? b=some o):Inv X pins σ H { s with heap:=h',toks:=t' }:=by
 have nit:∀b u,H b=some u->b ∉ fp:=λb u e z=>by rw[(hf b z).1] at e;cases e
 refine I.step (g':=s.gens) (d':=s.drawn) (ch:=fp) (λb hb=>let ⟨_,a,_,b,c,d⟩:=hf b hb;⟨b,a,c,d⟩) (λb o _ _ hc e _=>k b o hc e) (λb o _ _ hc e _=>⟨o.slots,k b o hc e⟩) (λ_ _ _ _ n=>n) (λb o hc e=>⟨o,k b o hc e⟩) (λ_ _ e=>e) (λ_ _ _ e=>e) (λb ps e=>⟨#[],by rw[e];simp⟩)
  (λm ⟨o,es,ep,ho,r⟩=>⟨o,es,ep,k _ o (λz=>(hf _ z).2.1 rfl) ho,r⟩) (λb u e=>(I.hok b u e).stay (λc v hc q=>k c v ?_ q) (λ_ q=>q) λ_ _ q=>q) I.bare
 rcases hc with z|z
 .rw[z];exact nit b u e
 .exact nit c _ z
theorem zj2{fp:List Addr}{a:Addr}{o:HO}(I:Inv X pins σ H s)(hf:∀b∈fp,FpOk X pins H b)(k:∀b o,b ∉ fp->s.heap.get? b=some o->h'.get? b=some o)(hp:s.heap.objs.size<=a)(new:ObjOk X.prog X.w (upd H a o) h' a o):Inv X pins σ (upd H a o) { s with heap:=h',toks:=t' }:=by
 have nit:∀b u,H b=some u->b ∉ fp:=λb u e z=>by rw[(hf b z).1] at e;cases e
 have hn:=I.hok.fresh hp;have na:∀b u,H b=some u->b≠a:=λb u e z=>by rw[z,hn] at e;cases e
 have nb:∀b (o:Obj),s.heap.get? b=some o->b≠a:=λb o e z=>QY _ (Q2 (Qt e) (z ▸ hp))
 refine I.step (g':=s.gens) (d':=s.drawn) (ch:=fp) (λb hb=>let ⟨_,a,_,b,c,d⟩:=hf b hb;⟨b,a,c,d⟩) (λb o _ _ hc e _=>k b o hc e) (λb o _ _ hc e _=>⟨o.slots,k b o hc e⟩) (λb o _ e n=>by rw[zac (nb b o e)];exact n) (λb o hc e=>⟨o,k b o hc e⟩) (λb _ e=>by rw[zac (na b _ e)];exact e) (λb _ _ e=>by rw[zac (na b _ e)];exact e) (λb ps e=>⟨#[],by rw[zac (na b _ e),e];simp⟩)
  (λm ⟨o,es,ep,ho,r⟩=>⟨o,es,ep,k _ o (λz=>(hf _ z).2.1 rfl) ho,r⟩) (λb u e=>?_) I.bare
 by_cases hb:b=a
 .subst hb;rw[zaf] at e;cases e;exact new
 .rw[zac hb] at e;refine(I.hok b u e).stay (λc v hc q=>k c v ?_ q) (λc q=>by rw[zac (na c _ q)];exact q) λc xs q=>by rw[zac (na c _ q)];exact q
  rcases hc with z|z
  .rw[z];exact nit b u e
  .exact nit c _ z
end
section
variable {K:Qa}{O:Ob}
theorem zsr{i:Nat}{d:VI}(h:flats ds=true)(e:ds[i]? = some d):flat d=true:=by
 induction ds generalizing i with
 | nil=>cases e
 | cons x ds ih=>
   rw[flats,QV] at h
   cases i with
   | zero=>cases e;exact h.1
   | succ i=>exact ih h.2 e
end
section
variable {prog:VO}{w:VR}{A:VY}{E:VJ->VN->Prop}{s:VN}
theorem zw5{e it l:Addr}{i:Nat}{zs:Array VJ}{x old:VJ}{Q:VJ->VN->Prop}(G:U9 s.heap e it i old)(A1:s.heap.IsTupleIter it l i)(T1:s.heap.IsTuple l zs)(hx:zs[i]? = some x)(ne:e≠it)
 (q:∀h',IsEnumOut h' e it ((i:Int)+1) x s.heap.objs.size->h'.IsTupleIter it l (i+1)->h'.get? s.heap.objs.size=some { cls:=.type "tuple",data:=.seq #[.int i s.toks,x] }->(∀b o,b≠e->b≠it->s.heap.get? b=some o->h'.get? b=some o)->Q (.ref s.heap.objs.size) { s with heap:=h',toks:=s.toks+1 }) :
 wpAny (model prog w) A (Builtin.«enumerate.__next__» ⟨[.ref e],[]⟩) (λfin s'=>∃v,fin = .done (.ret v)/\Q v s') E s:=by
 obtain⟨hp,gn,dr,tk,os⟩:=s;refine VL (m:=field (.ref e) 2) (VT G rfl (x:=.ref it) rfl (VL (zwh A1 T1 hx λha A1a sa=>?_)))
 replace sa:Zo it hp ha:=sa
 have Ga:U9 ha e it i old:=(sa.2 e ne).trans G;refine VL (m:=field (.ref e) 3) (VT Ga rfl (x:=Gk i) rfl (VL (m:=field (.ref e) 4) (VT Ga rfl (x:=.none) rfl (VL (m:=mkInt i) (wpAny_mkInt ?_)))));refine VL (m:=setField (.ref e) 3 (Gk ((i:Int)+1))) (Ur Ga (by simp) λhb Gb sb=>?_)
 replace sb:Zo e ha hb:=sb
 replace Gb:U9 hb e it ((i:Int)+1) old:=Gb
 refine VL (m:=setField (.ref e) 4 .none) (Ur Gb (by simp) λhc Gc sc=>?_)
 replace sc:Zo e hb hc:=sc
 replace Gc:U9 hc e it ((i:Int)+1) old:=Gc
 refine VL (m:=newTuple [.int i tk,x]) (wpAny_newTuple ?_);have sz3:hc.objs.size=hp.objs.size:=by rw[sc.1,sb.1,sa.1]
 have el:e<hp.objs.size:=Qt G;have Gd:U9 (hc.push { cls:=.type "tuple",data:=.seq #[.int i tk,x] }) e it ((i:Int)+1) old:=Qg _ Gc;have td:(hc.push { cls:=.type "tuple",data:=.seq #[.int i tk,x] }).get? hp.objs.size=some { cls:=.type "tuple",data:=.seq #[.int i tk,x] }:=by rw[<- sz3];exact Qv _ rfl
 have kd:∀b o,b≠e->b≠it->hp.get? b=some o->(hc.push { cls:=.type "tuple",data:=.seq #[.int i tk,x] }).get? b=some o:=λb o n1 n2 g=>Qg _ (sc.extBut b o n1 (sb.extBut b o n1 (sa.extBut b o n2 g)));have A1d:(hc.push { cls:=.type "tuple",data:=.seq #[.int i tk,x] }).IsTupleIter it l (i+1):=A1a.at λo g=>Qg _ (sc.extBut _ o (Zt ne) (sb.extBut _ o (Zt ne) g));refine VL (m:=Jf (.ref e)) ?_;rw[sz3];generalize hc.push { cls:=.type "tuple",data:=.seq #[.int i tk,x] }=hd at Gd td kd A1d;unfold Jf;refine VL (VT Gd rfl (x:=.none) rfl (VQ ?_));simp only[Gu];refine VL (wpAny_rule (VL (VT Gd rfl (x:=old) rfl (VL (Ur Gd (by simp) λhf Gf sf=>?_)))))
 replace sf:Zo e hd hf:=sf
 replace Gf:U9 hf e it ((i:Int)+1) x:=Gf
 refine VL (m:=Jc (.ref e) (.ref hp.objs.size)) ?_;unfold Jc;refine VL (Ur Gf (by simp) λhg Gg sg=>?_)
 replace sg:Zo e hf hg:=sg
 replace Gg:IsEnumOut hg e it ((i:Int)+1) x hp.objs.size:=Gg
 refine Ur Gg (by simp) λhh Gh sh=>VL (wpAny_letGo (VQ ⟨_,rfl,?_⟩))
 replace sh:Zo e hg hh:=sh
 have up:∀b o,b≠e->hd.get? b=some o->hh.get? b=some o:=λb o n g=>sh.extBut b o n (sg.extBut b o n (sf.extBut b o n g));exact q hh Gh (A1d.at λo g=>up _ o (Zt ne) g) (up _ _ (YQ el) td) λb o n1 n2 g=>up b o n1 (kd b o n1 n2 g)
theorem zxs{i:Nat}(G:U9 s.heap e it i old)(A1:s.heap.IsTupleIter it l i)(T1:s.heap.IsTuple l zs)(hx:zs[i]? = some x)(ne:e≠it)
 (q:∀h',IsEnumOut h' e it ((i:Int)+1) x s.heap.objs.size->h'.IsTupleIter it l (i+1)->h'.get? s.heap.objs.size=some { cls:=.type "tuple",data:=.seq #[.int i s.toks,x] }->(∀b o,b≠e->b≠it->s.heap.get? b=some o->h'.get? b=some o)->Q (some (.ref s.heap.objs.size)) { s with heap:=h',toks:=s.toks+1 }):wpAny (model prog w) A (UY (.ref e)) Q E s:=by
 have T:s.TypeIs (.ref e) "enumerate" := ⟨_,G,rfl⟩;unfold UY;exact VL (wpAny_attempt (VZ (name:=Zf "__next__") T ZP (Ua ZP T Yr (zw5 G A1 T1 hx ne λh' a b c d=>VQ (q h' a b c d)) (Yk _))))
theorem zx9{i:Nat}(hh:A.handled=none)(G:U9 s.heap e it i old)(A1:s.heap.IsTupleIter it l i)(T1:s.heap.IsTuple l zs)(hx:zs[i]? = none)(ne:e≠it)
 (q:∀h',(∀b o,b≠it->s.heap.get? b=some o->h'.get? b=some o)->Q none { s with heap:=h' }):wpAny (model prog w) A (UY (.ref e)) Q E s:=by
 have T:s.TypeIs (.ref e) "enumerate" := ⟨_,G,rfl⟩;unfold UY;refine VL (wpAny_attempt (VZ (name:=Zf "__next__") T ZP (Ua ZP T Yr ?_ (Yk _))));refine VL (m:=field (.ref e) 2) (VT G rfl (x:=.ref it) rfl (VL (zyx hh A1 T1 hx λh' x sb zz=>?_)));obtain⟨o,g,c⟩:=zz;exact VL (wpAny_isInstance (T := "StopIteration") (b:=true) ⟨o,g,c⟩ isSubtype_stop (VQ (q _ λb o n g=>sb b o n g)))
theorem z0e(l:Addr)(zs:Array VJ)(n:Nat)(dct:Option Addr)(sl:Array (Option VJ)):Meets (Builtin.«enumerate.__new__» ⟨[.type "enumerate",.ref l],[]⟩) (λ_ R s=>s.heap.get? l=some { cls:=.type "tuple",dict:=dct,data:=.seq zs n,slots:=sl } /\
 R (.ok (.ret (.ref (zq1 false s.heap l).objs.size))) { s with heap:=(zq1 false s.heap l).push { cls:=.type "enumerate",data:=.fields #[.none,.bool false,.ref s.heap.objs.size,Gk 0,.none,.none] } }) :=
 .of_wp λprog w A R s h=>by
  obtain⟨hp,g,d,tk,os⟩:=s;obtain⟨a,q⟩:=h;have sub:=sub_enumerate;have tp:Heap.IsTuple (Shared.heap ⟨hp,g,d,tk,os⟩) l zs:=⟨_,a,rfl,n,rfl⟩
  wp_walk using Jg a
  refine wpAny_stack_any λst=>VQ ?_
  split
  .rename_i c _ _ _ _ _
   cases (c == Jm "enumerate") <;> (wp_walk using Jg a,U2 tp;exact⟨_,rfl,q⟩)
  .wp_walk using Jg a,U2 tp
   exact⟨_,rfl,q⟩
theorem zxw(tp:s.heap.IsTuple l zs)
 (q:∀h',U9 h' (s.heap.objs.size+1) s.heap.objs.size 0 .none->h'.IsTupleIter s.heap.objs.size l 0->(∀b o,s.heap.get? b=some o->h'.get? b=some o)->Q (.ref (s.heap.objs.size+1)) { s with heap:=h' }) :
 wpAny (model prog w) A (call (.type "enumerate") [.ref l]) Q E s:=by
 obtain⟨⟨c,dct,dt,sl⟩,a,hc,n,hd⟩:=tp
 replace hc:c = .type "tuple" := hc
 replace hd:dt = .seq zs n:=hd
 subst hc hd;refine callType_new F.called_enumerate (by decide) (F.typeCall_enumerate_1 _) (F.newCall_enumerate_1 _) (λobj=>F.args_object_init_2 obj _) F.entry_enumerate_new (z0e l zs n dct sl) ⟨a,?_⟩;have n1:(zq1 false s.heap l).objs.size=s.heap.objs.size+1:=QW ..;have e2:((zq1 false s.heap l).push { cls:=.type "enumerate",data:=.fields #[.none,.bool false,.ref s.heap.objs.size,Gk 0,.none,.none] }).get? (zq1 false s.heap l).objs.size=some _:=Qv _ rfl;show _/\_;rw[n1] at e2 ⊢;exact⟨⟨_,e2,rfl⟩,q _ e2 ⟨_,Qg _ (Qv _ rfl),rfl,rfl⟩ λb o g=>Qg _ (Qg _ g)⟩
end
def Itet(K:Qa)(l:Addr):It :=
 ⟨λi H=>∃xs x,SqT K H l xs/\xs[i]? = some x,λi H x H'=>∃a y,H a=none/\(∀xs,SqT K H l xs->xs[i]? = some y)/\x = .ref a/\H'=upd H a (.tup [.int (i:Nat),y]),λi H=>∃xs,SqT K H l xs/\xs.length<=i⟩
theorem zpm{P:VO}{w:VR}{K:Qa}{elts:List Expr}{x1:Nat}{pos:Pos}(l it e:Addr)(ne:e≠it):
 Turn P w K (.Tuple elts x1 pos) (Itet K l) [e,it] e (λi h=>(∃old,U9 h e it i old)/\h.IsTupleIter it l i) where
 mem:=by simp
 obj:=λi h st b hb=>by
  obtain⟨⟨old,g⟩,o,g2,_,d⟩:=st;simp only[Q1,QE,Gy] at hb;rcases hb with rfl|rfl
  .exact⟨_,g,λv z=>by cases z⟩
  .exact⟨o,g2,λv z=>by rw[d] at z;cases z⟩
 keep:=λi h h' ⟨⟨old,g⟩,a⟩ k=>⟨⟨old,k e (by simp) _ g⟩,a.at λo g=>k it (by simp) o g⟩
 item:=by
  intro X hP hw hK hc i pins s σ H E I hf st hg;subst hP hw hK;obtain⟨xs,x,q1,hx⟩:=hg;obtain⟨us,ru,tu,_⟩:=I.tuple q1;obtain⟨u,hu,ru⟩:=ru.get hx;obtain⟨⟨old,G⟩,A1⟩:=st
  have lt:∀b∈[e,it],b≠s.heap.objs.size:=λb hb z=>by
   have:b<s.heap.objs.size:=by
    obtain⟨o,g2,_⟩:=A1;simp only[Q1,QE,Gy] at hb;rcases hb with rfl|rfl
    .exact Qt G
    .exact Qt g2
   exact QY _ (z ▸ this)
  refine zxs G A1 tu (x:=u) (by simpa using hu) ne λh1 G1 A2 hp up=>⟨_,rfl,?_⟩;refine wpAny_letOwnedTupleGo_enum G1 λh2 G2 sb=>?_
  have up2:∀b o,b ∉ [e,it]->s.heap.get? b=some o->h2.get? b=some o:=λb o hb g=>by
   simp only[Q1,QE,Gy,not_or] at hb;exact(sb.2 b hb.1).trans (up b o hb.1 hb.2 g)
  have P2:h2.get? s.heap.objs.size=some { cls:=.type "tuple",data:=.seq #[.int i s.toks,u] }:=(sb.2 _ (Zt (lt e (by simp)))).trans hp;have sL:=VP;refine⟨.ref s.heap.objs.size,_,zj2 (s:=s) (t':=s.toks+1) I hf up2 (Qe _) (o:=.tup [.int (i:Nat),x]) ⟨by show 2<=sizeLine;lia,[.int i s.toks,u],.cons ⟨_,rfl⟩ (.cons ru .nil),⟨_,P2,rfl,_,rfl⟩⟩,rfl,⟨_,x,I.hok.fresh (Qe _),λzs hz=>by rw[I.tuple_inj hz q1];exact hx,rfl,rfl⟩,⟨⟨u,?_⟩,A2.at λo g=>(sb.2 it (Zt ne)).trans g⟩,λb hb=>?_⟩
  .have ei:((i+1:Nat):Int)=(i:Int)+1:=by lia
   rw[ei];exact G2
  .rw[zac (lt b hb)];exact(hf b hb).1
 done:=by
  intro X hP hw hK hc i pins s σ H E I hf st hg;subst hP hw hK;obtain⟨xs,q1,hx⟩:=hg;obtain⟨us,ru,tu,_⟩:=I.tuple q1;have lu:=ru.length;obtain⟨⟨old,G⟩,A1⟩:=st;exact zx9 (I.ok.hd hc) G A1 tu (by simp;lia) ne λh1 up=>⟨rfl,zkp (t':=s.toks) I hf λb o hb g=>up b o (λz=>hb (by simp[z])) g⟩
 self:=λ_ _ _ _ _ st h=>let ⟨old,g⟩:=st.1;wpAny_pyIter_enum g h
def zll(K:Qa)(t:TE):TI:=λσ H R=>t σ H λv H1=>∃a,v = .ref a/\(∃xs,SqT K H1 a xs)/\R (Itet K a) H1
theorem zt9{elts:List Expr}{x1:Nat}(gE:Gl X "enumerate")(mE:X.mg "enumerate" = none)(hl:PE X l tl)(s1:VM [l] X.env=(false,eval l X.env)::VM [] X.env:=by rfl):PI X (.Tuple elts x1 pos) (.Call (.Name "enumerate" p1) [l] [] p2) (zll X.K tl):=by
 intro pins s σ H R I h;refine Ue (zcn I gE mE zlt ?_);refine QQ ?_ s1;rw[s1];show wpAny _ _ (UW ((false,eval l X.env) :: [])) _ _ s;refine Zm (thn (hl pins s σ H _ I h) λu s' ⟨y,H1,I1,r1,a,ey,⟨xs,hq⟩,q⟩=>ZA ?_);subst ey;cases r1;obtain⟨us,ru,tu,_⟩:=I1.tuple hq;refine zxw tu λh' he hi kp=>wpAny_pyIter_enum he ?_;refine⟨s'.heap.objs.size+1,[s'.heap.objs.size+1,s'.heap.objs.size],_,Itet X.K a,H1,rfl,I1.kept (t':=s'.toks) kp,zpm a s'.heap.objs.size (s'.heap.objs.size+1) (Nat.succ_ne_self _),⟨⟨_,he⟩,hi⟩,λb hb=>?_,q⟩
 have le:s'.heap.objs.size<=b:=by
  simp only[Q1,QE,Gy] at hb;rcases hb with rfl|rfl
  .exact Jr _
  .exact Qe _
 exact I1.fpOk le (I1.hok.fresh le)
section
variable {K:Qa}{O:Ob}
def zvy(f:DE):DI:=λρ Q=>f ρ λr=>∃ds,r.d = .tuple ds/\flats ds=true/\Q true (zeh ds)
theorem zr4{t:TE}(h:ED K O t f):SrcS K O (zll K t) (zvy f):=λσ H ρ R Qd S hf k=>by
 refine h σ H ρ _ _ S hf λv H1 r st o1 zz=>?_;obtain⟨ds,e,fl,q⟩:=zz;have i1:=o1.is S.ok S.p;rw[e] at i1
 cases i1 with
 | tuple ha hs=>
   rename_i a xs
   refine⟨a,rfl,⟨xs,ha⟩,k (Itet K a) H1 (zeh ds) (λ_=>False) true ⟨st,λb hb=>hb.elim,λH2 i kb t2 hi=>?_,λH2 i d kb t2 hd c=>?_⟩ (λz b hb=>hb.elim) q⟩
   .rw[zkt] at hi;exact⟨xs,SqT.stay t2 ha,by rw[hs.length];exact hi⟩
   .obtain⟨x,h1,rfl⟩:=zj9 hd;have fx:=zsr fl h1;obtain⟨u,hu,iu⟩:=zjc (O:=O) hs h1 t2 (.inl fx);have q1:SqT K H2 a xs:=SqT.stay t2 ha;refine⟨⟨xs,u,q1,hu⟩,λw H3 zz=>?_⟩;obtain⟨c',u',hc',e1,ex,e3⟩:=zz;have sm:Same H2 H3:=by rw[e3];exact L3.same_new hc' _
    subst ex;have e1:=e1 xs q1;rw[hu] at e1;cases e1;have fl2:flat (.tuple [.int (i:Nat),x])=true:=by show(true && (flat x && true))=true;rw[fx];rfl
    refine⟨sm,.tuple (xs:=[.int (i:Nat),u]) (.inl (.inl (by rw[e3];exact zaf))) (.cons (.int _) (.cons (iu.to (λc zs f q=>⟨⟨f.1,.inl fl2⟩,sm _ _ q⟩) λc zs q=>?_) .nil))⟩;rcases q with (q|⟨ob,q⟩)|q
    .exact .inl (.inl (sm _ _ q))
    .exact .inl (.inr ⟨ob,sm _ _ q⟩)
    .exact .inr q
end
section
variable {ι κ:Type}{P:VO}{w:VR}{K:Qa}{mg:Str->Option VJ}{base:Heap}{k:Nat}{X:ι->Cx}{O:κ->Ob}{a:Expr}{fa:DE}{pos p1 p2:Pos}{elts:List Expr}{x1:Nat}
theorem zgi(C:Ctx3 P w K mg base k X)(B:Blt mg)(ha:E3 K X O a fa)(hg:∀i,Gl (X i) "enumerate" := by intro i;rfl)(hs:∀i,VM [a] (X i).env=(false,eval a (X i).env)::VM [] (X i).env:=by intro i;rfl):I3 K X O (.Tuple elts x1 pos) (.Call (.Name "enumerate" p1) [a] [] p2) (zvy fa) :=
 let ⟨_,q,d⟩:=ha;⟨zll K _,λi=>by have h:=zt9 (elts:=elts) (x1:=x1) (pos:=pos) (p1:=p1) (p2:=p2) (hg i) (by rw[C.hmg];exact B.enumerate) (q i) (hs i);rw[C.hK] at h;exact h,λj=>zr4 (d j)⟩
end
section
variable {K:Qa}{O:Ob}{H₀ H H':Hp}{A:Nat->Addr->Prop}{σ:St}{ρ:DSt}
theorem Rep.setT{i:Nat}(r:Rep K O H₀ A H σ ρ)(s:Stp O H H1)(stay1:∀b u,H1 b=some u->¬A i b->H' b=some u)(hW:∀b,W b->(A i b\/H b=QD)/\∃o,H' b=some o/\OwnO o)
 (hR:T.R K (unO O (reg A i W)) W H' v):Rep K O H₀ (reg A i W) H' (σ.set i (some v)) (ρ.set i (some (.thg T))) :=
 r.setX s stay1 hW (T.to (λb u f q=>⟨f,q⟩) (λb u w q=>⟨.inr ⟨rfl,w⟩,q⟩) (TupStay.refl _) hR)
theorem Frm.setT{i:Nat}(s:Stp O H H1)(stay:∀b u,H1 b=some u->¬A i b->H' b=some u)(hW:∀b,W b->(A i b\/H b=QD)):Frm O A H (reg A i W) H':=λb o e u=>⟨stay b o (s.s b o e u.1) (u.2 i),u.1,λj z=>by
 rcases z with z|z
 .exact u.2 j z.2
 .rcases hW b z.2 with y|y
  .exact u.2 i y
  .rw[e] at y;cases y⟩
end
mutual
inductive Ow(K:Qa)(H:Hp):V->VI->List Addr->Prop
 | leaf {v d}:flat d=true->Is K (λ_=>False) H v d->Ow K H v d []
 | list {a xs ds as}:H a=some (.lst xs)->OwAll K H xs ds as->Ow K H (.ref a) (.list ds) (a::as)
 | tuple {a xs ds as}:H a=some (.tup xs)->OwAll K H xs ds as->Ow K H (.ref a) (.tuple ds) as
inductive OwAll(K:Qa)(H:Hp):List V->List VI->List Addr->Prop
 | nil:OwAll K H [] [] []
 | cons {v vs d ds as bs}:Ow K H v d as->OwAll K H vs ds bs->OwAll K H (v::vs) (d::ds) (as++bs)
end
section
variable {K:Qa}{O:Ob}{H₀ H H':Hp}{A:Nat->Addr->Prop}{σ:St}{ρ:DSt}
theorem zsx(ok:O.Ok)(p:O.P H)(h:H a=QD):¬O.M a:=λm=>by obtain⟨o,z⟩:=ok.here H a p m;rw[h] at z;cases z
end
def kD:Key->VI
 | .inl i=>.int i
 | .inr x=>.str x
theorem zd4{β:Type}{l:List β}{i:Nat}{x:β}(h:l[i]? = some x):l.set i x=l:=by
 obtain⟨z,rfl⟩:=Qx.mp h;exact List.set_getElem_self z
theorem ownT: OwnO (.dT kvs):=λ_=>⟨λz=>(nomatch z),λ_ z=>(nomatch z)⟩
section
variable {K:Qa}{O:Ob}
theorem z1o{k:Key}(h:Is K F H v (kD k)):v=kV k:=by
 cases k <;> (cases h;rfl)
end
abbrev KD:=List (Int×VI)
def KD.at_(kvs:KD)(i:Int):Option VI:=(kvs.find? λp=>decide (p.1=i)).map (·.2)
def NV(K:Qa)(H:Hp):List (Key×V)->KD->Prop
 | [],[]=>True
 | (k,v)::ws,(i,d)::kvs=>k = .inl i/\flat d=true/\Is K (λ_=>False) H v d/\NV K H ws kvs
 | _,_=>False
theorem NV.to{K:Qa}{H H':Hp}(ts:TupStay H H'):∀{ws:List (Key×V)} {kvs:KD},NV K H ws kvs->NV K H' ws kvs
 | [],[],_=>trivial
 | [],_::_,h=>h.elim
 | _::_,[],h=>h.elim
 | (_,_)::_,(_,_)::_,h=>⟨h.1,h.2.1,Is.flat ts h.2.2.1 h.2.1,NV.to ts h.2.2.2⟩
theorem NV.length{K:Qa}{H:Hp}:∀{ws:List (Key×V)} {kvs:KD},NV K H ws kvs->ws.length=kvs.length
 | [],[],_=>rfl
 | [],_::_,h=>h.elim
 | _::_,[],h=>h.elim
 | (_,_)::ws,(_,_)::kvs,h=>by rw[Qs,Qs,NV.length h.2.2.2]
theorem NV.val{K:Qa}{H:Hp}{i:Int}:∀{ws:List (Key×V)} {kvs:KD},NV K H ws kvs->(valV ws (.inl i)).isSome=(kvs.at_ i).isSome/\∀d,kvs.at_ i=some d->flat d=true/\∃v,valV ws (.inl i)=some v/\Is K (λ_=>False) H v d
 | [],[],_=>⟨rfl,λd h=>by cases h⟩
 | [],_::_,h=>h.elim
 | _::_,[],h=>h.elim
 | (k,v)::ws,(j,e)::kvs,h=>by
   obtain⟨rfl,f,is,t⟩:=h;obtain⟨h1,h2⟩:=NV.val (i:=i) t
   by_cases z:j=i
   .subst z;have e1:valV ((.inl j,v)::ws) (.inl j)=some v:=by unfold valV;rw[Zp (by simp)];rfl
    have e2:KD.at_ ((j,e)::kvs) j=some e:=by unfold KD.at_;rw[Zp (by simp)];rfl
    rw[e1,e2];exact⟨rfl,λd hd=>by cases hd;exact⟨f,v,rfl,is⟩⟩
   .have e1:valV ((.inl j,v)::ws) (.inl i)=valV ws (.inl i):=by
     unfold valV;rw[Zq];intro w;have w:=Go w;exact z (Vq w)
    have e2:KD.at_ ((j,e)::kvs) i=KD.at_ kvs i:=by unfold KD.at_;rw[Zq (by simpa using z)]
    rw[e1,e2];exact⟨h1,h2⟩
theorem NV.snoc{K:Qa}{H:Hp}{i:Int}{v:V}{d:VI}(f:flat d=true)(is:Is K (λ_=>False) H v d):∀{ws:List (Key×V)} {kvs:KD},NV K H ws kvs->NV K H (ws ++ [(.inl i,v)]) (kvs ++ [(i,d)])
 | [],[],_=>⟨rfl,f,is,trivial⟩
 | [],_::_,h=>h.elim
 | _::_,[],h=>h.elim
 | (_,_)::_,(_,_)::_,h=>⟨h.1,h.2.1,h.2.2.1,NV.snoc f is h.2.2.2⟩
theorem ztr{k:Key}(h:valV ws k=none):putK ws k v=ws ++ [(k,v)]:=by
 unfold putK;rw[Gn];intro z;rw[zeb,h] at z;cases z
def DctN(kvs:KD):Thg:=⟨λK _ W H v=>∃a ws,v = .ref a/\W a/\H a=some (.dK ws)/\NV K H ws kvs,λ_ hW ts ⟨a,ws,e,w,q,z⟩=>⟨a,ws,e,(hW a _ w q).1,(hW a _ w q).2,z.to ts⟩⟩
theorem ownK: OwnO (.dK ws):=λ_=>⟨λz=>(nomatch z),λ_ z=>(nomatch z)⟩
def dnIn(n:Nat)(ρ:DSt)(kvs:KD):Prop:=ρ[n]? = some (some (.thg (DctN kvs)))\/ρ[n]? = some (some (.thr (DctN kvs)))
section
variable {K:Qa}{O:Ob}
theorem zc6{n:Nat}(S:Seen K O H σ ρ)(h:dnIn n ρ kvs):∃a ws,σ[n]? = some (some (.ref a))/\¬O.M a/\H a=some (.dK ws)/\NV K H ws kvs:=by
 rcases h with e|e
 .obtain⟨v,h1,W,hw,a,ws,rfl,w,q,z⟩:=S.at_ n _ e;exact⟨a,ws,h1,(hw a w).1,q,z⟩
 .obtain⟨v,h1,W,hw,a,ws,rfl,w,q,z⟩:=S.at_ n _ e;exact⟨a,ws,h1,(hw a w).1,q,z⟩
def inDN(neg:Bool)(n:Nat)(fk:DE):DE:=λρ Q=>∃kvs,dnIn n ρ kvs/\fk ρ λr=>∃i:Int,r.d = .int i/\Q (.o (.bool (if neg then !(kvs.at_ i).isSome else(kvs.at_ i).isSome)))
theorem zxk{n:Nat}{t:TE}(h:ED K O t f):ED K O (tDIn t (tVar n)) (inDN false n f):=λσ H ρ Q Qd S q k=>by
 obtain⟨kvs,hd,q⟩:=q;refine h σ H ρ _ _ S q λy H1 r s1 o1 zz=>?_;obtain⟨i,er,q1⟩:=zz;have iy:=o1.is S.ok S.p;rw[er] at iy;cases iy;obtain⟨a,ws,h1,nm,e,z⟩:=zc6 (S.stp s1) hd;refine⟨_,h1,a,_,rfl,.k (k:=.inl i) e,?_⟩;rw[(z.val (i:=i)).1];exact k _ H1 (.o _) s1 (Is.bool _) q1
theorem zs3{n:Nat}{t:TE}(h:ED K O t f):ED K O (zjl t (tVar n)) (inDN true n f):=λσ H ρ Q Qd S q k=>by
 obtain⟨kvs,hd,q⟩:=q;refine h σ H ρ _ _ S q λy H1 r s1 o1 zz=>?_;obtain⟨i,er,q1⟩:=zz;have iy:=o1.is S.ok S.p;rw[er] at iy;cases iy;obtain⟨a,ws,h1,nm,e,z⟩:=zc6 (S.stp s1) hd;refine⟨_,h1,a,_,rfl,.k (k:=.inl i) e,?_⟩;rw[(z.val (i:=i)).1];exact k _ H1 (.o _) s1 (Is.bool _) q1
def zvz(n:Nat)(fk:DE):DE:=λρ Q=>∃kvs,dnIn n ρ kvs/\fk ρ λr=>∃(i:Int) (d:VI),r.d = .int i/\kvs.at_ i=some d/\Q (.o d)
theorem ztg{n:Nat}{t:TE}(h:ED K O t f):ED K O (zk4 (tVar n) t) (zvz n f):=λσ H ρ Q Qd S q k=>by
 obtain⟨kvs,hd,q⟩:=q;obtain⟨a0,ws0,h0,_⟩:=zc6 S hd;refine⟨_,h0,?_⟩;refine h σ H ρ _ _ S q λy H1 r s1 o1 zz=>?_;obtain⟨i,d,er,ed,q1⟩:=zz;have iy:=o1.is S.ok S.p;rw[er] at iy;cases iy;obtain⟨a,ws,h1,nm,e,z⟩:=zc6 (S.stp s1) hd;rw[h0] at h1;cases h1;obtain⟨fl,v,hv,iv⟩:=(z.val (i:=i)).2 d ed;have g:DGet H1 a0 (.int i) (some v):=by rw[<- hv];exact .k (k:=.inl i) e
 exact⟨a0,v,rfl,g,k v H1 (.o d) s1 (Is.flat (TupStay.refl H1) iv fl) q1⟩
def zu4(i:Nat):DS:=λDd ρ=>Dd.nx (ρ.set i (some (.thg (DctN []))))
theorem zuu{i:Nat}:SD K O (tAsg zr8 (zap i)) (zu4 i):=λH₀ A σ H ρ D Dd r q P=>by
 intro p hp;have st:Stp O H (upd H p (.dK [])):=.new r.ok hp _;have hW:∀b,b=p->(A i b\/H b=QD)/\∃o,upd H p (.dK []) b=some o/\OwnO o:=λb e=>by subst e;exact⟨.inr hp,_,zaf,ownK⟩
 exact P.nx _ _ _ _ (r.setT (W:=λb=>b=p) (T:=DctN []) st (λb u e _=>e) hW ⟨p,[],rfl,rfl,zaf,trivial⟩) (.setT st (λb u e _=>e) λb m=>(hW b m).1) q
def zsj:List V->Hp->VK->Prop:=λxs H Q=>∃a kvs,xs = [V.ref a]/\H a=some (.dK kvs)/\∀p,H p=none->Q (.ref p) (upd H p (.dK kvs))
theorem zpj: zca X (.type "dict") zsj:=by
 intro pins s σ H xs us Q I r h;obtain⟨a,kvs,rfl,hH,q⟩:=h;obtain⟨u,rfl,ru⟩:=Vals.one r;cases ru;exact ztd I (.inl hH) λp s' hp I'=>⟨.ref p,_,I',rfl,q p hp⟩
def zvu(i n:Nat):DS:=λDd ρ=>∃kvs,dnIn n ρ kvs/\Dd.nx (ρ.set i (some (.thg (DctN kvs))))
def zvv(n:Nat)(fv fk:DE):DS:=λDd ρ=>∃kvs,ρ[n]? = some (some (.thg (DctN kvs)))/\fv ρ λr=>fk ρ λr2=>∃i:Int,r2.d = .int i/\flat r.d=true/\kvs.at_ i=none/\kvs.length<sizeLine/\Dd.nx (ρ.set n (some (.thg (DctN (kvs ++ [(i,r.d)])))))
theorem ztq{n:Nat}(hv:ED K O tv fv)(hk:ED K O tk fk):SD K O (ze1 (tVar n) tk tv) (zvv n fv fk):=λH₀ A σ H ρ D Dd r q P=>by
 obtain⟨kvs,e,q⟩:=q;refine hv σ H ρ _ _ r.seen q λx H1 r1 s1 o1 q1=>?_;obtain⟨v,hv,a,ws,rfl,w,hH,z⟩:=r.at_ n _ e;refine⟨_,hv,?_⟩;refine hk σ H1 ρ _ _ (r.seen.stp s1) q1 λy H2 r2 s2 o2 zz=>?_;obtain⟨i,e2,fl,nw,ln,q2⟩:=zz;have iy:=o2.is r.ok (s1.p r.p);rw[e2] at iy;cases iy;have m:=(r.own n a w).2.2;have st:=s1.trans s2;have hH2:H2 a=some (.dK ws):=st.s a _ hH m;have z2:NV K H2 ws kvs:=z.to st.t
 have vn:valV ws (.inl i)=none:=by
  have:=(z2.val (i:=i)).1;rw[nw] at this
  cases h:valV ws (.inl i) with
  | none=>rfl
  | some v=>rw[h] at this;cases this
 refine⟨a,_,rfl,DPut.k (k:=.inl i) hH2 (by rw[z2.length];exact ln),?_⟩;rw[ztr vn];have hW:∀c,c=a->(A n c\/H c=QD)/\∃o,upd H2 a (.dK (ws ++ [(.inl i,x)])) c=some o/\OwnO o:=λc e=>by subst e;exact⟨.inl w,_,zaf,ownK⟩
 have stay:∀c u,H2 c=some u->¬A n c->upd H2 a (.dK (ws ++ [(.inl i,x)])) c=some u:=λc u e n=>by
  rw[zac λz=>n (by rw[z];exact w)];exact e
 have ts3:=(r.stp st).tstay stay;have ix:Is K (λ_=>False) (upd H2 a (.dK (ws ++ [(.inl i,x)]))) x r1.d:=Is.flat ts3 (Is.flat s2.t (o1.is r.ok r.p) fl:Is K (λ_=>False) H2 x r1.d) fl;have rr:=r.setT (i:=n) (v:=.ref a) (W:=λc=>c=a) (T:=DctN (kvs ++ [(i,r1.d)])) st stay hW ⟨a,_,rfl,rfl,zaf,(z2.to ts3).snoc fl ix⟩;rw[zd4 hv] at rr;exact P.nx _ _ _ _ rr (.setT st stay λc m=>(hW c m).1) q2
end
section
variable {K:Qa}{O:Ob}
theorem zuh{i n:Nat}:SD K O (tAsg (tCB zsj (zaw (tVar n) tNil)) (zap i)) (zvu i n):=λH₀ A σ H ρ D Dd r q P=>by
 obtain⟨kvs,hd,q⟩:=q;obtain⟨a,ws,h1,nm,e,z⟩:=zc6 r.seen hd;refine⟨_,h1,a,ws,rfl,e,λp hp=>?_⟩;have st:Stp O H (upd H p (.dK ws)):=.new r.ok hp _;have hW:∀b,b=p->(A i b\/H b=QD)/\∃o,upd H p (.dK ws) b=some o/\OwnO o:=λb e=>by subst e;exact⟨.inr hp,_,zaf,ownK⟩
 exact P.nx _ _ _ _ (r.setT (W:=λb=>b=p) (T:=DctN kvs) st (λb u e _=>e) hW ⟨p,ws,rfl,rfl,zaf,z.to st.t⟩) (.setT st (λb u e _=>e) λb m=>(hW b m).1) q
def SDk(K:Qa)(O:Ob)(t:TS)(g:(KD->Prop)->DSt->Prop):Prop:=∀(H₀:Hp) (A:Nat->Addr->Prop) (σ:St) (H:Hp) (ρ:DSt) (R:VK) (Qk:KD->Prop) (Nx:St->Hp->Prop),Rep K O H₀ A H σ ρ->g Qk ρ->(∀kvs a ws H',Qk kvs->Stp O H₀ H'->H₀ a=none->¬O.M a->H' a=some (.dK ws)->NV K H' ws kvs->R (.ref a) H')->t { nx:=Nx,rt:=R } σ H
theorem zyk{m:Nat}:SDk K O (tRet (tVar m)) (λQk ρ=>∃kvs,ρ[m]? = some (some (.thg (DctN kvs)))/\Qk kvs):=λH₀ A σ H ρ R Qk Nx r ⟨kvs,e,q⟩ k=>by
 obtain⟨v,hv,a,ws,rfl,w,hH,z⟩:=r.at_ m _ e;obtain⟨h1,_,h3⟩:=r.own m a w;exact⟨_,hv,k kvs a ws H q r.st h1 h3 hH z⟩
theorem zun{t:TS}(h:SD K O t g1)(h':SDk K O u g2):SDk K O (tSeq t u) (λQk ρ=>g1 { nx:=g2 Qk,rt:=λ_=>False } ρ):=λH₀ A σ H ρ R Qk Nx r q k=>by
 refine h H₀ A σ H ρ _ _ r q ⟨λA' σ' H' ρ' r' _ q'=>?_,λ_ _ _ _ _ _ z=>z.elim,λ_ _ _ _ _ _ z=>z.elim,λ_ _ _ _ _ z=>z.elim⟩;exact h' H₀ A' σ' H' ρ' R Qk Nx r' q' k
def spK(K:Qa)(φ:Ob->Prop)(n:Nat)(f:List VI->(KD->Prop)->Prop):Sp:=λvs H Q _=>
 ∃(O:Ob) (ds:List VI) (Qk:KD->Prop),O.Ok/\φ O/\O.P H/\ds.length=n/\IsAll K (unM O) H vs ds/\f ds Qk/\∀kvs a ws H',Qk kvs->Stp O H H'->H a=none->¬O.M a->H' a=some (.dK ws)->NV K H' ws kvs->Q (.ref a) H'
theorem zx4{φ:Ob->Prop}{n:Nat}{f:List VI->(KD->Prop)->Prop}{ps:List Str}(hn:ps.length=n):∀vs H Q E,spK K φ n f vs H Q E->vs.length=ps.length:=λvs H Q E zz=>by obtain⟨O,ds,_,_,_,_,h,is,_⟩:=zz;rw[is.length,h,hn]
def setK(i n:Nat)(f:List VI->(KD->Prop)->Prop)(g:DA):DS:=λDd ρ=>g ρ λds=>ds.length=n/\f ds λkvs=>Dd.nx (ρ.set i (some (.thg (DctN kvs))))
theorem zwr{i n:Nat}{t:TA}(hφ:φ O)(h:AD K O t g):SD K O (tAsg (zbp (spK K φ n f) [] E t) (zap i)) (setK i n f g):=λH₀ A σ H ρ D Dd r q P=>by
 refine h σ H ρ _ _ r.seen q λvs H1 ds s1 is zz=>?_;obtain⟨hn,q1⟩:=zz;rw[QJ];have r1:=r.stp s1;refine⟨O,ds,_,r.ok,hφ,s1.p r.p,hn,is,q1,λkvs a ws H' qk s2 ha nm e z=>?_⟩;have st:=s1.trans s2
 have ha0:H a=none:=by
  cases h0:H a with
  | none=>rfl
  | some o=>rw[s1.s a o h0 nm] at ha;cases ha
 have hW:∀b,b=a->(A i b\/H b=QD)/\∃o,H' b=some o/\OwnO o:=λb eb=>by subst eb;exact⟨.inr ha0,_,e,ownK⟩
 exact P.nx _ _ _ _ (r.setT (W:=λb=>b=a) (T:=DctN kvs) st (λb u e _=>e) hW ⟨a,ws,rfl,rfl,e,z⟩) (.setT st (λb u e _=>e) λb m=>(hW b m).1) qk
def zu9(n:Nat)(g:DGA):DGA:=λρ Q=>∃T,(ρ[n]? = some (some (.thg T))\/ρ[n]? = some (some (.thr T)))/\g ρ λrs=>Q (.thr T::rs)
theorem z0m{n:Nat}(h':AG K O u g):AG K O (zaw (tVar n) u) (zu9 n g):=λσ H ρ Q Qd S hf k=>by
 obtain⟨T,e,q⟩:=hf
 have:∃v,σ[n]? = some (some v)/\SeenV K O H v (.thr T):=by
  rcases e with e|e
  .obtain⟨v,h1,h2⟩:=S.at_ n _ e;exact⟨v,h1,h2⟩
  .obtain⟨v,h1,h2⟩:=S.at_ n _ e;exact⟨v,h1,h2⟩
 obtain⟨v,h1,h2⟩:=this;refine⟨v,h1,?_⟩;refine h' σ H ρ _ _ S q λvs H2 rs s2 a2 q2=>?_;exact k (v::vs) H2 (.thr T::rs) s2 ⟨.inr (.inr (.inr ⟨T,rfl,SeenV.stp s2 h2⟩)),a2⟩ q2
def gObA(n:Nat)(g:DGA):DGA:=λρ Q=>ρ[n]? = some (some .ob)/\g ρ λrs=>Q (.ob::rs)
theorem z1l{n:Nat}(h':AG K O u g):AG K O (zaw (tVar n) u) (gObA n g):=λσ H ρ Q Qd S hf k=>by
 obtain⟨e,q⟩:=hf;obtain⟨v,h1,h2⟩:=S.at_ n _ e;refine⟨v,h1,?_⟩;refine h' σ H ρ _ _ S q λvs H2 rs s2 a2 q2=>?_;exact k (v::vs) H2 (.ob::rs) s2 ⟨.inr (.inr (.inl ⟨rfl,h2⟩)),a2⟩ q2
end
section
variable {ι κ:Type}{P:VO}{w:VR}{K:Qa}{mg:Str->Option VJ}{base:Heap}{k:Nat}{X:ι->Cx}{O:κ->Ob}{a b:Expr}{fa fb:DE}{pos p px py p1 p2 p3:Pos}{x y:Str}{es:List Expr}{ga:DGA}{g1:DS}{st:Stmt}{sts:List Stmt}
theorem zjv(n:Nat)(hN:∀i,(X i).N.Nodup:=by intro i;exact Go (by kernel_rfl))(hi:∀i,(X i).N[n]? = some x:=by intro i;rfl)(hx:∀i,Loc (X i).env.scope x:=by intro i;first|exact Or.inl rfl|exact Or.inr rfl)
 (hs:∀i,VX (.Dict [] [] p1) (some (.Name x px)) pos.line (X i).env=pure false:=by intro i;rfl) (hf:∀i,(X i).fn x=true\/(X i).env.scope.names.lookup x=some .local:=by intro i;first|exact .inl rfl|exact .inr rfl) :
 S3 K X O (.Assign [.Name x px] (.Dict [] [] p1) pos) (zu4 n):=⟨_,λi=>zbi (hN i) (hi i) (hx i) zta (hs i) (hf i),λj=>zuu⟩
theorem zw3(n m:Nat)(C:Ctx3 P w K mg base k X)(B:Blt mg)(hN:∀i,(X i).N.Nodup:=by intro i;exact Go (by kernel_rfl))(hi:∀i,(X i).N[n]? = some x:=by intro i;rfl)(hx:∀i,Loc (X i).env.scope x:=by intro i;first|exact Or.inl rfl|exact Or.inr rfl)
 (hM:∀i,(X i).N[m]? = some y:=by intro i;rfl) (hv:∀i,Vis (X i).env.scope y:=by intro i;first|exact Or.inl rfl|exact Or.inr (Or.inl rfl)|exact Or.inr (Or.inr rfl)) (hd:(y == ("__debug__" : Str))=false:=by decide) (hcd:(y == ("__classdict__" : Str))=false:=by decide) (hg:∀i,Gl (X i) "dict" := by intro i;rfl) (he:∀i,VM [.Name y py] (X i).env = [(false,eval (.Name y py) (X i).env)]:=by intro i;rfl)
 (hs:∀i,VX (.Call (.Name "dict" p1) [.Name y py] [] p2) (some (.Name x px)) pos.line (X i).env=pure false:=by intro i;rfl) (hf:∀i,(X i).fn x=true\/(X i).env.scope.names.lookup x=some .local:=by intro i;first|exact .inl rfl|exact .inr rfl) :
 S3 K X O (.Assign [.Name x px] (.Call (.Name "dict" p1) [.Name y py] [] p2) pos) (zvu n m) :=
 ⟨_,λi=>zbi (hN i) (hi i) (hx i) (zf5 (X:=X i) zpj (hg i) (by rw[C.hmg];exact B.dict) (by decide +kernel) (zas (zai (pos:=py) (hM i) (hv i) hd hcd) zbj (he i)) (by decide) (by decide) (he i)) (hs i) (hf i),λj=>zuh⟩
theorem zlz(n:Nat)(C:Ctx3 P w K mg base k X)(ha:E3 K X O a fa)(hN:∀i,(X i).N[n]? = some x:=by intro i;rfl)(hv:∀i,Vis (X i).env.scope x:=by intro i;first|exact Or.inl rfl|exact Or.inr (Or.inl rfl)|exact Or.inr (Or.inr rfl))(hd:(x == ("__debug__" : Str))=false:=by decide)(hcd:(x == ("__classdict__" : Str))=false:=by decide)(hm:VU .In (.Name x px)=false:=by rfl):
 E3 K X O (.Compare a [.In] [.Name x px] pos) (inDN false n fa):=let ⟨_,p1,d1⟩:=ha;⟨_,λi=>zzr (zqz (zbe (C.room i)) (p1 i) (zai (pos:=px) (hN i) (hv i) hd hcd)) hm,λj=>zxk (d1 j)⟩
theorem znm(n:Nat)(C:Ctx3 P w K mg base k X)(ha:E3 K X O a fa)(hN:∀i,(X i).N[n]? = some x:=by intro i;rfl)(hv:∀i,Vis (X i).env.scope x:=by intro i;first|exact Or.inl rfl|exact Or.inr (Or.inl rfl)|exact Or.inr (Or.inr rfl))(hd:(x == ("__debug__" : Str))=false:=by decide)(hcd:(x == ("__classdict__" : Str))=false:=by decide)(hm:VU .NotIn (.Name x px)=false:=by rfl):
 T3 K X O (.Compare a [.NotIn] [.Name x px] pos) (bD (inDN true n fa)):=let ⟨_,p1,d1⟩:=ha;⟨_,λi=>zh4 (zjx (zbe (C.room i)) (p1 i) (zai (pos:=px) (hN i) (hv i) hd hcd)) hm,λj=>zgn (zs3 (d1 j))⟩
theorem zji(n:Nat)(C:Ctx3 P w K mg base k X)(ha:E3 K X O a fa)(hN:∀i,(X i).N[n]? = some x:=by intro i;rfl)(hv:∀i,Vis (X i).env.scope x:=by intro i;first|exact Or.inl rfl|exact Or.inr (Or.inl rfl)|exact Or.inr (Or.inr rfl))(hd:(x == ("__debug__" : Str))=false:=by decide)(hcd:(x == ("__classdict__" : Str))=false:=by decide)(hs:NoSl a:=by intro _ _;rfl):
 E3 K X O (.Subscript (.Name x px) a pos) (zvz n fa):=let ⟨_,p1,d1⟩:=ha;⟨_,λi=>zck (zbe (C.room i)) (zai (pos:=px) (hN i) (hv i) hd hcd) (p1 i) hs,λj=>ztg (d1 j)⟩
theorem zw1(n:Nat)(C:Ctx3 P w K mg base k X)(hv:E3 K X O a fa)(hi:E3 K X O b fb)(hN:∀i,(X i).N[n]? = some x:=by intro i;rfl)(hvx:∀i,Vis (X i).env.scope x:=by intro i;first|exact Or.inl rfl|exact Or.inr (Or.inl rfl)|exact Or.inr (Or.inr rfl))(hd:(x == ("__debug__" : Str))=false:=by decide)(hcd:(x == ("__classdict__" : Str))=false:=by decide)
 (hs:∀i,VX a (some (.Subscript (.Name x px) b p1)) pos.line (X i).env=pure false:=by intro i;rfl) :
 S3 K X O (.Assign [.Subscript (.Name x px) b p1] a pos) (zvv n fa fb):=let ⟨_,q1,d1⟩:=hv;let ⟨_,q2,d2⟩:=hi;⟨_,λi=>zdz (zbe (C.room i)) (zai (pos:=px) (hN i) (hvx i) hd hcd) (q2 i) (q1 i) (hs i),λj=>ztq (d1 j) (d2 j)⟩
def Sk3(K:Qa)(X:ι->Cx)(O:κ->Ob)(s:List Stmt)(g:(KD->Prop)->DSt->Prop):Prop:=∃t,(∀i,PSs (X i) s t)/\∀j,SDk K (O j) t g
theorem zu5(m:Nat)(hN:∀i,(X i).N[m]? = some x:=by intro i;rfl)(hv:∀i,Vis (X i).env.scope x:=by intro i;first|exact Or.inl rfl|exact Or.inr (Or.inl rfl)|exact Or.inr (Or.inr rfl))(hd:(x == ("__debug__" : Str))=false:=by decide)(hcd:(x == ("__classdict__" : Str))=false:=by decide):
 Sk3 K X O [.Return (some (.Name x px)) pos] (λQk ρ=>∃kvs,ρ[m]? = some (some (.thg (DctN kvs)))/\Qk kvs):=⟨_,λi=>zbz (zdl (zai (hN i) (hv i) hd hcd)),λj=>zyk⟩
theorem zf1(h:S3 K X O st g1)(h':Sk3 K X O sts g2):Sk3 K X O (st::sts) (λQk ρ=>g1 { nx:=g2 Qk,rt:=λ_=>False } ρ):=let ⟨_,p,d⟩:=h;let ⟨_,p2,d2⟩:=h';⟨_,λi=>za5 (p i) (p2 i),λj=>zun (d j) (d2 j)⟩
theorem zid(n:Nat)(hs:AG3 K X O es ga)(hN:∀i,(X i).N[n]? = some x:=by intro i;rfl)(hv:∀i,Vis (X i).env.scope x:=by intro i;first|exact Or.inl rfl|exact Or.inr (Or.inl rfl)|exact Or.inr (Or.inr rfl))(hd:(x == ("__debug__" : Str))=false:=by decide)(hcd:(x == ("__classdict__" : Str))=false:=by decide)
 (he:∀i,VM (.Name x px::es) (X i).env=(false,eval (.Name x px) (X i).env)::VM es (X i).env:=by intro i;rfl):AG3 K X O (.Name x px::es) (zu9 n ga):=let ⟨_,p2,d2⟩:=hs;⟨_,λi=>zas (zai (hN i) (hv i) hd hcd) (p2 i) (he i),λj=>z0m (d2 j)⟩
theorem g_ob(n:Nat)(hs:AG3 K X O es ga)(hN:∀i,(X i).N[n]? = some x:=by intro i;rfl)(hv:∀i,Vis (X i).env.scope x:=by intro i;first|exact Or.inl rfl|exact Or.inr (Or.inl rfl)|exact Or.inr (Or.inr rfl))(hd:(x == ("__debug__" : Str))=false:=by decide)(hcd:(x == ("__classdict__" : Str))=false:=by decide)
 (he:∀i,VM (.Name x px::es) (X i).env=(false,eval (.Name x px) (X i).env)::VM es (X i).env:=by intro i;rfl):AG3 K X O (.Name x px::es) (gObA n ga):=let ⟨_,p2,d2⟩:=hs;⟨_,λi=>zas (zai (hN i) (hv i) hd hcd) (p2 i) (he i),λj=>z1l (d2 j)⟩
theorem z0p(n:Nat){k' m:Nat}(C:Ctx3 P w K mg base k X)(D:Def3 P w K mg base k' y ps (spK K φ m F))(hφ:∀j,φ (O j))(ha:A3 K X O (a::es) gd)(hk:k'<=k:=by decide)(hg:∀i,Gl (X i) y:=by intro i;rfl)
 (hdb:(y == ("__debug__" : Str))=false:=by decide) (he:∀i,VM (a::es) (X i).env=(false,eval a (X i).env)::VM es (X i).env:=by intro i;rfl) (hpl:∀i,(Ui p2 (VM es (X i).env)).any (·.1)=false:=by intro i;rfl)
 (hN:∀i,(X i).N.Nodup:=by intro i;exact Go (by kernel_rfl)) (hi:∀i,(X i).N[n]? = some x:=by intro i;rfl) (hx:∀i,Loc (X i).env.scope x:=by intro i;first|exact Or.inl rfl|exact Or.inr rfl)
 (hs:∀i,VX (.Call (.Name y p1) (a::es) [] p2) (some (.Name x px)) pos.line (X i).env=pure false:=by intro i;rfl) (hf:∀i,(X i).fn x=true\/(X i).env.scope.names.lookup x=some .local:=by intro i;first|exact .inl rfl|exact .inr rfl) :
 S3 K X O (.Assign [.Name x px] (.Call (.Name y p1) (a::es) [] p2) pos) (setK n m F gd):=by
 obtain⟨f,fd,G,mm,kp,bn⟩:=D.ex;obtain⟨t,q,d⟩:=ha;refine⟨tAsg (zbp (spK K φ m F) [] E0 t) (zap n),λi=>?_,λj=>zwr (hφ j) (d j)⟩;have G':FnOk (X i).prog (X i).w (X i).K (X i).mg (X i).base CX0 k f fd ps (spK K φ m F):=by rw[C.hP,C.hw,C.hK,C.hmg,C.hb];exact G.mono hk
 exact zbi (hN i) (hi i) (hx i) (zb7 G' (C.room i) (hg i) (by rw[C.hmg];exact mm) (by rw[C.hK];exact kp) (by rw[C.hK];exact bn) .nil zdg (q i) hdb (he i) (hpl i)) (hs i) (hf i)
end
section
variable {P:VO}{w:VR}{K:Qa}{mg:Str->Option VJ}{base:Heap}{k n:Nat}{x:Str}{st:Stmt}{N ps:List Str}{φ:Ob->Prop}{F:List VI->(KD->Prop)->Prop}
theorem mk_K(T:Top3 K mg x st)(S:FnScope N ps (zad st))(hb:∀(kV doc pm:VJ) (an:Option Addr) (cdv ct:VJ) (us:List VJ),us.length=ps.length->Uc (Zb x x (zbk st) (zay st) (zad st) .none kV doc pm an cdv ct) ⟨us,[]⟩=pure (ps.zip us))(hn:ps.length=n)
 (body:∀(f:Addr) (cdv:VJ) (A:VY) (outer:List Env) (s:VN) (H:Hp) (E:XK) (O:Ob),φ O->Ctx3 P w K mg base k (zbq P w K mg base N x (zad st) f cdv A outer s H E) ->
  ∃g,Sk3 K (zbq P w K mg base N x (zad st) f cdv A outer s H E) (λ_:Unit=>O) (zay st) g/\∀ds Qk,ds.length=n->F ds Qk->g Qk (za9 N (ds.map .im))):Def3 P w K mg base (k+1) x ps (spK K φ n F):=by
 obtain⟨f,fd,Fu,m⟩:=T.ex;refine⟨f,fd,Fu.ok S (zx4 hn) (λcdv A outer s H vs Q E hr h=>?_),m,Fu.kp,Fu.binds hb⟩;obtain⟨O,ds,Qk,ok,hφ,p,hl,is,q,kk⟩:=h;obtain⟨g,⟨t,h1,h2⟩,h3⟩:=body f cdv A outer s H E O hφ (zcb hr);refine⟨t,h1 (),?_⟩
 have r:=zec (K:=K) (O:=O) (N:=N) (H:=H) (vs:=vs) (rs:=ds.map .im) ok p (by rw[Qb];exact is.length) λi r e=>by
  rw[Qj] at e;obtain⟨d,hd,rfl⟩:=Qf.mp e;obtain⟨v,hv,iv⟩:=is.get hd;exact⟨v,hv,.inl ⟨d,rfl,iv⟩⟩
 exact h2 () H _ _ H _ Q Qk _ r (h3 ds Qk hl q) λkvs a ws H' qk s2 ha nm e z=>kk kvs a ws H' qk s2 ha nm e z
end
def ThG(n:Int):GThg->Prop
 | .nm i=>0<=i/\i<n
 | .lt w=>∃c,zdx c/\w = [c]
structure GTOk(g:GraZ):Prop where
 n1:1<=g.n
 n3:g.n<=3
 many:g.rs.length<=6
 each:∀r∈g.rs,(0<=r.n/\r.n<g.n)/\r.b.length<=3/\(nms r.b).length<=2/\∀t∈r.b,ThG g.n t
def zjf:List VI->(R->Prop)->Prop:=λds Q=>∃d,ds = [d]/\((∃i:Int,d = .int i/\Q (.o (.bool true)))\/∃x:List VI,d = .tuple x/\Q (.o (.bool false)))
def ze6(m:Nat):List VI->(R->Prop)->Prop:=λds Q=>∃(g:GraZ) (x:Int) (d:VI),ds = [zao g,.int x,d]/\GTOk g/\Lk m d/\Q (.o (.bool (g.isT m x d)))
def Nt:Nat->VI->Prop
 | 0,_=>False
 | n+1,d=>∃a ks,d=zam a ks/\ks.length<=2/\∀k∈ks,Nt n k
theorem Nt.up:∀{n:Nat} {d:VI},Nt n d->Nt (n+1) d
 | 0,_,h=>h.elim
 | n+1,d,h=>by
   obtain⟨a,ks,e,l,hk⟩:=h;exact⟨a,ks,e,l,λk m=>(hk k m).up⟩
theorem Nt.more{n m:Nat}{d:VI}(h:Nt n d)(e:n<=m):Nt m d:=by
 induction e with
 | refl=>exact h
 | step _ ih=>exact ih.up
theorem Nt.lk:∀{n:Nat} {d:VI},Nt n d->Lk n d
 | 0,_,h=>h.elim
 | n+1,d,h=>by
   obtain⟨a,ks,e,l,hk⟩:=h;exact .inl ⟨a,ks,e,by lia,λk m=>(hk k m).lk⟩
structure TreesOk(g:GraZ)(kvs:KD):Prop where
 len:kvs.length<=3
 nd:(kvs.map (·.1)).Nodup
 nt:∀p∈kvs,Nt kvs.length p.2
 rule:∀p∈kvs,∃r∈g.rs,r.n=p.1/\∀i∈nms r.b,(kvs.at_ i).isSome=true
 nm:∀p∈kvs,0<=p.1/\p.1<g.n
theorem znt{α:Type}[DecidableEq α]:∀{zs ys:List α},zs.Nodup->(∀z∈zs,z∈ys)->zs.length<=ys.length
 | [],ys,_,_=>QC _
 | z::zs,ys,nd,h=>by
   have n:=Zr.mp nd;have hz:=h z (by simp);have:=znt (zs:=zs) (ys:=ys.erase z) n.2 λx hx=>(Y8 (show x≠z from λe=>n.1 (by rw[<- e];exact hx))).mpr (h x (by simp[hx]));rw[Yc hz] at this;have:=Jy hz;rw[Qs];lia
theorem KD.some_app{i:Int}(h:(kvs.at_ i).isSome=true):(KD.at_ (kvs++ext) i).isSome=true:=by
 unfold KD.at_ at h ⊢;rw[List.find?_append]
 cases z:kvs.find? λp=>decide (p.1=i) with
 | none=>rw[z] at h;cases h
 | some p=>rfl
theorem KD.mem{kvs:KD}{i:Int}{d:VI}(h:kvs.at_ i=some d):(i,d)∈kvs:=by
 unfold KD.at_ at h;obtain⟨p,hp,rfl⟩:=Qf.mp h;have h1:=List.mem_of_find?_eq_some hp;have h0:decide (p.1=i)=true:=List.find?_some (p:=λp:Int×VI=>decide (p.1=i)) hp;have h2:=Go h0;have:(i,p.2)=p:=Prod.ext h2.symm rfl;rw[this];exact h1
theorem KD.none{kvs:KD}{i:Int}(h:kvs.at_ i=QD):i ∉ kvs.map (·.1):=λm=>by
 obtain⟨p,hp,e⟩:=Q8.mp m;unfold KD.at_ at h;have h:=Option.map_eq_none_iff.mp h;have:=List.find?_eq_none.mp h p hp;exact this (Gq e)
theorem zrs: TreesOk g []:=⟨QC _,.nil,(λ_ h=>by cases h),(λ_ h=>by cases h),(λ_ h=>by cases h)⟩
theorem TreesOk.put(ok:GTOk g)(h:TreesOk g (kvs++ext))(hr:r∈g.rs)(nw:KD.at_ (kvs++ext) r.n=none)(hn:∀i∈nms r.b,(kvs.at_ i).isSome=true)(h0:∀p∈kvs,Nt kvs.length p.2){a:Int}(hl:ks.length<=2)(hk:∀k∈ks,∃i,kvs.at_ i=some k):TreesOk g ((kvs++ext) ++ [(r.n,zam a ks)]):=by
 have n3:=ok.n3;have er:=ok.each r hr
 have nm:∀p∈(kvs++ext) ++ [(r.n,zam a ks)],0<=p.1/\p.1<g.n:=λp hp=>by
  rcases Q9.mp hp with hp|hp
  .exact h.nm p hp
  .rw[Qn.mp hp];exact er.1
 have nd:(((kvs++ext) ++ [(r.n,zam a ks)]).map (·.1)).Nodup:=by
  rw[Q6];refine ZR.mpr ⟨h.nd,by simp,λx hx y hy e=>KD.none nw ?_⟩;rw[<- e] at hy;rw[<- (show x=r.n by simpa using hy)];exact hx
 refine⟨?_,nd,λp hp=>?_,λp hp=>?_,nm⟩
 .have:=znt (ys:=[0,1,2]) nd λz hz=>by
   obtain⟨p,hp,rfl⟩:=Q8.mp hz;have:=nm p hp;have:p.1=0\/p.1=1\/p.1=2:=by lia
   simpa using this
  rw[Qb] at this;exact this
 .rw[Qi,QH];rcases Q9.mp hp with hp|hp
  .exact(h.nt p hp).up
  .rw[Qn.mp hp];refine⟨a,ks,rfl,hl,λk m=>?_⟩;obtain⟨i,hi⟩:=hk k m;exact(h0 _ (KD.mem hi)).more (by rw[Qi];lia)
 .rcases Q9.mp hp with hp|hp
  .obtain⟨r',h1,h2,h3⟩:=h.rule p hp;exact⟨r',h1,h2,λi hi=>KD.some_app (h3 i hi)⟩
  .rw[Qn.mp hp];exact⟨r,hr,rfl,λi hi=>KD.some_app (KD.some_app (hn i hi))⟩
theorem zkw(h:ze6 0 ds Q):False:=by obtain⟨g,x,d,_,_,lk,_⟩:=h;exact lk
theorem zn7{f:Int->VI->Bool}:∀(N:List Int) (ks:List VI) (pre:List Int),N.length=ks.length->((ks.zipIdx pre.length).map λp=>f ((pre++N).getD p.2 0) p.1).all id=(N.zip ks).all λp=>f p.1 p.2
 | [],[],_,_=>rfl
 | [],_::_,_,h=>by simp at h
 | _::_,[],_,h=>by simp at h
 | x::N,k::ks,pre,h=>by
   have ih:=zn7 (f:=f) N ks (pre ++ [x]) (by simpa using h);rw[Qi,QH,QZ] at ih;have e:(pre++x::N).getD pre.length 0=x:=by rw[Z4,Q7 (Qe _),Nat.sub_self];rfl
   rw[List.zipIdx_cons,Qp,YG,YO,YG,e];exact Gr _ ih
def zv2(p:VI×Nat):VI:=.tuple [.int (p.2:Nat),p.1]
theorem zhx(ks:List VI):zeh ks=ks.zipIdx.map zv2:=by
 unfold zeh;rw[List.mapIdx_eq_zipIdx_map];rfl
theorem zla{g:GraZ}{a:Int}(h:thB a g.rs.length=true):idxF (.tuple (g.rs.map zbd)) (.int a)=some (.o (zbd (g.at_ a))):=by
 obtain⟨h1,_,h0,_⟩:=zcf h;have e:a=((a.toNat:Nat):Int):=by lia
 rw[e];exact zxp (by rw[Qj,<- e,h1];rfl)
def gT2(i:Nat)(is:List Nat):DG:=λd ρ Q=>∃d1 ds,d = .tuple [d1,.tuple ds]/\gTD is ds (ρ.set i (some (.im d1))) Q
section
variable {K:Qa}{O:Ob}
theorem zyi{i:Nat}{is:List Nat}{t:TGs}{n:Nat}(hn:is.length=n)(ht:GSs K O t is):GS K O (gTup K 2 (zdu (zap i) (zdu (gTup K n t) gNil))) (gT2 i is):=λσ H ρ v d Q Qd S h q k=>by
 obtain⟨d1,ds,rfl,q⟩:=q
 cases h with
 | tuple a r=>
   cases r with
   | cons r1 r=>
     cases r with
     | cons r2 r=>
       cases r;refine⟨_,_,rfl,a,rfl,_,_,rfl,_,_,rfl,?_⟩
       cases r2 with
       | tuple b r3=>exact⟨_,_,rfl,b,by rw[r3.length,zet q];exact hn,ht _ H _ _ ds _ Qd (S.set (r:=.im _) r1) r3 q λσ' ρ' S' q'=>⟨rfl,k σ' ρ' S' q'⟩⟩
theorem zwq{i:Nat}{is:List Nat}{t:TGs}{n:Nat}(hn:is.length=n)(ht:GRs K O t is):GR K O (gTup K 2 (zdu (zap i) (zdu (gTup K n t) gNil))) (gT2 i is):=λH₀ A σ H ρ v d Q Qd r fl h q k=>by
 obtain⟨d1,ds,rfl,q⟩:=q;have fl:(flat d1 && (flats ds && true))=true:=fl;rw[QV,QV] at fl
 cases h with
 | tuple a r0=>
   cases r0 with
   | cons r1 r0=>
     cases r0 with
     | cons r2 r0=>
       cases r0;refine⟨_,_,rfl,a,rfl,_,_,rfl,_,_,rfl,?_⟩
       cases r2 with
       | tuple b r3=>
         have f1:Frm O A H (λj a=>j≠i/\A j a) H:=.setIm (.refl _ _);exact⟨_,_,rfl,b,by rw[r3.length,zet q];exact hn,ht _ _ _ H _ _ ds _ Qd (r.setIm r1) fl.2.1 (IsAll.flats (TupStay.refl H) r3 fl.2.1) q λA' σ' ρ' r' f q'=>⟨rfl,k A' σ' ρ' r' (f1.trans f) q'⟩⟩
end
section
variable {ι κ:Type}{P:VO}{w:VR}{K:Qa}{mg:Str->Option VJ}{base:Heap}{k:Nat}{X:ι->Cx}
theorem zrh{h n:Nat}{is:List Nat}{j1 j2:Nat}(C:Ctx3 P w K mg base k X)(m:Nat)(hr:Gs3 K X h es is)(hlt:m<h:=by decide)(hn:is.length=n:=by rfl)(hN:∀i,(X i).N.Nodup:=by intro i;exact Go (by kernel_rfl))(hi:∀i,(X i).N[m]? = some x:=by intro i;rfl)(hx:∀i,Loc (X i).env.scope x:=by intro i;first|exact Or.inl rfl|exact Or.inr rfl)
 (hf:∀i,(X i).fn x=true\/(X i).env.scope.names.lookup x=some .local:=by intro i;first|exact .inl rfl|exact .inr rfl)
 (hn2:∀i,(VW es (X i).env).length=n:=by intro i;rfl) (hst:∀i,(VW es (X i).env).findIdx? (·.1)=none:=by intro i;rfl)
 (hs1:∀i,(VW [.Name x px,.Tuple es j1 p1] (X i).env).map (·.2)=UI (.Name x px) (X i).env::(VW [.Tuple es j1 p1] (X i).env).map (·.2):=by intro i;rfl) (hs2:∀i,(VW [.Tuple es j1 p1] (X i).env).map (·.2)=UI (.Tuple es j1 p1) (X i).env::(VW [] (X i).env).map (·.2):=by intro i;rfl)
 (hl:∀i,(VW [.Name x px,.Tuple es j1 p1] (X i).env).length=2:=by intro i;rfl) (hl2:∀i,(VW [.Name x px,.Tuple es j1 p1] (X i).env).findIdx? (·.1)=none:=by intro i;rfl) :
 G3 K X h (.Tuple [.Name x px,.Tuple es j1 p1] j2 p2) (gT2 m is) :=
 let ⟨_,p,d1,d2,o,mo⟩:=hr;⟨_,λi=>by
  have z:=zmu (pos:=p1) (k:=j1) (C.calm i) (p i) (hn2 i) (hst i);have y:=zmu (pos:=p2) (k:=j2) (C.calm i) (zhn (zc7 (pos:=px) (hN i) (hi i) (hx i) (hf i)) (zhn z zn2 (hs2 i)) (hs1 i)) (hl i) (hl2 i);rw[C.hK] at y
  exact y,λO=>zyi hn (d1 O),λO=>zwq hn (d2 O),zi2 (zhk zhg (zmy (znz mo) ziz) (zc8 hlt) (zhk (znz mo) ziz (zi2 o) zno))⟩
end
def rSum:List V->Hp->VK->Prop:=λxs H Q=>∃(p:Addr) (ns:List Int),xs = [.ref p]/\H p=some (.lst (ns.map V.int))/\Q (.int ns.sum) H
theorem zkc:∀{ns:List Int} {us:List VJ},Vals (ns.map V.int) us->∀(i:Nat) (v:VJ),us[i]? = some v->∃t,v = .int (ns.getD i 0) t
 | [],us,r,i,v,h=>by cases r;simp at h
 | n::ns,us,r,i,v,h=>by
   rw[Qp] at r
   cases r with
   | cons a b=>
     cases i with
     | zero=>cases h;exact a
     | succ i=>exact zkc b i v (by simpa using h)
theorem zsh(hc:X.calm=true):zca X (.builtin "sum") rSum:=by
 intro pins s σ H xs us Q I r h;obtain⟨p,ns,rfl,hH,q⟩:=h;obtain⟨u,rfl,ru⟩:=Vals.one r;cases ru;obtain⟨z,its,n,rv,hl,e⟩:=I.lstM hH;have pl:s.heap.IsList p its.toArray:=⟨_,e,rfl,_,rfl⟩;have lt:=Qt e;have hne:p≠s.heap.objs.size:=Q5 lt;refine call_sum_walkG (U6 pl ?_);refine⟨s.heap.objs.size,_,_,_,_,_,λi=>ns.getD i 0,rfl,Walks.list (A:=X.A.in1) (I.ok.hd hc) _ p hne its.toArray,⟨⟨_,Qv _ rfl,rfl,rfl⟩,_,Qg _ e,rfl,_,rfl⟩,λb hb=>?_,λi v hv=>?_,λh' tk t' kk=>?_⟩
 .rw[QW];rcases Q1.mp hb with rfl|hb
  .exact Yg _
  .rw[Qn.mp hb];exact ZQ lt
 .exact zkc rv i v (by rw[<- Y0];exact hv)
 .have I1:Inv X pins σ H { s with heap:=h',toks:=tk }:=I.kept λb o eb=>kk b o (by simp;exact Q5 (Qt eb)) (Qg _ eb);refine⟨.int ns.sum,H,I1,⟨t',?_⟩,q⟩;have lz:its.toArray.size=ns.length:=by rw[Qq,<- hl,Qb]
  rw[lz,preSum_getD,QX]
def sumD:List VI->(R->Prop)->Prop:=λds Q=>∃ns:List Int,ds = [.list (ns.map .int)]/\Q (.o (.int ns.sum))
section
variable {K:Qa}{O:Ob}
theorem zzu:zdv K O rSum sumD:=λH vs ds Q Qd ok p is ⟨ns,e,q⟩ k=>by
 subst e;obtain⟨v,rfl,iv⟩:=zbs is
 cases iv with
 | list f1 h1 s1=>
   rw[zh6 s1] at h1;exact⟨_,ns,rfl,h1,k _ H (.o _) (.refl _ _) (Is.int _) q⟩
end
theorem zzv:VS (Zf "sum")=some (.builtin "sum"):=boot_sum
theorem z1r{ι κ:Type}{P:VO}{w:VR}{K:Qa}{mg:Str->Option VJ}{base:Heap}{k:Nat}{X:ι->Cx}{O:κ->Ob}{a:Expr}{ga:DA}{pos p:Pos}(C:Ctx3 P w K mg base k X)(B:Blt mg)(ha:A3 K X O [a] ga)(hg:∀i,Gl (X i) "sum" := by intro i;rfl)(he:∀i,VM [a] (X i).env=(false,eval a (X i).env)::VM [] (X i).env:=by intro i;rfl):E3 K X O (.Call (.Name "sum" p) [a] [] pos) (zc3 sumD ga) :=
 zlf C (λi=>zsh (C.calm i)) (λ_=>zzu) zzv B.sum ha hg (by decide) (by decide) he
def zik(K:Qa)(m:Nat):TE:=tBM K "list" zgd (tVar m) (zaw (tC (.int 0)) tNil)
section
variable {K:Qa}{O:Ob}{H₀ H:Hp}{A:Nat->Addr->Prop}{σ:St}{ρ:DSt}
theorem zw7{m:Nat}{d:VI}(r:Rep K O H₀ A H σ ρ)(e:ρ[m]? = some (some (.own (d::ds))))(fl:flat d=true)
 (k:∀y H',Rep K O H₀ A H' σ (ρ.set m (some (.own ds)))->Frm O A H A H'->(∀F,Is K F H' y d)->Q y H'):zik K m σ H Q:=by
 obtain⟨v,hv,a,xs,rfl,ha,hl,hs⟩:=r.at_ m _ e
 cases hs with
 | @cons y ys _ _ iy hs=>
   refine⟨_,hv,.inl ⟨rfl,_,.of hl⟩,a,y::ys,0,0,y,rfl,rfl,hl,by decide,by decide,?_,rfl,?_⟩
   .unfold UM;simp
   .have ts:TupStay H (upd H a (.lst ys)):=λb o ho hb=>by
     rw[zac]
     .exact hb
     .intro z;subst z;rw[hl] at hb;cases hb;obtain⟨ys,h1|⟨_,h1⟩⟩:=ho <;> cases h1
    exact k y _ (r.change e hv ha hs) (Frm.change ha) λF=>Is.flat ts iy fl
def zmi(n m:Nat)(fe:DE)(fc:DT)(fa:DE):DS:=λDd ρ=>fe ρ λr=>∃s:Str,r.d = .str s/\fc ρ λb=>if b=true then fa ρ λr1=>∃t y:Str,r1.d = .str t/\addF (.str s) (.str t)=some (.o (.str y))/\Dd.nx (ρ.set n (some (.im (.str y)))) else ∃(t y:Str) (ds:List VI),ρ[m]? = some (some (.own (.str t::ds)))/\addF (.str s) (.str t)=some (.o (.str y))/\Dd.nx ((ρ.set m (some (.own ds))).set n (some (.im (.str y))))
theorem zq2{n m:Nat}(he:ED K O te fe)(hc:TD K O tc fc)(ha:ED K O ta fa):SD K O (tAsg (tOp (zk7 K) te (tIf tc ta (zik K m))) (zap n)) (zmi n m fe fc fa):=λH₀ A σ H ρ D Dd r q P=>by
 refine he σ H ρ _ _ r.seen q λv H1 x s1 o1 zz=>?_;obtain⟨s,ex,q1⟩:=zz;have r1:=r.stp s1;have iv:=o1.is r.ok r.p;rw[ex] at iv;cases iv;refine hc σ H1 ρ _ _ r1.seen q1 λb H2 s2 q2=>?_;have r2:=r1.stp s2
 cases b with
 | true=>
   show ta σ H2 _;refine ha σ H2 ρ _ _ r2.seen q2 λw H3 z s3 o3 zz=>?_;obtain⟨t,y,ez,eq,q3⟩:=zz;have r3:=r2.stp s3;have iw:=o3.is r2.ok r2.p;rw[ez] at iw;refine zi6 (O:=O) (K:=K) H3 _ _ (.str s) (.str t) _ (λz=>z = .o (.str y)) r3.ok r3.p (Is.str _) iw ⟨_,eq,rfl⟩ λu H4 c s4 o4 ec=>?_;subst ec;exact P.nx _ _ H4 _ ((r3.stp s4).setIm (Is.flat (TupStay.refl H4) o4 rfl)) ((((Frm.stp s1).trans (.stp s2)).trans (.stp s3)).trans (.setIm s4)) q3
 | false=>
   obtain⟨t,y,ds,em,eq,q2⟩:=q2;show zik K m σ H2 _;refine zw7 r2 em rfl λw H3 r3 f3 iw=>?_;refine zi6 (O:=O) (K:=K) H3 _ _ (.str s) (.str t) _ (λz=>z = .o (.str y)) r3.ok r3.p (Is.str _) (iw _) ⟨_,eq,rfl⟩ λu H4 c s4 o4 ec=>?_;subst ec;exact P.nx _ _ H4 _ ((r3.stp s4).setIm (Is.flat (TupStay.refl H4) o4 rfl)) ((((Frm.stp s1).trans (.stp s2)).trans f3).trans (.setIm s4)) q2
end
section
variable {ι κ:Type}{P:VO}{w:VR}{K:Qa}{mg:Str->Option VJ}{base:Heap}{k:Nat}{X:ι->Cx}{O:κ->Ob}{a b c e:Expr}{fa fe:DE}{fc:DT}{pos:Pos}{x y:Str}{px py apos cpos p0 p1 p2 p3 p4:Pos}{j0:Nat}
theorem zye{X:Cx}{m:Nat}(hM:X.N[m]? = some y)(hv:Vis X.env.scope y)(hd:(y == ("__debug__" : Str))=false)(hcd:(y == ("__classdict__" : Str))=false)(hbase:Ul (.Name y py) "pop" X.env (eval (.Name y py) X.env)=eval (.Name y py) X.env)(hline:(apos.endLine == cpos.line)=true)
 (hfew:((Ui cpos (VM [.Constant (.int 0) j0 p0] X.env)).all (λx=>!x.1) && (UJ cpos (Ux [] X.env)).all (λx=>x.1.isSome) && decide (([.Constant (.int 0) j0 p0]:List Expr).length+([]:List Uv).length+(if([]:List Uv).isEmpty then 0 else 1)<30))=true)
 (hs:VM [.Constant (.int 0) j0 p0] X.env = [(false,eval (.Constant (.int 0) j0 p0) X.env)]) :
 PE X (.Call (.Attribute (.Name y py) "pop" apos) [.Constant (.int 0) j0 p0] [] cpos) (zik X.K m) :=
 zli (apos:=apos) (cpos:=cpos) ZH J2 J4 (zkj (X:=X)) (zai (pos:=py) hM hv hd hcd) (zas za0 zbj hs) hbase hfew hline hs
theorem zsw(n m:Nat)(C:Ctx3 P w K mg base k X)(he:E3 K X O e fe)(hc:T3 K X O c fc)(ha:E3 K X O a fa)(hM:∀i,(X i).N[m]? = some y:=by intro i;rfl)(hvy:∀i,Vis (X i).env.scope y:=by intro i;first|exact Or.inl rfl|exact Or.inr (Or.inl rfl)|exact Or.inr (Or.inr rfl))(hdy:(y == ("__debug__" : Str))=false:=by decide)(hcy:(y == ("__classdict__" : Str))=false:=by decide)
 (hb0:∀i,Ul (.Name y py) "pop" (X i).env (eval (.Name y py) (X i).env)=eval (.Name y py) (X i).env:=by intro i;rfl) (hl0:(p1.endLine == p2.line)=true:=by rfl)
 (hf0:∀i,((Ui p2 (VM [.Constant (.int 0) j0 p0] (X i).env)).all (λx=>!x.1) && (UJ p2 (Ux [] (X i).env)).all (λx=>x.1.isSome) && decide (([.Constant (.int 0) j0 p0]:List Expr).length+([]:List Uv).length+(if([]:List Uv).isEmpty then 0 else 1)<30))=true:=by intro i;rfl)
 (hs0:∀i,VM [.Constant (.int 0) j0 p0] (X i).env = [(false,eval (.Constant (.int 0) j0 p0) (X i).env)]:=by intro i;rfl)
 (hN:∀i,(X i).N.Nodup:=by intro i;exact Go (by kernel_rfl)) (hi:∀i,(X i).N[n]? = some x:=by intro i;rfl) (hx:∀i,Loc (X i).env.scope x:=by intro i;first|exact Or.inl rfl|exact Or.inr rfl)
 (hs:∀i,VX (.BinOp e .Add (.IfExp c a (.Call (.Attribute (.Name y py) "pop" p1) [.Constant (.int 0) j0 p0] [] p2) p3) p4) (some (.Name x px)) pos.line (X i).env=pure false:=by intro i;rfl) (hf:∀i,(X i).fn x=true\/(X i).env.scope.names.lookup x=some .local:=by intro i;first|exact .inl rfl|exact .inr rfl) :
 S3 K X O (.Assign [.Name x px] (.BinOp e .Add (.IfExp c a (.Call (.Attribute (.Name y py) "pop" p1) [.Constant (.int 0) j0 p0] [] p2) p3) p4) pos) (zmi n m fe fc fa) :=
 let ⟨te,qe,de⟩:=he;let ⟨tc,q,d⟩:=hc;let ⟨t1,q1,d1⟩:=ha;⟨tAsg (tOp (zk7 K) te (tIf tc t1 (zik K m))) (zap n),λi=>by
  have h0:=zye (X:=X i) (py:=py) (apos:=p1) (cpos:=p2) (hM i) (hvy i) hdy hcy (hb0 i) hl0 (hf0 i) (hs0 i);have h:=za8 (pos:=p4) (zn5 (X:=X i)) (qe i) (zlq (pos:=p3) (q i) (q1 i) h0);rw[C.hK] at h
  exact zbi (hN i) (hi i) (hx i) h (hs i) (hf i),λj=>zq2 (de j) (d j) (d1 j)⟩
end
theorem zna{prog:VO}{i j:Int}{t:Tok}(hr:s.heap.get? r=some { cls:=.type "range",data:=.fields #[.int 0 t,.int j u,.int 1 v] })
 (h:Q (.bool (!(decide (0<=i) && decide (i<j)))) s):wpAny (model prog w) A (Ub .NotIn (.int i y) (.ref r)) Q E s:=by
 have T:s.TypeIs (.ref r) "range" := ⟨_,hr,rfl⟩;show wpAny _ _ (contains (.ref r) (.int i y) >>= _) _ _ _;refine VL ?_;unfold PySem.contains;refine UQ ?_;show wpAny _ _ (specialOf (.ref r) (Zf "__contains__") >>= _) _ _ _;refine VL (U1 T ZT.lookup ?_);dsimp only;rw[Gn (by decide)];refine VL (wpAny_callSpecialUnlessNone?_slot T ZT (Ua ZT T PySem.F.entry_range_contains ?_ (PySem.F.args_range_contains_2 _ _)));unfold Builtin.«range.__contains__»;have f0:∀{A:VY} {Q:VJ->VN->Prop},Q (.int 0 t) s->wpAny (model prog w) A (field (.ref r) 0) Q E s:=λq=>VT hr rfl rfl q;have f1:∀{A:VY} {Q:VJ->VN->Prop},Q (.int j u) s->wpAny (model prog w) A (field (.ref r) 1) Q E s:=λq=>VT hr rfl rfl q;have f2:∀{A:VY} {Q:VJ->VN->Prop},Q (.int 1 v) s->wpAny (model prog w) A (field (.ref r) 2) Q E s:=λq=>VT hr rfl rfl q
 wp_walk using f0,f1,f2
 refine⟨_,rfl,?_⟩;dsimp only
 have e:(JY 0 j 1 i).isSome=(decide (0<=i) && decide (i<j)):=by
  unfold JY;cases h0:decide (0<=i) <;> cases h1:decide (i<j) <;> simp_all
 rw[e]
 wp_walk
 exact h
def zvq(ta:TE)(tb:TA):TE:=λσ H Q=>ta σ H λx H1=>tb σ H1 λvs H2=>∃i j:Int,x = .int i/\vs = [.int j]/\Q (.bl (!(decide (0<=i) && decide (i<j)))) H2
theorem zyc(hg:Gl X "range")(hm:X.mg "range" = none)(hi:PE X a ta)(hb:PA X [b] tb)(hs:VM [b] X.env = [(false,eval b X.env)]:=by rfl):PC X .NotIn a (.Call (.Name "range" p) [b] [] pos) (zvq ta tb):=by
 intro pins s σ H Q I h;refine thn (hi pins s σ H _ I h) λiv s1 zz=>?_;obtain⟨x,H1,I1,rx,q1⟩:=zz;refine Call_ (zcn I1 hg hm boot_range (QQ (thn (hb pos pins s1 σ H1 _ I1 q1) λus s2 zz=>?_) hs rfl));obtain⟨vs,H2,I2,r2,q2⟩:=zz;obtain⟨i,j,rfl,rfl,q⟩:=q2;obtain⟨y,rfl⟩:=rx
 cases r2 with
 | cons r rr=>
   cases rr;obtain⟨t,rfl⟩:=r;refine call_range_1 (zna (Qv _ rfl) ?_);exact⟨.bl (!(decide (0<=i) && decide (i<j))),H2,I2.kept λb o e=>Qg _ e,rfl,q⟩
section
variable {K:Qa}{O:Ob}
def zvl(fa:DE)(gb:DA):DT:=λρ Q=>fa ρ λr=>gb ρ λds=>∃i j:Int,r.d = .int i/\ds = [.int j]/\Q (!(decide (0<=i) && decide (i<j)))
theorem zv8(ha:ED K O ta fa)(hb:AD K O tb gb):TD K O (tB (zvq ta tb)) (zvl fa gb):=λσ H ρ Q Qd S hf k=>by
 refine ha σ H ρ _ _ S hf λx H1 r s1 o1 q1=>?_;refine hb σ H1 ρ _ _ (S.stp s1) q1 λvs H2 ds s2 is zz=>?_;obtain⟨i,j,e1,e2,q2⟩:=zz;have ix:=o1.is S.ok S.p;rw[e1] at ix;cases ix;subst e2
 cases is with
 | cons i1 is=>
   cases is;cases i1;exact⟨i,j,rfl,rfl,_,rfl,k _ H2 (s1.trans s2) q2⟩
end
theorem zzt{ι κ:Type}{P:VO}{w:VR}{K:Qa}{mg:Str->Option VJ}{base:Heap}{k:Nat}{X:ι->Cx}{O:κ->Ob}{a b:Expr}{fa:DE}{gb:DA}{p pos p2:Pos}(C:Ctx3 P w K mg base k X)(B:Blt mg)(ha:E3 K X O a fa)(hb:A3 K X O [b] gb)(hg:∀i,Gl (X i) "range" := by intro i;rfl)
 (hs:∀i,VM [b] (X i).env = [(false,eval b (X i).env)]:=by intro i;rfl) (hm:VU .NotIn (.Call (.Name "range" p) [b] [] p2)=false:=by rfl):T3 K X O (.Compare a [.NotIn] [.Call (.Name "range" p) [b] [] p2] pos) (zvl fa gb) :=
 let ⟨_,p1,d1⟩:=ha;let ⟨_,q1,e1⟩:=hb;⟨_,λi=>zh4 (zyc (hg i) (by rw[C.hmg];exact B.range) (p1 i) (q1 i) (hs i)) hm,λj=>zv8 (d1 j) (e1 j)⟩
def KD.put(kvs:KD)(i:Int)(d:VI):KD:=if(kvs.at_ i).isSome then kvs.map (λp=>if p.1=i then(p.1,d) else p) else kvs ++ [(i,d)]
theorem NV.over{K:Qa}{H:Hp}{i:Int}{v:V}{d:VI}(f:flat d=true)(is:Is K (λ_=>False) H v d):∀{ws:List (Key×V)} {kvs:KD},NV K H ws kvs->NV K H (ws.map λkv=>if kv.1 = .inl i then(kv.1,v) else kv) (kvs.map λp=>if p.1=i then(p.1,d) else p)
 | [],[],_=>trivial
 | [],_::_,h=>h.elim
 | _::_,[],h=>h.elim
 | (k,u)::_,(j,e)::_,h=>by
   obtain⟨rfl,f',is',t⟩:=h;rw[Qp,Qp]
   by_cases z:j=i
   .rw[Gm (by rw[z]),Gm z];exact⟨rfl,f,is,t.over f is⟩
   .rw[Gn λw=>z (Vq w),Gn z];exact⟨rfl,f',is',t.over f is⟩
theorem NV.put{K:Qa}{H:Hp}{i:Int}{v:V}{d:VI}{ws:List (Key×V)}{kvs:KD}(f:flat d=true)(is:Is K (λ_=>False) H v d)(h:NV K H ws kvs):NV K H (putK ws (.inl i) v) (kvs.put i d):=by
 unfold putK KD.put;rw[zeb,(h.val (i:=i)).1]
 split
 .exact h.over f is
 .exact h.snoc f is
section
variable {K:Qa}{O:Ob}
def zsn(n:Nat)(fv fk:DE):DS:=λDd ρ=>∃kvs,ρ[n]? = some (some (.thg (DctN kvs)))/\fv ρ λr=>fk ρ λr2=>∃i:Int,r2.d = .int i/\flat r.d=true/\kvs.length<sizeLine/\Dd.nx (ρ.set n (some (.thg (DctN (kvs.put i r.d)))))
theorem zrj{n:Nat}(hv:ED K O tv fv)(hk:ED K O tk fk):SD K O (ze1 (tVar n) tk tv) (zsn n fv fk):=λH₀ A σ H ρ D Dd r q P=>by
 obtain⟨kvs,e,q⟩:=q;refine hv σ H ρ _ _ r.seen q λx H1 r1 s1 o1 q1=>?_;obtain⟨v,hv,a,ws,rfl,w,hH,z⟩:=r.at_ n _ e;refine⟨_,hv,?_⟩;refine hk σ H1 ρ _ _ (r.seen.stp s1) q1 λy H2 r2 s2 o2 zz=>?_;obtain⟨i,e2,fl,ln,q2⟩:=zz;have iy:=o2.is r.ok (s1.p r.p);rw[e2] at iy;cases iy;have m:=(r.own n a w).2.2;have st:=s1.trans s2;have hH2:H2 a=some (.dK ws):=st.s a _ hH m;have z2:NV K H2 ws kvs:=z.to st.t;refine⟨a,_,rfl,DPut.k (k:=.inl i) hH2 (by rw[z2.length];exact ln),?_⟩;have hW:∀c,c=a->(A n c\/H c=QD)/\∃o,upd H2 a (.dK (putK ws (.inl i) x)) c=some o/\OwnO o:=λc e=>by subst e;exact⟨.inl w,_,zaf,ownK⟩
 have stay:∀c u,H2 c=some u->¬A n c->upd H2 a (.dK (putK ws (.inl i) x)) c=some u:=λc u e n=>by
  rw[zac λz=>n (by rw[z];exact w)];exact e
 have ts3:=(r.stp st).tstay stay;have ix:Is K (λ_=>False) (upd H2 a (.dK (putK ws (.inl i) x))) x r1.d:=Is.flat ts3 (Is.flat s2.t (o1.is r.ok r.p) fl:Is K (λ_=>False) H2 x r1.d) fl;have rr:=r.setT (i:=n) (v:=.ref a) (W:=λc=>c=a) (T:=DctN (kvs.put i r1.d)) st stay hW ⟨a,_,rfl,rfl,zaf,(z2.to ts3).put fl ix⟩;rw[zd4 hv] at rr;exact P.nx _ _ _ _ rr (.setT st stay λc m=>(hW c m).1) q2
def zqk(n:Nat)(fk fe:DE):DE:=λρ Q=>∃kvs,dnIn n ρ kvs/\fk ρ λr=>fe ρ λr2=>∃(i:Int),r.d = .int i/\flat r2.d=true/\Q (.o ((kvs.at_ i).getD r2.d))
theorem zqt{n:Nat}{t:TE}(h:ED K O t f)(h':ED K O u g):ED K O (zfz (tVar n) t u) (zqk n f g):=λσ H ρ Q Qd S q k=>by
 obtain⟨kvs,hd,q⟩:=q;obtain⟨a0,ws0,h0,_,e0,_⟩:=zc6 S hd;refine⟨_,h0,a0,rfl,.inl ⟨_,.inl e0⟩,?_⟩;refine h σ H ρ _ _ S q λy H1 r s1 o1 q1=>?_;refine h' σ H1 ρ _ _ (S.stp s1) q1 λz H2 r2 s2 o2 zz=>?_;obtain⟨i,er,fl,q2⟩:=zz;have iy:=o1.is S.ok S.p;rw[er] at iy;cases iy;obtain⟨a,ws,h1,nm,e,zz⟩:=zc6 ((S.stp s1).stp s2) hd;rw[h0] at h1;cases h1;have g:DGet H2 a0 (.int i) (valV ws (.inl i)):=.k (k:=.inl i) e;refine⟨_,g,?_⟩;have hz:=zz.val (i:=i)
 cases hv:KD.at_ kvs i with
 | none=>
   rw[hv] at hz q2
   cases hw:valV ws (.inl i) with
   | some w=>rw[hw] at hz;exact absurd hz.1 (by simp)
   | none=>exact k z H2 (.o r2.d) (s1.trans s2) (o2.is S.ok (s1.p S.p)) q2
 | some d=>
   obtain⟨fd,w,hw,iw⟩:=hz.2 d hv;rw[hv] at q2;rw[hw];exact k w H2 (.o d) (s1.trans s2) (Is.flat (TupStay.refl H2) iw fd) q2
def zvh(i:Nat)(fk fv:DE):DS:=λDd ρ=>fk ρ λr1=>fv ρ λr2=>∃j:Int,r1.d = .int j/\flat r2.d=true/\Dd.nx (ρ.set i (some (.thg (DctN [(j,r2.d)]))))
theorem zug{i:Nat}(hk:ED K O tk fk)(hv:ED K O tv fv):SD K O (tAsg (zp0 [(tk,tv)]) (zap i)) (zvh i fk fv):=λH₀ A σ H ρ D Dd r q P=>by
 intro c hc;have s0:Stp O H (upd H c (.dK [])):=.new r.ok hc _;have m:¬O.M c:=zsx r.ok r.p hc;refine hk σ _ ρ _ _ (r.seen.stp s0) q λx H1 r1 s1 o1 q1=>?_;refine hv σ H1 ρ _ _ ((r.seen.stp s0).stp s1) q1 λy H2 r2 s2 o2 zz=>?_;obtain⟨j,d1,fl,q2⟩:=zz;have ix:=o1.is r.ok (s0.p r.p);rw[d1] at ix;cases ix;have iy:=o2.is r.ok (s1.p (s0.p r.p));have st':Stp O (upd H c (.dK [])) H2:=s1.trans s2;have st:Stp O H H2:=s0.trans st';have hH2:H2 c=some (.dK []):=st'.s c _ zaf m;refine⟨hH2,[(.inl j,y)],rfl,by show 1<=15;decide,?_⟩;have hW:∀z,z=c->(A i z\/H z=QD)/\∃o,upd H2 c (.dK [(.inl j,y)]) z=some o/\OwnO o:=λz e=>by subst e;exact⟨.inr hc,_,zaf,ownK⟩
 have stF:Stp O H (upd H2 c (.dK [(.inl j,y)])):=by
  refine⟨λz o e n=>?_,λpp=>r.ok.loc _ _ (λz mz=>zac λe=>m (e ▸ mz)) (st.p pp),λz u hu hz=>?_⟩
  .rw[zac λe'=>by rw[e',hc] at e;cases e];exact st.s z o e n
  .rw[zac λe'=>by rw[e',hc] at hz;cases hz];exact st.t z u hu hz
 have ts:TupStay H2 (upd H2 c (.dK [(.inl j,y)])):=λb u hu hb=>by
  rw[zac λz=>?_]
  .exact hb
  .rw[z,hH2] at hb;cases hb;obtain⟨us,e1|⟨o',e1⟩⟩:=hu <;> cases e1
 exact P.nx _ _ _ _ (r.setT (W:=λz=>z=c) (T:=DctN [(j,r2.d)]) stF (λ_ _ e _=>e) hW ⟨c,_,rfl,rfl,zaf,rfl,fl,Is.flat ts iy fl,trivial⟩) (.setT stF (λ_ _ e _=>e) λz m=>(hW z m).1) q2
end
section
variable {ι κ:Type}{P:VO}{w:VR}{K:Qa}{mg:Str->Option VJ}{base:Heap}{k:Nat}{X:ι->Cx}{O:κ->Ob}{a b:Expr}{fa fb:DE}{pos px p1 apos cpos:Pos}{x:Str}
theorem zmf(n:Nat)(C:Ctx3 P w K mg base k X)(hv:E3 K X O a fa)(hi:E3 K X O b fb)(hN:∀i,(X i).N[n]? = some x:=by intro i;rfl)(hvx:∀i,Vis (X i).env.scope x:=by intro i;first|exact Or.inl rfl|exact Or.inr (Or.inl rfl)|exact Or.inr (Or.inr rfl))(hd:(x == ("__debug__" : Str))=false:=by decide)(hcd:(x == ("__classdict__" : Str))=false:=by decide)
 (hs:∀i,VX a (some (.Subscript (.Name x px) b p1)) pos.line (X i).env=pure false:=by intro i;rfl) :
 S3 K X O (.Assign [.Subscript (.Name x px) b p1] a pos) (zsn n fa fb):=let ⟨_,q1,d1⟩:=hv;let ⟨_,q2,d2⟩:=hi;⟨_,λi=>zdz (zbe (C.room i)) (zai (pos:=px) (hN i) (hvx i) hd hcd) (q2 i) (q1 i) (hs i),λj=>zrj (d1 j) (d2 j)⟩
theorem znp(n:Nat)(ha:E3 K X O a fa)(hb:E3 K X O b fb)(hN:∀i,(X i).N.Nodup:=by intro i;exact Go (by kernel_rfl))(hi:∀i,(X i).N[n]? = some x:=by intro i;rfl)(hx:∀i,Loc (X i).env.scope x:=by intro i;first|exact Or.inl rfl|exact Or.inr rfl)
 (hs:∀i,VX (.Dict [some a] [b] p1) (some (.Name x px)) pos.line (X i).env=pure false:=by intro i;rfl) (hf:∀i,(X i).fn x=true\/(X i).env.scope.names.lookup x=some .local:=by intro i;first|exact .inl rfl|exact .inr rfl) :
 S3 K X O (.Assign [.Name x px] (.Dict [some a] [b] p1) pos) (zvh n fa fb):=let ⟨_,q1,d1⟩:=ha;let ⟨_,q2,d2⟩:=hb;⟨_,λi=>zbi (hN i) (hi i) (hx i) (zon (zfe (q1 i) (q2 i) zny) rfl rfl (λz=>nomatch z) (by show 1<=15;decide)) (hs i) (hf i),λj=>zug (d1 j) (d2 j)⟩
theorem zs4(n:Nat)(C:Ctx3 P w K mg base k X)(ha:E3 K X O a fa)(hb:E3 K X O b fb)(hN:∀i,(X i).N[n]? = some x:=by intro i;rfl)(hv:∀i,Vis (X i).env.scope x:=by intro i;first|exact Or.inl rfl|exact Or.inr (Or.inl rfl)|exact Or.inr (Or.inr rfl))(hd:(x == ("__debug__" : Str))=false:=by decide)(hcd:(x == ("__classdict__" : Str))=false:=by decide)
 (hm:∀i,M2 (X i) (.Name x px) "get" apos a b cpos:=by intro i;exact⟨rfl,rfl,rfl,rfl⟩) :
 E3 K X O (.Call (.Attribute (.Name x px) "get" apos) [a,b] [] cpos) (zqk n fa fb):=let ⟨_,q1,d1⟩:=ha;let ⟨_,q2,d2⟩:=hb;⟨_,λi=>zhu (zbe (C.room i)) (zai (pos:=px) (hN i) (hv i) hd hcd) (q1 i) (q2 i) (hm i),λj=>zqt (d1 j) (d2 j)⟩
end
abbrev TDv:=List (List Key×VI)
def TDv.at_(kvs:TDv)(k:List Key):Option VI:=(kvs.find? λp=>decide (p.1=k)).map (·.2)
def TDv.put(kvs:TDv)(i:List Key)(d:VI):TDv:=if(kvs.at_ i).isSome then kvs.map (λp=>if p.1=i then(p.1,d) else p) else kvs ++ [(i,d)]
def TV(K:Qa)(H:Hp):List (List Key×V)->TDv->Prop
 | [],[]=>True
 | (k,v)::ws,(i,d)::kvs=>k=i/\flat d=true/\Is K (λ_=>False) H v d/\TV K H ws kvs
 | _,_=>False
theorem TV.to{K:Qa}{H H':Hp}(ts:TupStay H H'):∀{ws:List (List Key×V)} {kvs:TDv},TV K H ws kvs->TV K H' ws kvs
 | [],[],_=>trivial
 | [],_::_,h=>h.elim
 | _::_,[],h=>h.elim
 | (_,_)::_,(_,_)::_,h=>⟨h.1,h.2.1,Is.flat ts h.2.2.1 h.2.1,TV.to ts h.2.2.2⟩
theorem TV.length{K:Qa}{H:Hp}:∀{ws:List (List Key×V)} {kvs:TDv},TV K H ws kvs->ws.length=kvs.length
 | [],[],_=>rfl
 | [],_::_,h=>h.elim
 | _::_,[],h=>h.elim
 | (_,_)::ws,(_,_)::kvs,h=>by rw[Qs,Qs,TV.length h.2.2.2]
theorem TV.val{K:Qa}{H:Hp}{i:List Key}:∀{ws:List (List Key×V)} {kvs:TDv},TV K H ws kvs->(valV ws i).isSome=(kvs.at_ i).isSome/\∀d,kvs.at_ i=some d->flat d=true/\∃v,valV ws i=some v/\Is K (λ_=>False) H v d
 | [],[],_=>⟨rfl,λd h=>by cases h⟩
 | [],_::_,h=>h.elim
 | _::_,[],h=>h.elim
 | (k,v)::ws,(j,e)::kvs,h=>by
   obtain⟨rfl,f,is,t⟩:=h;obtain⟨h1,h2⟩:=TV.val (i:=i) t
   by_cases z:k=i
   .subst z;have e2:TDv.at_ ((k,e)::kvs) k=some e:=by unfold TDv.at_;rw[Zp (by simp)];rfl
    rw[zfq (p:=(k,v)) rfl,e2];exact⟨rfl,λd hd=>by cases hd;exact⟨f,v,rfl,is⟩⟩
   .have e2:TDv.at_ ((k,e)::kvs) i=TDv.at_ kvs i:=by unfold TDv.at_;rw[Zq (by simpa using z)]
    rw[zfn (p:=(k,v)) z,e2];exact⟨h1,h2⟩
theorem TV.over{K:Qa}{H:Hp}{i:List Key}{v:V}{d:VI}(f:flat d=true)(is:Is K (λ_=>False) H v d):∀{ws:List (List Key×V)} {kvs:TDv},TV K H ws kvs->TV K H (ws.map λkv=>if kv.1=i then(kv.1,v) else kv) (kvs.map λp=>if p.1=i then(p.1,d) else p)
 | [],[],_=>trivial
 | [],_::_,h=>h.elim
 | _::_,[],h=>h.elim
 | (k,u)::_,(j,e)::_,h=>by
   obtain⟨rfl,f',is',t⟩:=h;rw[Qp,Qp]
   by_cases z:k=i
   .rw[Gm z,Gm z];exact⟨rfl,f,is,t.over f is⟩
   .rw[Gn z,Gn z];exact⟨rfl,f',is',t.over f is⟩
theorem TV.snoc{K:Qa}{H:Hp}{i:List Key}{v:V}{d:VI}(f:flat d=true)(is:Is K (λ_=>False) H v d):∀{ws:List (List Key×V)} {kvs:TDv},TV K H ws kvs->TV K H (ws ++ [(i,v)]) (kvs ++ [(i,d)])
 | [],[],_=>⟨rfl,f,is,trivial⟩
 | [],_::_,h=>h.elim
 | _::_,[],h=>h.elim
 | (_,_)::_,(_,_)::_,h=>⟨h.1,h.2.1,h.2.2.1,TV.snoc f is h.2.2.2⟩
theorem TV.put{K:Qa}{H:Hp}{i:List Key}{v:V}{d:VI}{ws:List (List Key×V)}{kvs:TDv}(f:flat d=true)(is:Is K (λ_=>False) H v d)(h:TV K H ws kvs):TV K H (putK ws i v) (kvs.put i d):=by
 unfold putK TDv.put;rw[zeb,(h.val (i:=i)).1]
 split
 .exact h.over f is
 .exact h.snoc f is
def DctP(p:V->Prop)(kvs:TDv):Thg:=⟨λK _ W H v=>p v/\∃a ws,v = .ref a/\W a/\H a=some (.dT ws)/\TV K H ws kvs,λ_ hW ts ⟨h,a,ws,e,w,q,z⟩=>⟨h,a,ws,e,(hW a _ w q).1,(hW a _ w q).2,z.to ts⟩⟩
abbrev DctV(kvs:TDv):Thg:=DctP (λ_=>True) kvs
def dvIn(n:Nat)(ρ:DSt)(kvs:TDv):Prop:=∃p,ρ[n]? = some (some (.thg (DctP p kvs)))\/ρ[n]? = some (some (.thr (DctP p kvs)))
section
variable {K:Qa}{O:Ob}{H₀ H H':Hp}{A:Nat->Addr->Prop}{σ:St}{ρ:DSt}
theorem Rep.setTh{i:Nat}(r:Rep K O H₀ A H σ ρ)(h:T.R K (unO O A) (λ_=>False) H v):Rep K O H₀ (λj a=>j≠i/\A j a) H (σ.set i (some v)) (ρ.set i (some (.thr T))):=by
 have un:∀a,unO O A a->unO O (λj a=>j≠i/\A j a) a:=λa u=>⟨u.1,λj z=>u.2 j z.2⟩;have r0:=r.setIm (i:=i) (v:=.non) (d:=.none) .none;refine⟨r0.ok,r0.p,r0.p0,r0.st,r0.dis,r0.own,λj x e=>?_,by rw[QA,QA];exact r.len⟩
 by_cases hj:i=j
 .subst hj
  have hi':i<ρ.length:=by
   rcases ZN i ρ.length with z|z
   .exact z
   .rw[QI (by simpa using z)] at e;cases e
  rw[Q0 hi'] at e;cases e;exact⟨v,Q0 (by have:=r.len;lia),λ_=>False,λa w=>w.elim,T.to (λa u f q=>⟨un a f,q⟩) (λa u w q=>⟨w,q⟩) (TupStay.refl _) h⟩
 .have q:=r0.at_ j x (by rw[Q4 hj] at e ⊢;exact e);rw[Q4 hj] at q ⊢;exact q
end
def TupT(k:List Key):Thg:=⟨λ_ _ _ H v=>∃b,v = .ref b/\H b=some (.tup (k.map kV)),λ_ _ ts ⟨b,e,q⟩=>⟨b,e,ts b _ ⟨_,.inl rfl⟩ q⟩⟩
abbrev DKy:=DSt->(List Key->Prop)->Prop
section
variable {K:Qa}{O:Ob}
def EKy(O:Ob)(t:TE)(g:DKy):Prop:=∀(σ:St) (H:Hp) (ρ:DSt) (Q:VK) (Qd:List Key->Prop),Seen K O H σ ρ->g ρ Qd->(∀b k H',Stp O H H'->H' b=some (.tup (k.map kV))->Qd k->Q (.ref b) H')->t σ H Q
theorem zr5: ∀{k:List Key} {vs:List V},IsAll K F H vs (k.map kD)->vs=k.map kV
 | [],_,h=>by cases h;rfl
 | k::ks,_,h=>by
   cases h with
   | cons a b=>rw[z1o a,zr5 b];rfl
def zu3(g:DA):DKy:=λρ Q=>g ρ λds=>ds.length<=sizeLine/\∃k:List Key,ds=k.map kD/\Q k
theorem zxq{t:TA}(h:AD K O t g):EKy (K:=K) O (tTup t) (zu3 g):=λσ H ρ Q Qd S q kk=>by
 refine h σ H ρ _ _ S q λvs H1 ds s1 is zz=>?_;obtain⟨ln,k,e,q1⟩:=zz;subst e;refine⟨by rw[is.length];exact ln,λp hp=>?_⟩;rw[zr5 is];exact kk p k _ (s1.trans (.new S.ok hp _)) zaf q1
def zu6(n:Nat):DKy:=λρ Q=>∃k,ρ[n]? = some (some (.thr (TupT k)))/\Q k
theorem zw6{n:Nat}:EKy (K:=K) O (tVar n) (zu6 n):=λσ H ρ Q Qd S ⟨k,e,q⟩ kk=>by
 obtain⟨v,h1,W,hw,b,rfl,hb⟩:=S.at_ n _ e;exact⟨_,h1,kk b k H (.refl _ _) hb q⟩
theorem zd1{n:Nat}(S:Seen K O H σ ρ)(h:dvIn n ρ kvs):∃a ws,σ[n]? = some (some (.ref a))/\¬O.M a/\H a=some (.dT ws)/\TV K H ws kvs:=by
 obtain⟨p,e|e⟩:=h
 .obtain⟨v,h1,W,hw,_,a,ws,rfl,w,q,z⟩:=S.at_ n _ e;exact⟨a,ws,h1,(hw a w).1,q,z⟩
 .obtain⟨v,h1,W,hw,_,a,ws,rfl,w,q,z⟩:=S.at_ n _ e;exact⟨a,ws,h1,(hw a w).1,q,z⟩
def zva(i:Nat)(g:DKy):DS:=λDd ρ=>g ρ λk=>Dd.nx (ρ.set i (some (.thr (TupT k))))
theorem zsy{i:Nat}{t:TE}(h:EKy (K:=K) O t g):SD K O (tAsg t (zap i)) (zva i g):=λH₀ A σ H ρ D Dd r q P=>by
 refine h σ H ρ _ _ r.seen q λb k H1 s1 e q1=>?_;exact P.nx _ _ _ _ ((r.stp s1).setTh (i:=i) (T:=TupT k) ⟨b,rfl,e⟩) ((Frm.stp s1).trans (.setIm (.refl _ _))) q1
def inDV(neg:Bool)(n:Nat)(fk:DKy):DE:=λρ Q=>∃kvs,dvIn n ρ kvs/\fk ρ λk=>Q (.o (.bool (if neg then !(kvs.at_ k).isSome else(kvs.at_ k).isSome)))
theorem zxm{n:Nat}{t:TE}(h:EKy (K:=K) O t f):ED K O (tDIn t (tVar n)) (inDV false n f):=λσ H ρ Q Qd S q k=>by
 obtain⟨kvs,hd,q⟩:=q;refine h σ H ρ _ _ S q λb ky H1 s1 eb q1=>?_;obtain⟨a,ws,h1,nm,e,z⟩:=zd1 (S.stp s1) hd;refine⟨_,h1,a,_,rfl,.t (k:=ky) e eb,?_⟩;rw[(z.val (i:=ky)).1];exact k _ H1 (.o _) s1 (Is.bool _) q1
theorem ztn{n:Nat}{t:TE}(h:EKy (K:=K) O t f):ED K O (zjl t (tVar n)) (inDV true n f):=λσ H ρ Q Qd S q k=>by
 obtain⟨kvs,hd,q⟩:=q;refine h σ H ρ _ _ S q λb ky H1 s1 eb q1=>?_;obtain⟨a,ws,h1,nm,e,z⟩:=zd1 (S.stp s1) hd;refine⟨_,h1,a,_,rfl,.t (k:=ky) e eb,?_⟩;rw[(z.val (i:=ky)).1];exact k _ H1 (.o _) s1 (Is.bool _) q1
def zvm(n:Nat)(fk:DKy):DE:=λρ Q=>∃kvs,dvIn n ρ kvs/\fk ρ λk=>∃d,kvs.at_ k=some d/\Q (.o d)
theorem zty{n:Nat}{t:TE}(h:EKy (K:=K) O t f):ED K O (zk4 (tVar n) t) (zvm n f):=λσ H ρ Q Qd S q k=>by
 obtain⟨kvs,hd,q⟩:=q;obtain⟨a0,ws0,h0,_⟩:=zd1 S hd;refine⟨_,h0,?_⟩;refine h σ H ρ _ _ S q λb ky H1 s1 eb zz=>?_;obtain⟨d,ed,q1⟩:=zz;obtain⟨a,ws,h1,nm,e,z⟩:=zd1 (S.stp s1) hd;rw[h0] at h1;cases h1;obtain⟨fl,v,hv,iv⟩:=(z.val (i:=ky)).2 d ed;have g:DGet H1 a0 (.ref b) (some v):=by rw[<- hv];exact .t (k:=ky) e eb
 exact⟨a0,v,rfl,g,k v H1 (.o d) s1 (Is.flat (TupStay.refl H1) iv fl) q1⟩
def zrq(n:Nat)(fk:DKy)(fe:DE):DE:=λρ Q=>∃kvs,dvIn n ρ kvs/\fk ρ λk=>fe ρ λr2=>flat r2.d=true/\Q (.o ((kvs.at_ k).getD r2.d))
theorem zqn{n:Nat}{t:TE}(h:EKy (K:=K) O t f)(h':ED K O u g):ED K O (zfz (tVar n) t u) (zrq n f g):=λσ H ρ Q Qd S q k=>by
 obtain⟨kvs,hd,q⟩:=q;obtain⟨a0,ws0,h0,_,e0,_⟩:=zd1 S hd;refine⟨_,h0,a0,rfl,.inr ⟨_,.inl e0⟩,?_⟩;refine h σ H ρ _ _ S q λb ky H1 s1 eb q1=>?_;refine h' σ H1 ρ _ _ (S.stp s1) q1 λz H2 r2 s2 o2 zz=>?_;obtain⟨fl,q2⟩:=zz;obtain⟨a,ws,h1,nm,e,zz⟩:=zd1 ((S.stp s1).stp s2) hd;rw[h0] at h1;cases h1;have eb2:H2 b=some (.tup (ky.map kV)):=s2.t b _ ⟨_,.inl rfl⟩ eb;refine⟨_,.t (k:=ky) e eb2,?_⟩;have hz:=zz.val (i:=ky)
 cases hv:TDv.at_ kvs ky with
 | none=>
   rw[hv] at hz q2
   cases hw:valV ws ky with
   | some w=>rw[hw] at hz;exact absurd hz.1 (by simp)
   | none=>exact k z H2 (.o r2.d) (s1.trans s2) (o2.is S.ok (s1.p S.p)) q2
 | some d=>
   obtain⟨fd,w,hw,iw⟩:=hz.2 d hv;rw[hv] at q2;rw[hw];exact k w H2 (.o d) (s1.trans s2) (Is.flat (TupStay.refl H2) iw fd) q2
def zvp(i:Nat):DS:=λDd ρ=>Dd.nx (ρ.set i (some (.thg (DctV []))))
theorem zum{i:Nat}:SD K O (tAsg zr1 (zap i)) (zvp i):=λH₀ A σ H ρ D Dd r q P=>by
 intro p hp;have st:Stp O H (upd H p (.dT [])):=.new r.ok hp _;have hW:∀b,b=p->(A i b\/H b=QD)/\∃o,upd H p (.dT []) b=some o/\OwnO o:=λb e=>by subst e;exact⟨.inr hp,_,zaf,ownT⟩
 exact P.nx _ _ _ _ (r.setT (W:=λb=>b=p) (T:=DctV []) st (λb u e _=>e) hW ⟨trivial,p,[],rfl,rfl,zaf,trivial⟩) (.setT st (λb u e _=>e) λb m=>(hW b m).1) q
def zv3(n:Nat)(fv:DE)(fk:DKy):DS:=λDd ρ=>∃p kvs,ρ[n]? = some (some (.thg (DctP p kvs)))/\fv ρ λr=>fk ρ λk=>flat r.d=true/\kvs.length<sizeLine/\Dd.nx (ρ.set n (some (.thg (DctP p (kvs.put k r.d)))))
theorem zuq{n:Nat}(hv:ED K O tv fv)(hk:EKy (K:=K) O tk fk):SD K O (ze1 (tVar n) tk tv) (zv3 n fv fk):=λH₀ A σ H ρ D Dd r q P=>by
 obtain⟨p,kvs,e,q⟩:=q;refine hv σ H ρ _ _ r.seen q λx H1 r1 s1 o1 q1=>?_;obtain⟨v,hv,hp,a,ws,rfl,w,hH,z⟩:=r.at_ n _ e;refine⟨_,hv,?_⟩;refine hk σ H1 ρ _ _ (r.seen.stp s1) q1 λb ky H2 s2 eb zz=>?_;obtain⟨fl,ln,q2⟩:=zz;have m:=(r.own n a w).2.2;have st:=s1.trans s2;have hH2:H2 a=some (.dT ws):=st.s a _ hH m;have z2:TV K H2 ws kvs:=z.to st.t;refine⟨a,_,rfl,DPut.t (k:=ky) hH2 eb (by rw[z2.length];exact ln),?_⟩;have hW:∀c,c=a->(A n c\/H c=QD)/\∃o,upd H2 a (.dT (putK ws ky x)) c=some o/\OwnO o:=λc e=>by subst e;exact⟨.inl w,_,zaf,ownT⟩
 have stay:∀c u,H2 c=some u->¬A n c->upd H2 a (.dT (putK ws ky x)) c=some u:=λc u e n=>by
  rw[zac λz=>n (by rw[z];exact w)];exact e
 have ts3:=(r.stp st).tstay stay;have ix:Is K (λ_=>False) (upd H2 a (.dT (putK ws ky x))) x r1.d:=Is.flat ts3 (Is.flat s2.t (o1.is r.ok r.p) fl:Is K (λ_=>False) H2 x r1.d) fl;have rr:=r.setT (i:=n) (v:=.ref a) (W:=λc=>c=a) (T:=DctP p (kvs.put ky r1.d)) st stay hW ⟨hp,a,_,rfl,rfl,zaf,(z2.to ts3).put fl ix⟩;rw[zd4 hv] at rr;exact P.nx _ _ _ _ rr (.setT st stay λc m=>(hW c m).1) q2
end
section
variable {ι κ:Type}{P:VO}{w:VR}{K:Qa}{mg:Str->Option VJ}{base:Heap}{k:Nat}{X:ι->Cx}{O:κ->Ob}{a b:Expr}{fa fb:DE}{fk:DKy}{ga:DA}{es:List Expr}{pos px p1 apos cpos:Pos}{x:Str}
def Ky3(K:Qa)(X:ι->Cx)(O:κ->Ob)(e:Expr)(g:DKy):Prop:=∃t,(∀i,PE (X i) e t)/\∀j,EKy (K:=K) (O j) t g
theorem zc1(ha:A3 K X O es ga):Ky3 K X O (.Tuple es c pos) (zu3 ga):=let ⟨_,p,d⟩:=ha;⟨_,λi=>zse (p i),λj=>zxq (d j)⟩
theorem zgc(n:Nat)(hN:∀i,(X i).N[n]? = some x:=by intro i;rfl)(hv:∀i,Vis (X i).env.scope x:=by intro i;first|exact Or.inl rfl|exact Or.inr (Or.inl rfl)|exact Or.inr (Or.inr rfl))(hd:(x == ("__debug__" : Str))=false:=by decide)(hcd:(x == ("__classdict__" : Str))=false:=by decide):Ky3 K X O (.Name x pos) (zu6 n):=⟨_,λi=>zai (hN i) (hv i) hd hcd,λj=>zw6⟩
theorem zn1(n:Nat)(hN:∀i,(X i).N.Nodup:=by intro i;exact Go (by kernel_rfl))(hi:∀i,(X i).N[n]? = some x:=by intro i;rfl)(hx:∀i,Loc (X i).env.scope x:=by intro i;first|exact Or.inl rfl|exact Or.inr rfl)
 (hs:∀i,VX (.Dict [] [] p1) (some (.Name x px)) pos.line (X i).env=pure false:=by intro i;rfl) (hf:∀i,(X i).fn x=true\/(X i).env.scope.names.lookup x=some .local:=by intro i;first|exact .inl rfl|exact .inr rfl) :
 S3 K X O (.Assign [.Name x px] (.Dict [] [] p1) pos) (zvp n):=⟨_,λi=>zbi (hN i) (hi i) (hx i) zsv (hs i) (hf i),λj=>zum⟩
theorem zn9(n:Nat)(ha:Ky3 K X O a fk)(hN:∀i,(X i).N.Nodup:=by intro i;exact Go (by kernel_rfl))(hi:∀i,(X i).N[n]? = some x:=by intro i;rfl)(hx:∀i,Loc (X i).env.scope x:=by intro i;first|exact Or.inl rfl|exact Or.inr rfl)
 (hs:∀i,VX a (some (.Name x px)) pos.line (X i).env=pure false:=by intro i;rfl) (hf:∀i,(X i).fn x=true\/(X i).env.scope.names.lookup x=some .local:=by intro i;first|exact .inl rfl|exact .inr rfl) :
 S3 K X O (.Assign [.Name x px] a pos) (zva n fk):=let ⟨_,p,d⟩:=ha;⟨_,λi=>zbi (hN i) (hi i) (hx i) (p i) (hs i) (hf i),λj=>zsy (d j)⟩
theorem zmn(n:Nat)(C:Ctx3 P w K mg base k X)(ha:Ky3 K X O a fk)(hN:∀i,(X i).N[n]? = some x:=by intro i;rfl)(hv:∀i,Vis (X i).env.scope x:=by intro i;first|exact Or.inl rfl|exact Or.inr (Or.inl rfl)|exact Or.inr (Or.inr rfl))(hd:(x == ("__debug__" : Str))=false:=by decide)(hcd:(x == ("__classdict__" : Str))=false:=by decide)(hm:VU .In (.Name x px)=false:=by rfl):
 T3 K X O (.Compare a [.In] [.Name x px] pos) (bD (inDV false n fk)):=let ⟨_,p1,d1⟩:=ha;⟨_,λi=>zh4 (zqz (zbe (C.room i)) (p1 i) (zai (pos:=px) (hN i) (hv i) hd hcd)) hm,λj=>zgn (zxm (d1 j))⟩
theorem zw2(n:Nat)(C:Ctx3 P w K mg base k X)(ha:Ky3 K X O a fk)(hN:∀i,(X i).N[n]? = some x:=by intro i;rfl)(hv:∀i,Vis (X i).env.scope x:=by intro i;first|exact Or.inl rfl|exact Or.inr (Or.inl rfl)|exact Or.inr (Or.inr rfl))(hd:(x == ("__debug__" : Str))=false:=by decide)(hcd:(x == ("__classdict__" : Str))=false:=by decide)(hm:VU .NotIn (.Name x px)=false:=by rfl):
 T3 K X O (.Compare a [.NotIn] [.Name x px] pos) (bD (inDV true n fk)):=let ⟨_,p1,d1⟩:=ha;⟨_,λi=>zh4 (zjx (zbe (C.room i)) (p1 i) (zai (pos:=px) (hN i) (hv i) hd hcd)) hm,λj=>zgn (ztn (d1 j))⟩
theorem zgj(n:Nat)(C:Ctx3 P w K mg base k X)(ha:Ky3 K X O a fk)(hN:∀i,(X i).N[n]? = some x:=by intro i;rfl)(hv:∀i,Vis (X i).env.scope x:=by intro i;first|exact Or.inl rfl|exact Or.inr (Or.inl rfl)|exact Or.inr (Or.inr rfl))(hd:(x == ("__debug__" : Str))=false:=by decide)(hcd:(x == ("__classdict__" : Str))=false:=by decide)(hs:NoSl a:=by intro _ _;rfl):
 E3 K X O (.Subscript (.Name x px) a pos) (zvm n fk):=let ⟨_,p1,d1⟩:=ha;⟨_,λi=>zck (zbe (C.room i)) (zai (pos:=px) (hN i) (hv i) hd hcd) (p1 i) hs,λj=>zty (d1 j)⟩
theorem zsu(n:Nat)(C:Ctx3 P w K mg base k X)(ha:Ky3 K X O a fk)(hb:E3 K X O b fb)(hN:∀i,(X i).N[n]? = some x:=by intro i;rfl)(hv:∀i,Vis (X i).env.scope x:=by intro i;first|exact Or.inl rfl|exact Or.inr (Or.inl rfl)|exact Or.inr (Or.inr rfl))(hd:(x == ("__debug__" : Str))=false:=by decide)(hcd:(x == ("__classdict__" : Str))=false:=by decide)
 (hm:∀i,M2 (X i) (.Name x px) "get" apos a b cpos:=by intro i;exact⟨rfl,rfl,rfl,rfl⟩) :
 E3 K X O (.Call (.Attribute (.Name x px) "get" apos) [a,b] [] cpos) (zrq n fk fb):=let ⟨_,q1,d1⟩:=ha;let ⟨_,q2,d2⟩:=hb;⟨_,λi=>zhu (zbe (C.room i)) (zai (pos:=px) (hN i) (hv i) hd hcd) (q1 i) (q2 i) (hm i),λj=>zqn (d1 j) (d2 j)⟩
theorem zok(n:Nat)(C:Ctx3 P w K mg base k X)(hb:E3 K X O a fa)(hi:Ky3 K X O b fk)(hN:∀i,(X i).N[n]? = some x:=by intro i;rfl)(hv:∀i,Vis (X i).env.scope x:=by intro i;first|exact Or.inl rfl|exact Or.inr (Or.inl rfl)|exact Or.inr (Or.inr rfl))(hd:(x == ("__debug__" : Str))=false:=by decide)(hcd:(x == ("__classdict__" : Str))=false:=by decide)
 (hs:∀i,VX a (some (.Subscript (.Name x px) b p1)) pos.line (X i).env=pure false:=by intro i;rfl) :
 S3 K X O (.Assign [.Subscript (.Name x px) b p1] a pos) (zv3 n fa fk):=let ⟨_,q1,d1⟩:=hb;let ⟨_,q2,d2⟩:=hi;⟨_,λi=>zdz (zbe (C.room i)) (zai (pos:=px) (hN i) (hv i) hd hcd) (q2 i) (q1 i) (hs i),λj=>zuq (d1 j) (d2 j)⟩
end
def cutU(H:Hp)(as:List Addr):Hp:=λb=>if b∈as then none else H b
section
variable {H:Hp}{as:List Addr}{b:Addr}
theorem zoe(h:b∈as):cutU H as b=none:=Gm h
theorem ze8(h:b ∉ as):cutU H as b=H b:=Gn h
theorem zkk(h:cutU H as b=some o):b ∉ as/\H b=some o:=by
 by_cases m:b∈as
 .rw[zoe m] at h;cases h
 .rw[ze8 m] at h;exact⟨m,h⟩
end
section
variable {O:Ob}
theorem zmo(ok:O.Ok)(p:O.P H)(nm:∀a∈as,¬O.M a):Stp O (cutU H as) H/\O.P (cutU H as) :=
 have pc:O.P (cutU H as):=ok.loc H _ (λb m=>ze8 λz=>nm b z m) p
 ⟨⟨λb o e _=>(zkk e).2,λ_=>p,λb u _ e=>(zkk e).2⟩,pc⟩
end
def SDu(K:Qa)(O:Ob)(i:Nat)(v0:V)(t:TS)(g:(VI->TDv->Prop)->DSt->Prop):Prop :=
 ∀(H₀:Hp) (A:Nat->Addr->Prop) (σ:St) (H:Hp) (ρ:DSt) (R:VK) (Qk:VI->TDv->Prop) (Nx:St->Hp->Prop),Rep K O H₀ A H σ ρ->g Qk ρ ->
   (∀A' H' σ' ρ' v d kvs,Rep K O H₀ A' H' σ' ρ'->ρ'[i]? = some (some (.thg (DctP (λv=>v=v0) kvs)))->flat d=true->Is K (λ_=>False) H' v d->Qk d kvs->R v H')->t { nx:=Nx,rt:=R } σ H
section
variable {K:Qa}{O:Ob}{i:Nat}{v0:V}
def retU(i:Nat)(v0:V)(f:DE):(VI->TDv->Prop)->DSt->Prop:=λQk ρ=>∃kvs,ρ[i]? = some (some (.thg (DctP (λv=>v=v0) kvs)))/\f ρ λr=>flat r.d=true/\Qk r.d kvs
theorem zwc{t:TE}(h:ED K O t f):SDu K O i v0 (tRet t) (retU i v0 f):=λH₀ A σ H ρ R Qk Nx r ⟨kvs,e,q⟩ k=>by
 refine h σ H ρ _ _ r.seen q λv H1 x s1 o1 zz=>?_;obtain⟨fl,q1⟩:=zz;exact k A H1 σ ρ v x.d kvs (r.stp s1) e fl (Is.flat (TupStay.refl _) (o1.is r.ok r.p) fl) q1
theorem ztv{t:TS}(h:SD K O t g1)(h':SDu K O i v0 u g2):SDu K O i v0 (tSeq t u) (λQk ρ=>g1 { nx:=g2 Qk,rt:=λ_=>False } ρ):=λH₀ A σ H ρ R Qk Nx r q k=>by
 refine h H₀ A σ H ρ _ _ r q ⟨λA' σ' H' ρ' r' _ q'=>?_,λ_ _ _ _ _ _ z=>z.elim,λ_ _ _ _ _ _ z=>z.elim,λ_ _ _ _ _ z=>z.elim⟩;exact h' H₀ A' σ' H' ρ' R Qk Nx r' q' k
end
def spU(K:Qa)(n:Nat)(F:List VI->TDv->(VI->TDv->Prop)->Prop):Sp:=λvs H Q _=>
 ∃(O:Ob) (us:List V) (ds:List VI) (a:Addr) (ws:List (List Key×V)) (kvs:TDv) (Qk:VI->TDv->Prop),O.Ok/\O.P H/\vs=us ++ [.ref a]/\ds.length=n/\IsAll K (λ_=>False) H us ds/\¬O.M a/\H a=some (.dT ws)/\TV K H ws kvs/\F ds kvs Qk /\
   ∀d kvs' v H' ws',Qk d kvs'->flat d=true->Stp O (cutU H [a]) H'->Is K (λ_=>False) H' v d->H' a=some (.dT ws')->TV K H' ws' kvs'->Q v H'
theorem zym{K:Qa}{n:Nat}{F:List VI->TDv->(VI->TDv->Prop)->Prop}{ps:List Str}(hn:ps.length=n+1):∀vs H Q E,spU K n F vs H Q E->vs.length=ps.length:=λvs H Q E zz=>by
 obtain⟨O,us,ds,a,ws,kvs,Qk,_,_,e,hl,is,_⟩:=zz;rw[e,Qi,is.length,hl,hn];rfl
section
variable {K:Qa}{O:Ob}
theorem zpk(ok:O.Ok)(p:O.P H)(is:IsAll K (λ_=>False) H us ds)(nm:¬O.M a)(ow:H a=some (.dT ws))(tv:TV K H ws kvs):
 Rep K O (cutU H [a]) (λj b=>j=ds.length/\b=a) H (L2.start N (us ++ [.ref a])) (za9 N (ds.map .im ++ [.thg (DctP (λv=>v = .ref a) kvs)])):=by
 obtain⟨st,pc⟩:=zmo (as:=[a]) ok p (λb z=>by rw[Qn.mp z];exact nm);have hl:=is.length;refine⟨ok,p,pc,st,λi j a x y=>x.1.trans y.1.symm,λi b x=>?_,λi r e=>?_,?_⟩
 .obtain⟨rfl,rfl⟩:=x;exact⟨zoe Qm,⟨_,ow,ownT⟩,nm⟩
 .unfold za9 at e;unfold L2.start;rcases ZN i ds.length with hi|hi
  .rw[Qy (by simp;lia),Qj,Qy (by simpa using hi),Qj] at e
   cases q:ds[i]? with
   | none=>rw[q] at e;cases e
   | some x=>
     rw[q] at e;cases e;obtain⟨v,hv,iv⟩:=is.get q;refine⟨v,?_,iv.weak λa z=>z.elim⟩;rw[Qy (by simp;lia),Qj,Qy (by lia),hv];rfl
  .rcases Nat.eq_or_lt_of_le hi with h0|h0
   .subst h0;rw[Qy (by simp),Qj,Q7 (by simp)] at e;simp at e;subst e;refine⟨.ref a,?_,rfl,a,ws,rfl,⟨rfl,rfl⟩,ow,tv⟩;rw[Qy (by simp;lia),Qj,Q7 (by lia)];simp[hl]
   .rw[Q7 (by simp;lia),QU] at e
    split at e <;> cases e
 .unfold za9 L2.start;simp[hl]
theorem z1f{t:TS}(h:SDu K O ds.length (.ref a) t g)(ok:O.Ok)(p:O.P H)(is:IsAll K (λ_=>False) H us ds)(nm:¬O.M a)(ow:H a=some (.dT ws))(tv:TV K H ws kvs)
 (hg:g Qk (za9 N (ds.map .im ++ [.thg (DctP (λv=>v = .ref a) kvs)])))
 (hQ:∀d kvs' v H' ws',Qk d kvs'->flat d=true->Stp O (cutU H [a]) H'->Is K (λ_=>False) H' v d->H' a=some (.dT ws')->TV K H' ws' kvs'->Q v H'):t { nx:=λ_ H'=>Q .non H',rt:=Q } (L2.start N (us ++ [.ref a])) H:=by
 refine h _ _ _ H _ Q Qk _ (zpk ok p is nm ow tv) hg λA' H' σ' ρ' v d kvs' r' e fl iv q=>?_;obtain⟨w,hw,pw,b,ws',eb,wb,hb,z⟩:=r'.at_ _ _ e;have pw':w = .ref a:=pw;rw[eb] at pw';cases pw';exact hQ d kvs' v H' ws' q fl r'.st iv hb z
def ADu(K:Qa)(O:Ob)(m:Nat)(u:TA)(g:DA):Prop :=
 ∀(σ:St) (H:Hp) (ρ:DSt) (Q:List V->Hp->Prop) (N:List VI->Prop) (v0:V),Seen K O H σ ρ->σ[m]? = some (some v0)->g ρ N->(∀vs H' ds,Stp O H H'->IsAll K (unM O) H' vs ds->N ds->Q (vs ++ [v0]) H')->u σ H Q
theorem zxt{m:Nat}:ADu K O m (zaw (tVar m) tNil) aNil:=λσ H ρ Q N v0 S hv q k=>⟨v0,hv,k [] H [] (.refl _ _) .nil q⟩
theorem zuk{m:Nat}{t:TE}(h:ED K O t f)(h':ADu K O m u g):ADu K O m (zaw t u) (zk3 f g):=λσ H ρ Q N v0 S hv q k=>by
 refine h σ H ρ _ _ S q λv H1 r s1 o1 q1=>?_;refine h' σ H1 ρ _ _ v0 (S.stp s1) hv q1 λvs H2 ds s2 o2 q2=>?_;exact k (v::vs) H2 (r.d::ds) (s1.trans s2) (.cons (Is.stp s2 (λ_ f=>f) (λ_ f=>f) (o1.is S.ok S.p)) o2) q2
def whU(m n:Nat)(F:List VI->TDv->(VI->TDv->Prop)->Prop)(g:DA):DS:=λDd ρ=>∃J:Nat->TDv->Prop,(∃N kvs,ρ[m]? = some (some (.thg (DctV kvs)))/\J N kvs) /\
 ∀N kvs,J N kvs->g (ρ.set m (some (.thg (DctV kvs)))) λds=>ds.length=n/\flats ds=true/\F ds kvs λd kvs'=>∃b,d = .bool b/\if b=true then ∃N',N'<N/\J N' kvs' else Dd.nx (ρ.set m (some (.thg (DctV kvs'))))
theorem zz3{m n:Nat}(h:ADu K O m u g):SD K O (zfw (tB (zbp (spU K n F) [] E u)) zgv) (whU m n F g):=λH₀ A σ H ρ D Dd r q P=>by
 obtain⟨J,⟨N0,kvs0,e0,j0⟩,turn⟩:=q;have lm:m<ρ.length:=(Qx.mp e0).1;refine⟨λN σ2 H2=>∃A2 kvs,Rep K O H₀ A2 H2 σ2 (ρ.set m (some (.thg (DctV kvs))))/\Frm O A H A2 H2/\J N kvs,⟨N0,A,kvs0,by rw[zd4 e0];exact r,.refl,j0⟩,?_⟩;rintro N σ2 H2 ⟨A2,kvs,r2,f2,jn⟩;have em:(ρ.set m (some (.thg (DctV kvs))))[m]? = some (some (.thg (DctV kvs))):=Q0 lm;obtain⟨v0,hv,_,a,ws,rfl,wa,ha,z⟩:=r2.at_ m _ em;have nm:¬O.M a:=(r2.own m a wa).2.2;refine h σ2 H2 _ _ _ (.ref a) r2.seen hv (turn N kvs jn) λvs H3 ds s1 is zz=>?_;obtain⟨hn,fl,q1⟩:=zz;have r3:=r2.stp s1;have ha3:H3 a=some (.dT ws):=s1.s a _ ha nm;have ia:IsAll K (λ_=>False) H3 vs ds:=is.flats (TupStay.refl _) fl;rw[QJ];refine⟨O,vs,ds,a,ws,kvs,_,r2.ok,r3.p,rfl,hn,ia,nm,ha3,z.to s1.t,q1,λd kvs' v H4 ws' ⟨b,ed,qk⟩ _ st iv h4 z4=>?_⟩;subst ed;cases iv;refine⟨b,rfl,?_⟩;have nma:∀b∈[a],¬O.M b:=λb y=>by rw[Qn.mp y];exact nm
 let Hm:Hp:=λb=>if b=a then H3 b else H4 b
 have hm_in:Hm a=H3 a:=Gm rfl;have hm_out:∀b,b≠a->Hm b=H4 b:=λb y=>Gn y;have p4:O.P H4:=st.p (zmo r2.ok r3.p nma).2
 have sm:Stp O H3 Hm:=by
  refine⟨λb o eb mb=>?_,λ_=>r2.ok.loc H4 _ (λb mb=>hm_out b λy=>nm (y ▸ mb)) p4,λb o hu eb=>?_⟩
  .by_cases y:b=a
   .subst y;rw[hm_in];exact eb
   .rw[hm_out b y];exact st.s b o (by rw[ze8 (by simpa using y)];exact eb) mb
  .by_cases y:b=a
   .subst y;rw[hm_in];exact eb
   .rw[hm_out b y];exact st.t b o hu (by rw[ze8 (by simpa using y)];exact eb)
 have stay:∀b o,Hm b=some o->¬A2 m b->H4 b=some o:=λb o eb y=>by
  rw[hm_out b λe=>y (e ▸ wa)] at eb;exact eb
 have hW:∀b,b=a->(A2 m b\/H2 b=QD)/\∃o,H4 b=some o/\OwnO o:=λb y=>by subst y;exact⟨.inl wa,_,h4,ownT⟩
 have rT:=r2.setT (i:=m) (v:=.ref a) (W:=λb=>b=a) (T:=DctV kvs') (s1.trans sm) stay hW ⟨trivial,a,ws',rfl,rfl,h4,z4⟩;rw[zd4 hv,List.set_set] at rT;have fT:Frm O A H (reg A2 m λb=>b=a) H4:=f2.trans (Frm.setT (s1.trans sm) stay λb y=>(hW b y).1)
 cases b with
 | true=>
   rw[Gm rfl] at qk;obtain⟨N',lt,jn'⟩:=qk;refine⟨λσ' H'=>σ'=σ2/\H'=H4,?_,⟨rfl,rfl⟩⟩;rintro σ' H' ⟨rfl,rfl⟩;exact⟨N',lt,_,kvs',rT,fT,jn'⟩
 | false=>
   rw[Gn Qo] at qk;exact P.nx _ σ2 H4 _ rT fT qk
end
section
variable {ι κ:Type}{P:VO}{w:VR}{K:Qa}{mg:Str->Option VJ}{base:Heap}{k:Nat}{X:ι->Cx}{O:κ->Ob}{a:Expr}{fa:DE}{ga:DA}{g1:DS}{es:List Expr}{st:Stmt}{sts:List Stmt}{pos p p1 p2 p3:Pos}{x y:Str}{m:Nat}
def Su3(K:Qa)(X:ι->Cx)(O:κ->Ob)(m:Nat)(s:List Stmt)(g:V->(VI->TDv->Prop)->DSt->Prop):Prop:=∃t,(∀i,PSs (X i) s t)/\∀j v0,SDu K (O j) m v0 t (g v0)
theorem z0w(m:Nat)(ha:E3 K X O a fa):Su3 K X O m [.Return (some a) pos] (λv0=>retU m v0 fa):=let ⟨_,p,d⟩:=ha;⟨_,λi=>zbz (zdl (p i)),λj _=>zwc (d j)⟩
theorem zre(h:S3 K X O st g1)(h':Su3 K X O m sts g2):Su3 K X O m (st::sts) (λv0 Qk ρ=>g1 { nx:=g2 v0 Qk,rt:=λ_=>False } ρ):=let ⟨_,p,d⟩:=h;let ⟨_,p2,d2⟩:=h';⟨_,λi=>za5 (p i) (p2 i),λj v0=>ztv (d j) (d2 j v0)⟩
def Adu3(X:ι->Cx)(K:Qa)(O:κ->Ob)(m:Nat)(es:List Expr)(f:DA):Prop:=∃u,(∀i,PA (X i) es u)/\∀j,ADu K (O j) m u f
theorem zxb(m:Nat)(hN:∀i,(X i).N[m]? = some x:=by intro i;rfl)(hv:∀i,Vis (X i).env.scope x:=by intro i;first|exact Or.inl rfl|exact Or.inr (Or.inl rfl)|exact Or.inr (Or.inr rfl))(hd:(x == ("__debug__" : Str))=false:=by decide)(hcd:(x == ("__classdict__" : Str))=false:=by decide)
 (he:∀i,VM [.Name x pos] (X i).env=(false,eval (.Name x pos) (X i).env)::VM [] (X i).env:=by intro i;rfl):Adu3 X K O m [.Name x pos] aNil:=⟨_,λi=>zas (zai (hN i) (hv i) hd hcd) zbj (he i),λj=>zxt⟩
theorem zos(ha:E3 K X O a fa)(hr:Adu3 X K O m es ga)(hs:∀i,VM (a::es) (X i).env=(false,eval a (X i).env)::VM es (X i).env:=by intro i;rfl):Adu3 X K O m (a::es) (zk3 fa ga):=let ⟨_,p,d⟩:=ha;let ⟨_,p2,d2⟩:=hr;⟨_,λi=>zas (p i) (p2 i) (hs i),λj=>zuk (d j) (d2 j)⟩
theorem z1q(m:Nat){k' n:Nat}(C:Ctx3 P w K mg base k X)(D:Def3 P w K mg base k' y ps (spU K n F))(ha:Adu3 X K O m (a::es) gd)(hk:k'<=k:=by decide)(hg:∀i,Gl (X i) y:=by intro i;rfl)
 (hdb:(y == ("__debug__" : Str))=false:=by decide) (he:∀i,VM (a::es) (X i).env=(false,eval a (X i).env)::VM es (X i).env:=by intro i;rfl) (hpl:∀i,(Ui p2 (VM es (X i).env)).any (·.1)=false:=by intro i;rfl)
 (hT:∀i whole,isTrue (.Call (.Name y p1) (a::es) [] p2) (X i).env whole=(do let v <- whole;standAt (Expr.Call (.Name y p1) (a::es) [] p2).pos;holding [v] (truthy v)):=by intro _ _;rfl) :
 S3 K X O (.While (.Call (.Name y p1) (a::es) [] p2) [.Pass p3] [] pos) (whU m n F gd):=by
 obtain⟨f,fd,G,mm,kp,bn⟩:=D.ex;obtain⟨t,q,d⟩:=ha;refine⟨zfw (tB (zbp (spU K n F) [] E0 t)) zgv,λi=>?_,λj=>zz3 (d j)⟩;have G':FnOk (X i).prog (X i).w (X i).K (X i).mg (X i).base CX0 k f fd ps (spU K n F):=by rw[C.hP,C.hw,C.hK,C.hmg,C.hb];exact G.mono hk
 exact zhv (zd6 (C.xe i)) (zsi (zb7 G' (C.room i) (hg i) (by rw[C.hmg];exact mm) (by rw[C.hK];exact kp) (by rw[C.hK];exact bn) .nil zdg (q i) hdb (he i) (hpl i)) (hT i)) (zbz zv7)
end
section
variable {P:VO}{w:VR}{K:Qa}{mg:Str->Option VJ}{base:Heap}{k n:Nat}{x:Str}{st:Stmt}{N ps:List Str}{F:List VI->TDv->(VI->TDv->Prop)->Prop}
theorem mk_U(T:Top3 K mg x st)(S:FnScope N ps (zad st))(hb:∀(kV doc pm:VJ) (an:Option Addr) (cdv ct:VJ) (us:List VJ),us.length=ps.length->Uc (Zb x x (zbk st) (zay st) (zad st) .none kV doc pm an cdv ct) ⟨us,[]⟩=pure (ps.zip us))(hn:ps.length=n+1)
 (body:∀(f:Addr) (cdv:VJ) (A:VY) (outer:List Env) (s:VN) (H:Hp) (E:XK) (O:Ob),Ctx3 P w K mg base k (zbq P w K mg base N x (zad st) f cdv A outer s H E) ->
  ∃g,Su3 K (zbq P w K mg base N x (zad st) f cdv A outer s H E) (λ_:Unit=>O) n (zay st) g/\∀v0 ds kvs Qk,ds.length=n->F ds kvs Qk->g v0 Qk (za9 N (ds.map .im ++ [.thg (DctP (λv=>v=v0) kvs)]))):Def3 P w K mg base (k+1) x ps (spU K n F):=by
 obtain⟨f,fd,Fu,mm⟩:=T.ex;refine⟨f,fd,Fu.ok S (zym hn) (λcdv A outer s H vs Q E hr h=>?_),mm,Fu.kp,Fu.binds hb⟩;obtain⟨O,us,ds,a,ws,kvs,Qk,ok,p,rfl,hl,is,nm,ow,tv,q,kk⟩:=h;obtain⟨g,⟨t,h1,h2⟩,h3⟩:=body f cdv A outer s H E O (zcb hr);subst hl;exact⟨t,h1 (),z1f (h2 () (.ref a)) ok p is nm ow tv (h3 (.ref a) ds kvs Qk rfl q) kk⟩
end
def SDv(K:Qa)(O:Ob)(t:TS)(g:(TDv->Prop)->DSt->Prop):Prop:=∀(H₀:Hp) (A:Nat->Addr->Prop) (σ:St) (H:Hp) (ρ:DSt) (R:VK) (Qk:TDv->Prop) (Nx:St->Hp->Prop),Rep K O H₀ A H σ ρ->g Qk ρ->(∀kvs a ws H',Qk kvs->Stp O H₀ H'->H₀ a=none->¬O.M a->H' a=some (.dT ws)->TV K H' ws kvs->R (.ref a) H')->t { nx:=Nx,rt:=R } σ H
def spV(K:Qa)(φ:Ob->Prop)(n:Nat)(f:List VI->(TDv->Prop)->Prop):Sp:=λvs H Q _=>
 ∃(O:Ob) (ds:List VI) (Qk:TDv->Prop),O.Ok/\φ O/\O.P H/\ds.length=n/\IsAll K (unM O) H vs ds/\f ds Qk/\∀kvs a ws H',Qk kvs->Stp O H H'->H a=none->¬O.M a->H' a=some (.dT ws)->TV K H' ws kvs->Q (.ref a) H'
theorem zwz{K:Qa}{φ:Ob->Prop}{n:Nat}{f:List VI->(TDv->Prop)->Prop}{ps:List Str}(hn:ps.length=n):∀vs H Q E,spV K φ n f vs H Q E->vs.length=ps.length:=λvs H Q E zz=>by obtain⟨O,ds,_,_,_,_,h,is,_⟩:=zz;rw[is.length,h,hn]
section
variable {K:Qa}{O:Ob}
theorem zwl{m:Nat}:SDv K O (tRet (tVar m)) (λQk ρ=>∃kvs,ρ[m]? = some (some (.thg (DctV kvs)))/\Qk kvs):=λH₀ A σ H ρ R Qk Nx r ⟨kvs,e,q⟩ k=>by
 obtain⟨v,hv,_,a,ws,rfl,w,hH,z⟩:=r.at_ m _ e;obtain⟨h1,_,h3⟩:=r.own m a w;exact⟨_,hv,k kvs a ws H q r.st h1 h3 hH z⟩
theorem ztz{t:TS}(h:SD K O t g1)(h':SDv K O u g2):SDv K O (tSeq t u) (λQk ρ=>g1 { nx:=g2 Qk,rt:=λ_=>False } ρ):=λH₀ A σ H ρ R Qk Nx r q k=>by
 refine h H₀ A σ H ρ _ _ r q ⟨λA' σ' H' ρ' r' _ q'=>?_,λ_ _ _ _ _ _ z=>z.elim,λ_ _ _ _ _ _ z=>z.elim,λ_ _ _ _ _ z=>z.elim⟩;exact h' H₀ A' σ' H' ρ' R Qk Nx r' q' k
def zvi(n:Nat)(f:List VI->(TDv->Prop)->Prop)(g:DA)(fk:DKy)(fe:DE):DE:=λρ Q=>g ρ λds=>ds.length=n/\f ds λkvs=>fk ρ λk=>fe ρ λr2=>flat r2.d=true/\Q (.o ((kvs.at_ k).getD r2.d))
theorem zxj{n:Nat}{t:TA}(hφ:φ O)(h:AD K O t g)(hk:EKy (K:=K) O tk fk)(he:ED K O te fe):ED K O (zfz (zbp (spV K φ n f) [] E t) tk te) (zvi n f g fk fe):=λσ H ρ Q Qd S q kk=>by
 refine h σ H ρ _ _ S q λvs H1 ds s1 is zz=>?_;obtain⟨hn,q1⟩:=zz;rw[QJ];refine⟨O,ds,_,S.ok,hφ,s1.p S.p,hn,is,q1,λkvs a ws H2 qk s2 ha nm e z=>?_⟩;refine⟨a,rfl,.inr ⟨_,.inl e⟩,?_⟩;refine hk σ H2 ρ _ _ ((S.stp s1).stp s2) qk λb ky H3 s3 eb q3=>?_;refine he σ H3 ρ _ _ (((S.stp s1).stp s2).stp s3) q3 λy H4 r2 s4 o4 zz=>?_;obtain⟨fl,q4⟩:=zz;have e4:H4 a=some (.dT ws):=s4.s a _ (s3.s a _ e nm) nm;have z4:TV K H4 ws kvs:=(z.to s3.t).to s4.t;have eb4:H4 b=some (.tup (ky.map kV)):=s4.t b _ ⟨_,.inl rfl⟩ eb;have st:=((s1.trans s2).trans s3).trans s4;refine⟨_,.t (k:=ky) e4 eb4,?_⟩;have hz:=z4.val (i:=ky)
 cases hv:TDv.at_ kvs ky with
 | none=>
   rw[hv] at hz q4
   cases hw:valV ws ky with
   | some w=>rw[hw] at hz;exact absurd hz.1 (by simp)
   | none=>exact kk y H4 (.o r2.d) st (o4.is S.ok (((s1.trans s2).trans s3).p S.p)) q4
 | some d=>
   obtain⟨fd,w,hw,iw⟩:=hz.2 d hv;rw[hv] at q4;rw[hw];exact kk w H4 (.o d) st (Is.flat (TupStay.refl H4) iw fd) q4
end
section
variable {ι κ:Type}{P:VO}{w:VR}{K:Qa}{mg:Str->Option VJ}{base:Heap}{k:Nat}{X:ι->Cx}{O:κ->Ob}{a b c:Expr}{fb:DE}{fk:DKy}{ga:DA}{g1:DS}{es:List Expr}{st:Stmt}{sts:List Stmt}{pos px p p1 p2 p3 apos cpos:Pos}{x y:Str}{m:Nat}
def Sv3(K:Qa)(X:ι->Cx)(O:κ->Ob)(s:List Stmt)(g:(TDv->Prop)->DSt->Prop):Prop:=∃t,(∀i,PSs (X i) s t)/\∀j,SDv K (O j) t g
theorem z0y(m:Nat)(hN:∀i,(X i).N[m]? = some x:=by intro i;rfl)(hv:∀i,Vis (X i).env.scope x:=by intro i;first|exact Or.inl rfl|exact Or.inr (Or.inl rfl)|exact Or.inr (Or.inr rfl))(hd:(x == ("__debug__" : Str))=false:=by decide)(hcd:(x == ("__classdict__" : Str))=false:=by decide):
 Sv3 K X O [.Return (some (.Name x px)) pos] (λQk ρ=>∃kvs,ρ[m]? = some (some (.thg (DctV kvs)))/\Qk kvs):=⟨_,λi=>zbz (zdl (zai (hN i) (hv i) hd hcd)),λj=>zwl⟩
theorem zms(h:S3 K X O st g1)(h':Sv3 K X O sts g2):Sv3 K X O (st::sts) (λQk ρ=>g1 { nx:=g2 Qk,rt:=λ_=>False } ρ):=let ⟨_,p,d⟩:=h;let ⟨_,p2,d2⟩:=h';⟨_,λi=>za5 (p i) (p2 i),λj=>ztz (d j) (d2 j)⟩
theorem zyz{k' n:Nat}(C:Ctx3 P w K mg base k X)(D:Def3 P w K mg base k' y ps (spV K φ n F))(hφ:∀j,φ (O j))(ha:A3 K X O (a::es) gd)(hb:Ky3 K X O b fk)(hc:E3 K X O c fb)(hk:k'<=k:=by decide)(hg:∀i,Gl (X i) y:=by intro i;rfl)
 (hdb:(y == ("__debug__" : Str))=false:=by decide) (he:∀i,VM (a::es) (X i).env=(false,eval a (X i).env)::VM es (X i).env:=by intro i;rfl) (hpl:∀i,(Ui p2 (VM es (X i).env)).any (·.1)=false:=by intro i;rfl)
 (hm:∀i,M2 (X i) (.Call (.Name y p1) (a::es) [] p2) "get" apos b c cpos:=by intro i;exact⟨rfl,rfl,rfl,rfl⟩) :
 E3 K X O (.Call (.Attribute (.Call (.Name y p1) (a::es) [] p2) "get" apos) [b,c] [] cpos) (zvi n F gd fk fb):=by
 obtain⟨f,fd,G,mm,kp,bn⟩:=D.ex;obtain⟨t,q,d⟩:=ha;obtain⟨t2,q2,d2⟩:=hb;obtain⟨t3,q3,d3⟩:=hc;refine⟨zfz (zbp (spV K φ n F) [] E0 t) t2 t3,λi=>?_,λj=>zxj (hφ j) (d j) (d2 j) (d3 j)⟩;have G':FnOk (X i).prog (X i).w (X i).K (X i).mg (X i).base CX0 k f fd ps (spV K φ n F):=by rw[C.hP,C.hw,C.hK,C.hmg,C.hb];exact G.mono hk
 exact zhu (zbe (C.room i)) (zb7 G' (C.room i) (hg i) (by rw[C.hmg];exact mm) (by rw[C.hK];exact kp) (by rw[C.hK];exact bn) .nil zdg (q i) hdb (he i) (hpl i)) (q2 i) (q3 i) (hm i)
end
section
variable {P:VO}{w:VR}{K:Qa}{mg:Str->Option VJ}{base:Heap}{k n:Nat}{x:Str}{st:Stmt}{N ps:List Str}{φ:Ob->Prop}{F:List VI->(TDv->Prop)->Prop}
theorem mk_V(T:Top3 K mg x st)(S:FnScope N ps (zad st))(hb:∀(kV doc pm:VJ) (an:Option Addr) (cdv ct:VJ) (us:List VJ),us.length=ps.length->Uc (Zb x x (zbk st) (zay st) (zad st) .none kV doc pm an cdv ct) ⟨us,[]⟩=pure (ps.zip us))(hn:ps.length=n)
 (body:∀(f:Addr) (cdv:VJ) (A:VY) (outer:List Env) (s:VN) (H:Hp) (E:XK) (O:Ob),φ O->Ctx3 P w K mg base k (zbq P w K mg base N x (zad st) f cdv A outer s H E) ->
  ∃g,Sv3 K (zbq P w K mg base N x (zad st) f cdv A outer s H E) (λ_:Unit=>O) (zay st) g/\∀ds Qk,ds.length=n->F ds Qk->g Qk (za9 N (ds.map .im))):Def3 P w K mg base (k+1) x ps (spV K φ n F):=by
 obtain⟨f,fd,Fu,m⟩:=T.ex;refine⟨f,fd,Fu.ok S (zwz hn) (λcdv A outer s H vs Q E hr h=>?_),m,Fu.kp,Fu.binds hb⟩;obtain⟨O,ds,Qk,ok,hφ,p,hl,is,q,kk⟩:=h;obtain⟨g,⟨t,h1,h2⟩,h3⟩:=body f cdv A outer s H E O hφ (zcb hr);refine⟨t,h1 (),?_⟩
 have r:=zec (K:=K) (O:=O) (N:=N) (H:=H) (vs:=vs) (rs:=ds.map .im) ok p (by rw[Qb];exact is.length) λi r e=>by
  rw[Qj] at e;obtain⟨d,hd,rfl⟩:=Qf.mp e;obtain⟨v,hv,iv⟩:=is.get hd;exact⟨v,hv,.inl ⟨d,rfl,iv⟩⟩
 exact h2 () H _ _ H _ Q Qk _ r (h3 ds Qk hl q) λkvs a ws H' qk s2 ha nm e z=>kk kvs a ws H' qk s2 ha nm e z
end
section
variable {K:Qa}{O:Ob}{H₀ H:Hp}{A:Nat->Addr->Prop}{σ:St}{ρ:DSt}
theorem Rep.mov{n m:Nat}(r:Rep K O H₀ A H σ ρ)(e:ρ[m]? = some (some (.thg T)))(hv:σ[m]? = some (some v))(ne:n≠m):
 Rep K O H₀ (λj b=>(j≠n/\j≠m/\A j b)\/(j=n/\A m b)) H (σ.set n (some v)) ((ρ.set m QD).set n (some (.thg T))):=by
 have un:∀b,unO O A b->unO O (λj b=>(j≠n/\j≠m/\A j b)\/(j=n/\A m b)) b:=λb f=>⟨f.1,λj z=>by
  rcases z with z|z
  .exact f.2 j z.2.2
  .exact f.2 m z.2⟩
 have tF:∀b u,unO O A b->H b=some u->unO O (λj b=>(j≠n/\j≠m/\A j b)\/(j=n/\A m b)) b/\H b=some u:=λb u f q=>⟨un b f,q⟩;have mv:∀{v d},Is K (unO O A) H v d->Is K (unO O (λj b=>(j≠n/\j≠m/\A j b)\/(j=n/\A m b))) H v d:=λz=>z.weak un;have mvs:∀{v d},IsAll K (unO O A) H v d->IsAll K (unO O (λj b=>(j≠n/\j≠m/\A j b)\/(j=n/\A m b))) H v d:=λz=>z.weak un;obtain⟨v',hv',hT⟩:=r.at_ m _ e;rw[hv] at hv';cases hv';refine⟨r.ok,r.p,r.p0,r.st,λj k b x y=>?_,λj b x=>?_,λj x ex=>?_,by rw[QA,QA,QA];exact r.len⟩
 .rcases x with x|x <;> rcases y with y|y
  .exact r.dis j k b x.2.2 y.2.2
  .exact absurd (r.dis j m b x.2.2 y.2) x.2.1
  .exact absurd (r.dis k m b y.2.2 x.2) y.2.1
  .exact x.1.trans y.1.symm
 .rcases x with x|x
  .exact r.own j b x.2.2
  .exact r.own m b x.2
 .by_cases hj:n=j
  .subst hj
   have hi:n<(ρ.set m QD).length:=by
    rcases ZN n (ρ.set m QD).length with z|z
    .exact z
    .rw[QI (by rw[QA];exact z)] at ex;cases ex
   rw[Q0 hi] at ex;cases ex;exact⟨v,Q0 (by rw[QA] at hi;have:=r.len;lia),T.to (λb u f q=>tF b u f q) (λb u w q=>⟨.inr ⟨rfl,w⟩,q⟩) (TupStay.refl _) hT⟩
  .rw[Q4 hj] at ex
   have hjm:m≠j:=λz=>by
    subst z;rcases ZN m ρ.length with z|z
    .rw[Q0 z] at ex;cases ex
    .rw[QI (by rw[QA];exact z)] at ex;cases ex
   rw[Q4 hjm] at ex;obtain⟨w,h1,h2⟩:=r.at_ j x ex;have aj:∀b,A j b->(j≠n/\j≠m/\A j b)\/(j=n/\A m b):=λb z=>.inl ⟨λz=>hj z.symm,λz=>hjm z.symm,z⟩;refine⟨w,by rw[Q4 hj];exact h1,?_⟩
   cases x with
   | im d=>exact mv h2
   | own es=>obtain⟨b,ys,e,hb,hlb,hs⟩:=h2;exact⟨b,ys,e,aj b hb,hlb,mvs hs⟩
   | ob=>exact h2
   | scr n=>exact IsS.to (λb u f q=>tF b u f q) h2
   | dct ks=>obtain⟨b,hb,h2⟩:=h2;exact⟨b,aj b hb,h2⟩
   | gen f ds=>obtain⟨b,xs,e,hb,q,z⟩:=h2;exact⟨b,xs,e,aj b hb,q,mvs z⟩
   | rd f ds=>obtain⟨b,xs,e,hb,q,z⟩:=h2;exact⟨b,xs,e,un b hb,q,mvs z⟩
   | exc C ns ds=>obtain⟨xs,e,z⟩:=h2;exact⟨xs,e.to λb u f q=>tF b u f q,mvs z⟩
   | thg T=>exact T.to (λb u f q=>tF b u f q) (λb u w q=>⟨aj b w,q⟩) (TupStay.refl _) h2
   | thr T=>obtain⟨W',hw,z⟩:=h2;exact⟨W',λb w=>let ⟨f,o⟩:=hw b w;⟨un b f,o⟩,T.to (λb u f q=>tF b u f q) (λb u w q=>⟨w,q⟩) (TupStay.refl _) z⟩
def movT(n m:Nat):DS:=λDd ρ=>∃T,ρ[m]? = some (some (.thg T))/\Dd.nx ((ρ.set m QD).set n (some (.thg T)))
theorem zxx{n m:Nat}(ne:n≠m):SD K O (tAsg (tVar m) (zap n)) (movT n m):=λH₀ A σ H ρ D Dd r q P=>by
 obtain⟨T,e,q⟩:=q;obtain⟨v,hv,_⟩:=r.at_ m _ e;refine⟨v,hv,?_⟩;refine P.nx _ _ _ _ (r.mov e hv ne) (λb o e u=>⟨e,u.1,λj z=>?_⟩) q;rcases z with z|z
 .exact u.2 j z.2.2
 .exact u.2 m z.2
end
section
variable {ι κ:Type}{P:VO}{w:VR}{K:Qa}{mg:Str->Option VJ}{base:Heap}{k:Nat}{X:ι->Cx}{O:κ->Ob}{st:Stmt}{g:DS}{pos px py p1 p2 p3:Pos}{x y:Str}{a b tg:Expr}{fa fb:DE}{v:Bool}{j:Nat}
theorem zrg(n m:Nat)(ne:n≠m:=by decide)(hN:∀i,(X i).N.Nodup:=by intro i;exact Go (by kernel_rfl))(hi:∀i,(X i).N[n]? = some x:=by intro i;rfl)(hx:∀i,Loc (X i).env.scope x:=by intro i;first|exact Or.inl rfl|exact Or.inr rfl)
 (hN2:∀i,(X i).N[m]? = some y:=by intro i;rfl) (hv:∀i,Vis (X i).env.scope y:=by intro i;first|exact Or.inl rfl|exact Or.inr (Or.inl rfl)|exact Or.inr (Or.inr rfl)) (hd:(y == ("__debug__" : Str))=false:=by decide) (hcd:(y == ("__classdict__" : Str))=false:=by decide)
 (hs:∀i,VX (.Name y py) (some (.Name x px)) pos.line (X i).env=pure false:=by intro i;rfl) (hf:∀i,(X i).fn x=true\/(X i).env.scope.names.lookup x=some .local:=by intro i;first|exact .inl rfl|exact .inr rfl):S3 K X O (.Assign [.Name x px] (.Name y py) pos) (movT n m) :=
 ⟨_,λi=>zbi (hN i) (hi i) (hx i) (zai (hN2 i) (hv i) hd hcd) (hs i) (hf i),λj=>zxx ne⟩
end
def NObj(P:VO)(w:VR)(a:Addr)(o:Obj)(ws:List (Key×V)):Prop:=ws.length<=sizeLine/\(a == Uj)=false/\o.ExactDict/\∃(vs:List (Key×VJ)) (ep:Nat),KV ws vs/\∀h:Heap,h.get? a=some o->h.DictAt (za4 P w) a vs ep
theorem zpb{pins:List (Addr×Obj)}(I:Inv X pins σ H s)(ha:H a=some (.dK ws)):∃o,NObj X.prog X.w a o ws/\Inv X pins σ (upd H a (stl a o)) s:=by
 obtain⟨z,y,vs,r,o,es,ep,e,c,g1,g2,g3,g4⟩:=I.hok a _ ha;exact⟨o,⟨z,y,c,vs,ep,r,λh e'=>⟨o,es,e',c,g1,g2,g3,g4⟩⟩,I.write (x:=a) (e:=a) (t':=s.toks) (h':=s.heap) (by rw[ha];exact Z1) (.inl rfl) (λ_ _ _ q=>q) ⟨o,e⟩ ⟨e,⟨o,e⟩,λh1 h2 p k=>k o p⟩⟩
def Itk(a:Addr)(o:Obj)(ws:List (Key×V)):It :=
 ⟨λi H=>i<ws.length/\H a=some (stl a o),λi H x H'=>∃p q,H p=none/\ws[i]? = some q/\x = .ref p/\H'=upd H p (.tup [kV q.1,q.2]),λi H=>ws.length<=i/\H a=some (stl a o)⟩
theorem zy8(r:KV ws vs):∀{i:Nat} {q:Key×V},ws[i]? = some q->∃v,vs[i]? = some (q.1,v)/\RelV q.2 v:=by
 unfold KV at r
 induction r with
 | nil=>intro i q h;simp at h
 | @cons p p' ps qs h t ih=>
   intro i q hi
   cases i with
   | zero=>cases hi;exact⟨p'.2,by rw[h.1];rfl,h.2⟩
   | succ i=>exact ih (by simpa using hi)
theorem zhl:entryFor table "dict_itemiterator.__iter__" = some Builtin.«dict_keyiterator.__iter__»:=by
 first
  | exact entryFor_alias (id (Eq.refl (fastTable "dict_itemiterator.__iter__"))) rfl (by decide) (id (Eq.refl (fastTable "dict_keyiterator.__iter__")))
  | kernel_rfl
theorem zoz{prog:VO}{d:Addr}{i n ep:Nat}{ok:VJ}(st:IsItemIter s.heap it d i n ep ok ov)(h:Q (.ref it) s):wpAny (model prog w) A (pyIter (.ref it)) Q E s:=by
 have T:s.TypeIs (.ref it) "dict_itemiterator" := ⟨_,st,rfl⟩;refine wpAny_pyIter_slot T JD (Ua JD T zhl ?_ (F.args_dict_itemiterator_iter_1 _));unfold Builtin.«dict_keyiterator.__iter__»
 wp_walk
 exact⟨_,rfl, "dict_itemiterator",_,T,F.slot_dict_itemiterator_next.lookup,h⟩
theorem zpr{P:VO}{w:VR}{K:Qa}{elts:List Expr}{x1:Nat}{pos:Pos}{a it:Addr}{o:Obj}{ws:List (Key×V)}{vs:List (Key×VJ)}{ep:Nat}(ne:a≠it)(r:KV ws vs)(D:∀h:Heap,h.get? a=some o->h.DictAt (za4 P w) a vs ep):
 Turn P w K (.Tuple elts x1 pos) (Itk a o ws) [it] it (λi h=>∃ok ov,IsItemIter h it a i vs.length ep ok ov) where
 mem:=by simp
 obj:=λi h st b hb=>by
  have e:b=it:=by simpa using hb
  subst e;obtain⟨ok,ov,st⟩:=st;exact⟨_,st,λv z=>by cases z⟩
 keep:=λi h h' ⟨ok,ov,st⟩ k=>⟨ok,ov,k it (by simp) _ st⟩
 item:=by
  intro X hP hw hK hc i pins s σ H E I hf st hg;subst hP hw hK;obtain⟨hi,ha⟩:=hg;obtain⟨ok,ov,st⟩:=st;obtain⟨eo,_,_⟩:=I.hok a _ ha;obtain⟨v,hv,rv⟩:=zy8 r (Qu hi);have lt:it≠s.heap.objs.size:=Q5 (Qt st);refine wpAny_pyNext_items_item st (D _ eo) hv λkey h' hk out tp sz up=>⟨_,rfl,?_⟩;refine wpAny_letOwnedTupleGo_items out λh2 it2 sb=>?_
  have up2:∀b u,b ∉ [it]->s.heap.get? b=some u->h2.get? b=some u:=λb u hb e=>by
   have nb:b≠it:=by simpa using hb
   exact(sb.2 b nb).trans (up b u nb e)
  have P2:h2.get? s.heap.objs.size=some { cls:=.type "tuple",data:=.seq #[key,v] }:=(sb.2 _ (Zt lt)).trans tp;have sL:=VP;refine⟨.ref s.heap.objs.size,_,zj2 (s:=s) (t':=s.toks) I hf up2 (Qe _) (o:=.tup [kV ws[i].1,ws[i].2]) ⟨by show 2<=sizeLine;lia,[key,v],.cons (ztw hk) (.cons rv .nil),⟨_,P2,rfl,_,rfl⟩⟩,rfl,⟨_,ws[i],I.hok.fresh (Qe _),Qu hi,rfl,rfl⟩,⟨key,v,it2⟩,λb hb=>?_⟩;have e:b=it:=by simpa using hb
  subst e;rw[zac lt];exact(hf _ hb).1
 done:=by
  intro X hP hw hK hc i pins s σ H E I hf st hg;subst hP hw hK;obtain⟨hi,ha⟩:=hg;obtain⟨ok,ov,st⟩:=st;obtain⟨eo,_,_⟩:=I.hok a _ ha;have ln:ws.length=vs.length:=JC r;refine wpAny_pyNext_items_end (I.ok.hd hc) st (D _ eo) (QI (by lia)) λh' ex=>⟨rfl,zkp (t':=s.toks) I hf λb u hb e=>ex b u (by simpa using hb) e⟩
 self:=by
  intro _ _ _ _ _ ⟨_,_,st⟩ h;exact zoz st h
def zme(P:VO)(w:VR)(t:TE):TI:=λσ H R=>t σ H λv H1=>∃a o ws,v = .ref a/\H1 a=some (stl a o)/\NObj P w a o ws/\R (Itk a o ws) H1
theorem ztu{elts:List Expr}{x1:Nat}{apos cpos:Pos}{to:TE}(ho:PE X o to)(hbase:Ul o "items" X.env (eval o X.env)=eval o X.env)(hline:(apos.endLine == cpos.line)=true):PI X (.Tuple elts x1 pos) (.Call (.Attribute o "items" apos) [] [] cpos) (zme X.prog X.w to):=by
 intro pins s σ H R I h;refine U8 hbase hline (thn (ho pins s σ H _ I h) λv s1 zz=>?_);obtain⟨y,H1,I1,r1,q1⟩:=zz;obtain⟨a,ob,ws,rfl,ha,⟨z,ns,c,vs,ep,rel,D⟩,q⟩:=q1;cases r1;obtain⟨eo,_,_⟩:=I1.hok a _ ha;have T:s1.TypeIs (.ref a) "dict" := ⟨_,eo,c.1⟩;refine⟨"dict", "dict.items",F.plainAttrs_dict,Vc,F.type_dict_items,T,λb e=>by cases e;exact⟨ob,eo,c.2.1⟩,ZL rfl (YD ?_)⟩;refine Ua Vc T F.entry_dict_items ?_ (F.args_dict_items_1 _);unfold Builtin.«dict.items»
 wp_walk
 rw[c.1,Gn (by decide)]
 wp_walk
 refine⟨_,rfl,?_⟩;have eo1:(s1.heap.push { cls:=.type "dict_items",data:=.fields #[.ref a] }).get? a=some ob:=Qg _ eo;refine wpAny_pyIter_items ⟨_,Qv _ rfl,rfl,rfl⟩ (D _ eo1) ?_;have sz:(s1.heap.push { cls:=.type "dict_items",data:=.fields #[.ref a] }).objs.size=s1.heap.objs.size+1:=QW ..;have le:s1.heap.objs.size<=(s1.heap.push { cls:=.type "dict_items",data:=.fields #[.ref a] }).objs.size:=by rw[sz];exact Jr _
 have ne:a≠(s1.heap.push { cls:=.type "dict_items",data:=.fields #[.ref a] }).objs.size:=by rw[sz];exact Q5 (ZQ (Qt eo))
 refine⟨_,[(s1.heap.push { cls:=.type "dict_items",data:=.fields #[.ref a] }).objs.size],_,Itk a ob ws,H1,rfl,I1.kept (t':=s1.toks) λb u e=>Qg _ (Qg _ e),zpr ne rel D,⟨_,_,Qv _ rfl⟩,λb hb=>?_,q⟩;rw[Qn.mp hb];exact I1.fpOk le (I1.hok.fresh le)
section
variable {K:Qa}{O:Ob}{H₀ H:Hp}{A:Nat->Addr->Prop}{σ:St}{ρ:DSt}{P:VO}{w:VR}
theorem Rep.stillG{m:Nat}(r:Rep K O H₀ A H σ ρ)(hv:σ[m]? = some (some (.ref a)))(w1:A m a)(ha:H a=some o0)(nt:∀u,(∃us,u = .tup us\/∃o',u = .frz o' (.tup us))->u=o0->False)(hT:TupStay H (upd H a u0)->T0.R K (unO O (λj b=>j≠m/\A j b)) (λb=>b=a) (upd H a u0) (.ref a)):
 Rep K O H₀ (λj b=>j≠m/\A j b) (upd H a u0) σ (ρ.set m (some (.thr T0)))/\Frm O A H (λj b=>j≠m/\A j b) (upd H a u0):=by
 obtain⟨h0,_,nm⟩:=r.own m a w1;have ne:∀b,unO O A b->b≠a:=λb f z=>f.2 m (by rw[z];exact w1);have un:∀b,unO O A b->unO O (λj b=>j≠m/\A j b) b:=λb f=>⟨f.1,λj z=>f.2 j z.2⟩;have tF:∀b u,unO O A b->H b=some u->unO O (λj b=>j≠m/\A j b) b/\upd H a (u0) b=some u:=λb u f q=>⟨un b f,by rw[zac (ne b f)];exact q⟩
 have ts:TupStay H (upd H a (u0)):=λb u hu hb=>by
  rw[zac λz=>?_]
  .exact hb
  .rw[z,ha] at hb;cases hb;exact nt _ hu rfl
 have oj:∀j b,j≠m->A j b->b≠a:=λj b hj z e=>hj (r.dis j m b z (by rw[e];exact w1));have mv:∀{v d},Is K (unO O A) H v d->Is K (unO O (λj b=>j≠m/\A j b)) (upd H a (u0)) v d:=λz=>z.to (λb ys f q=>tF b _ f q) λb ys q=>SqT.stay (h:=q) ts;have mvs:∀{v d},IsAll K (unO O A) H v d->IsAll K (unO O (λj b=>j≠m/\A j b)) (upd H a (u0)) v d:=λz=>z.to (λb ys f q=>tF b _ f q) λb ys q=>SqT.stay (h:=q) ts;refine⟨⟨r.ok,r.ok.loc H _ (λb mb=>zac λz=>nm (z ▸ mb)) r.p,r.p0,⟨λb u e n=>?_,λ_=>r.ok.loc H _ (λb mb=>zac λz=>nm (z ▸ mb)) r.p,λb u hu hb=>ts b u hu (r.st.t b u hu hb)⟩,λj k b x y=>r.dis j k b x.2 y.2,λj b x=>?_,λj x e=>?_,by rw[QA];exact r.len⟩,λb u e f=>⟨(tF b u f e).2,un b f⟩⟩
 .rw[zac λz=>by rw[z,h0] at e;cases e];exact r.st.s b u e n
 .obtain⟨g1,⟨u,g2,g3⟩,g4⟩:=r.own j b x.2;exact⟨g1,⟨u,by rw[zac (oj j b x.1 x.2)];exact g2,g3⟩,g4⟩
 .by_cases hj:m=j
  .subst hj
   have hi:m<ρ.length:=by
    rcases ZN m ρ.length with z|z
    .exact z
    .rw[QI (by rw[QA];exact z)] at e;cases e
   rw[Q0 hi] at e;cases e;exact⟨.ref a,hv,λb=>b=a,λb e=>by subst e;exact⟨⟨nm,λj z=>z.1 (r.dis j m _ z.2 w1)⟩,_,zaf⟩,hT ts⟩
  .rw[Q4 hj] at e;have hj':j≠m:=λz=>hj z.symm;obtain⟨v,h1,h2⟩:=r.at_ j x e;refine⟨v,h1,?_⟩
   cases x with
   | im d=>exact mv h2
   | own es=>obtain⟨b,ys,e,hb,hlb,hs⟩:=h2;exact⟨b,ys,e,⟨hj',hb⟩,by rw[zac (oj j b hj' hb)];exact hlb,mvs hs⟩
   | ob=>exact h2
   | scr n=>exact IsS.to (λb u f q=>tF b u f q) h2
   | dct ks=>obtain⟨b,hb,h2⟩:=h2;exact⟨b,⟨hj',hb⟩,h2.to λu q=>by rw[zac (oj j b hj' hb)];exact q⟩
   | gen f ds=>obtain⟨b,ys,e,hb,q,z⟩:=h2;exact⟨b,ys,e,⟨hj',hb⟩,by rw[zac (oj j b hj' hb)];exact q,mvs z⟩
   | rd f ds=>obtain⟨b,ys,e,hb,q,z⟩:=h2;exact⟨b,ys,e,un b hb,(tF b _ hb q).2,mvs z⟩
   | exc C ns ds=>obtain⟨ys,e,z⟩:=h2;exact⟨ys,e.to λb u f q=>tF b u f q,mvs z⟩
   | thg T=>exact T.to (λb u f q=>tF b u f q) (λb u w q=>⟨⟨hj',w⟩,by rw[zac (oj j b hj' w)];exact q⟩) ts h2
   | thr T=>obtain⟨W',hw,z⟩:=h2;exact⟨W',λb w=>let ⟨f,o,q⟩:=hw b w;⟨un b f,o,(tF b _ f q).2⟩,T.to (λb u f q=>tF b u f q) (λb u w q=>⟨w,(tF b u (hw b w).1 q).2⟩) ts z⟩
def DctK(P:VO)(w:VR)(kvs:KD):Thg:=⟨λK _ W H v=>∃a o ws,v = .ref a/\W a/\H a=some (stl a o)/\NObj P w a o ws/\NV K H ws kvs,λ_ hW ts ⟨a,o,ws,e,z,q,t,l⟩=>⟨a,o,ws,e,(hW a _ z q).1,(hW a _ z q).2,t,l.to ts⟩⟩
def zjb(P:VO)(w:VR)(m:Nat)(t:TS):TS:=λD σ H=>∃a ws,σ[m]? = some (some (.ref a))/\H a=some (.dK ws)/\∀o,NObj P w a o ws->t D σ (upd H a (stl a o))
theorem zr9{X:Cx}{st:Stmt}{t:TS}{m:Nat}(h:PS X st t):PS X st (zjb X.prog X.w m t):=by
 intro pins s σ H D I hq;obtain⟨a,ws,_,ha,hq⟩:=hq;obtain⟨o,T,I1⟩:=zpb I ha;exact h pins s σ _ D I1 (hq o T)
def zqg(P:VO)(w:VR)(m:Nat)(g:DS):DS:=λDd ρ=>∃kvs,ρ[m]? = some (some (.thg (DctN kvs)))/\g Dd (ρ.set m (some (.thr (DctK P w kvs))))
theorem zp8{m:Nat}{t:TS}(h:SD K O t g):SD K O (zjb P w m t) (zqg P w m g):=λH₀ A σ H ρ D Dd r q Po=>by
 obtain⟨kvs,e,q⟩:=q;obtain⟨v,hv,a,ws,rfl,w1,ha,z⟩:=r.at_ m _ e;refine⟨a,ws,hv,ha,λo T=>?_⟩;obtain⟨r1,f1⟩:=r.stillG (u0:=stl a o) (T0:=DctK P w kvs) hv w1 ha (λu hu e=>by subst e;obtain⟨us,e1|⟨o',e1⟩⟩:=hu <;> cases e1) λts=>⟨a,o,ws,rfl,rfl,zaf,T,z.to ts⟩;exact h H₀ _ σ _ _ D Dd r1 q (Po.frm f1)
def zve(p:Int×VI):VI:=.tuple [.int p.1,p.2]
theorem zq9:∀{ws:List (Key×V)} {kvs:KD} {i:Nat} {p:Int×VI},NV K H ws kvs->kvs[i]? = some p->∃v,ws[i]? = some (.inl p.1,v)/\flat p.2=true/\Is K (λ_=>False) H v p.2
 | [],[],_,_,_,e=>by simp at e
 | [],_::_,_,_,h,_=>h.elim
 | _::_,[],_,_,h,_=>h.elim
 | (k,v)::ws,(i,d)::kvs,0,p,h,e=>by
   cases e;exact⟨v,by rw[<- h.1];rfl,h.2.1,h.2.2.1⟩
 | (k,v)::ws,(i,d)::kvs,n+1,p,h,e=>by
   obtain⟨u,h1,h2⟩:=zq9 (i:=n) h.2.2.2 (by simpa using e);exact⟨u,by simpa using h1,h2⟩
theorem zpp(hm:¬O.M a)(ha:H a=some (stl a o))(z:NV K H ws kvs):Walk K O H H (Itk a o ws) (kvs.map zve) (λb=>b=a):=by
 have ln:=z.length;refine⟨.refl _ _,λb hb=>by subst hb;exact⟨hm,_,ha⟩,λH2 i kb _ hi=>?_,λH2 i d kb t2 hd c=>?_⟩
 .exact⟨by rw[Qb] at hi;lia,kb a _ rfl ha⟩
 .rw[Qj] at hd;obtain⟨p,hp,rfl⟩:=Qf.mp hd;obtain⟨v,hv,fl,iv⟩:=zq9 z hp;refine⟨⟨(Qx.mp hv).1,kb a _ rfl ha⟩,λx H3 ⟨p',q,hn,hq,ex,e3⟩=>?_⟩;rw[hv] at hq;cases hq;subst ex;have sm:Same H2 H3:=by rw[e3];exact L3.same_new hn _
  have ts:TupStay H H3:=λb u hu hb=>sm b u (t2 b u hu hb);refine⟨sm,.tuple (xs:=[.int p.1,v]) (.inl (.inl ?_)) (.cons (.int _) (.cons (Is.flat ts iv fl) .nil))⟩;rw[e3];exact zaf
def zq6(P:VO)(w:VR)(m:Nat):DJ:=λρ Q=>∃kvs,ρ[m]? = some (some (.thr (DctK P w kvs)))/\Q (kvs.map zve)
theorem zo5{m:Nat}:SrcR K O (zme P w (tVar m)) (zq6 P w m):=λH₀ A σ H ρ R Qd r q k=>by
 obtain⟨kvs,e,q⟩:=q;obtain⟨v,hv,W,hw,a,o,ws,rfl,wa,ha,T,z⟩:=r.at_ m _ e;exact⟨_,hv,a,o,ws,rfl,ha,T,k _ _ _ (λb=>b=a) (zpp (hw a wa).1.1 ha z) (λb z=>by subst z;exact(hw _ wa).1) q⟩
end
section
variable {ι κ:Type}{P:VO}{w:VR}{K:Qa}{mg:Str->Option VJ}{base:Heap}{k:Nat}{X:ι->Cx}{O:κ->Ob}{st:Stmt}{g:DS}{pos px apos cpos:Pos}{x:Str}{elts:List Expr}{x1:Nat}
theorem ze3(m:Nat)(C:Ctx3 P w K mg base k X)(h:S3 K X O st g):S3 K X O st (zqg P w m g) :=
 let ⟨t,q,d⟩:=h;⟨zjb P w m t,λi=>by have z:=zr9 (m:=m) (q i);rw[C.hP,C.hw] at z;exact z,λj=>zp8 (d j)⟩
theorem zg4(n:Nat)(C:Ctx3 P w K mg base k X)(hN:∀i,(X i).N[n]? = some x:=by intro i;rfl)(hv:∀i,Vis (X i).env.scope x:=by intro i;first|exact Or.inl rfl|exact Or.inr (Or.inl rfl)|exact Or.inr (Or.inr rfl))(hd:(x == ("__debug__" : Str))=false:=by decide)(hcd:(x == ("__classdict__" : Str))=false:=by decide)
 (hbase:∀i,Ul (.Name x px) "items" (X i).env (eval (.Name x px) (X i).env)=eval (.Name x px) (X i).env:=by intro i;rfl) (hline:(apos.endLine == cpos.line)=true:=by rfl):J3 K X O (.Tuple elts x1 pos) (.Call (.Attribute (.Name x px) "items" apos) [] [] cpos) (zq6 P w n) :=
 ⟨zme P w (tVar n),λi=>by have h:=ztu (X:=X i) (elts:=elts) (x1:=x1) (pos:=pos) (apos:=apos) (cpos:=cpos) (zai (pos:=px) (hN i) (hv i) hd hcd) (hbase i) hline;rw[C.hP,C.hw] at h;exact h,λj=>zo5⟩
end
def spKG(K:Qa)(φ:Ob->Prop)(n:Nat)(f:List DV->(KD->Prop)->Prop):Sp:=λvs H Q _=>
 ∃(O:Ob) (rs:List DV) (Qk:KD->Prop),O.Ok/\φ O/\O.P H/\rs.length=n/\Args K O H vs rs/\f rs Qk/\∀kvs a ws H',Qk kvs->Stp O H H'->H a=none->¬O.M a->H' a=some (.dK ws)->NV K H' ws kvs->Q (.ref a) H'
theorem zsz{K:Qa}{φ:Ob->Prop}{n:Nat}{f:List DV->(KD->Prop)->Prop}{ps:List Str}(hn:ps.length=n):∀vs H Q E,spKG K φ n f vs H Q E->vs.length=ps.length:=λvs H Q E zz=>by obtain⟨O,rs,_,_,_,_,h,is,_⟩:=zz;rw[is.length,h,hn]
section
variable {K:Qa}{O:Ob}
def zvs(i n:Nat)(f:List DV->(KD->Prop)->Prop)(g:DGA):DS:=λDd ρ=>g ρ λrs=>rs.length=n/\f rs λkvs=>Dd.nx (ρ.set i (some (.thg (DctN kvs))))
theorem zs1{i n:Nat}{t:TA}(hφ:φ O)(h:AG K O t g):SD K O (tAsg (zbp (spKG K φ n f) [] E t) (zap i)) (zvs i n f g):=λH₀ A σ H ρ D Dd r q P=>by
 refine h σ H ρ _ _ r.seen q λvs H1 ds s1 is zz=>?_;obtain⟨hn,q1⟩:=zz;rw[QJ];have r1:=r.stp s1;refine⟨O,ds,_,r.ok,hφ,s1.p r.p,hn,is,q1,λkvs a ws H' qk s2 ha nm e z=>?_⟩;have st:=s1.trans s2
 have ha0:H a=none:=by
  cases h0:H a with
  | none=>rfl
  | some o=>rw[s1.s a o h0 nm] at ha;cases ha
 have hW:∀b,b=a->(A i b\/H b=QD)/\∃o,H' b=some o/\OwnO o:=λb eb=>by subst eb;exact⟨.inr ha0,_,e,ownK⟩
 exact P.nx _ _ _ _ (r.setT (W:=λb=>b=a) (T:=DctN kvs) st (λb u e _=>e) hW ⟨a,ws,rfl,rfl,e,z⟩) (.setT st (λb u e _=>e) λb m=>(hW b m).1) qk
end
section
variable {ι κ:Type}{P:VO}{w:VR}{K:Qa}{mg:Str->Option VJ}{base:Heap}{k:Nat}{X:ι->Cx}{O:κ->Ob}{a:Expr}{pos p1 p2 px:Pos}{x y:Str}{es:List Expr}
theorem zxv(n:Nat){k' m:Nat}(C:Ctx3 P w K mg base k X)(D:Def3 P w K mg base k' y ps (spKG K φ m F))(hφ:∀j,φ (O j))(ha:AG3 K X O (a::es) gd)(hk:k'<=k:=by decide)(hg:∀i,Gl (X i) y:=by intro i;rfl)
 (hdb:(y == ("__debug__" : Str))=false:=by decide) (he:∀i,VM (a::es) (X i).env=(false,eval a (X i).env)::VM es (X i).env:=by intro i;rfl) (hpl:∀i,(Ui p2 (VM es (X i).env)).any (·.1)=false:=by intro i;rfl)
 (hN:∀i,(X i).N.Nodup:=by intro i;exact Go (by kernel_rfl)) (hi:∀i,(X i).N[n]? = some x:=by intro i;rfl) (hx:∀i,Loc (X i).env.scope x:=by intro i;first|exact Or.inl rfl|exact Or.inr rfl)
 (hs:∀i,VX (.Call (.Name y p1) (a::es) [] p2) (some (.Name x px)) pos.line (X i).env=pure false:=by intro i;rfl) (hf:∀i,(X i).fn x=true\/(X i).env.scope.names.lookup x=some .local:=by intro i;first|exact .inl rfl|exact .inr rfl) :
 S3 K X O (.Assign [.Name x px] (.Call (.Name y p1) (a::es) [] p2) pos) (zvs n m F gd):=by
 obtain⟨f,fd,G,mm,kp,bn⟩:=D.ex;obtain⟨t,q,d⟩:=ha;refine⟨tAsg (zbp (spKG K φ m F) [] E0 t) (zap n),λi=>?_,λj=>zs1 (hφ j) (d j)⟩;have G':FnOk (X i).prog (X i).w (X i).K (X i).mg (X i).base CX0 k f fd ps (spKG K φ m F):=by rw[C.hP,C.hw,C.hK,C.hmg,C.hb];exact G.mono hk
 exact zbi (hN i) (hi i) (hx i) (zb7 G' (C.room i) (hg i) (by rw[C.hmg];exact mm) (by rw[C.hK];exact kp) (by rw[C.hK];exact bn) .nil zdg (q i) hdb (he i) (hpl i)) (hs i) (hf i)
end
section
variable {P:VO}{w:VR}{K:Qa}{mg:Str->Option VJ}{base:Heap}{k n:Nat}{x:Str}{st:Stmt}{N ps:List Str}{φ:Ob->Prop}{F:List DV->(KD->Prop)->Prop}
theorem z1z(T:Top3 K mg x st)(S:FnScope N ps (zad st))(hb:∀(kV doc pm:VJ) (an:Option Addr) (cdv ct:VJ) (us:List VJ),us.length=ps.length->Uc (Zb x x (zbk st) (zay st) (zad st) .none kV doc pm an cdv ct) ⟨us,[]⟩=pure (ps.zip us))(hn:ps.length=n)
 (body:∀(f:Addr) (cdv:VJ) (A:VY) (outer:List Env) (s:VN) (H:Hp) (E:XK) (O:Ob),φ O->Ctx3 P w K mg base k (zbq P w K mg base N x (zad st) f cdv A outer s H E) ->
  ∃g,Sk3 K (zbq P w K mg base N x (zad st) f cdv A outer s H E) (λ_:Unit=>O) (zay st) g/\∀rs Qk,rs.length=n->F rs Qk->g Qk (za9 N rs)):Def3 P w K mg base (k+1) x ps (spKG K φ n F):=by
 obtain⟨f,fd,Fu,m⟩:=T.ex;refine⟨f,fd,Fu.ok S (zsz hn) (λcdv A outer s H vs Q E hr h=>?_),m,Fu.kp,Fu.binds hb⟩;obtain⟨O,rs,Qk,ok,hφ,p,hl,is,q,kk⟩:=h;obtain⟨g,⟨t,h1,h2⟩,h3⟩:=body f cdv A outer s H E O hφ (zcb hr);exact⟨t,h1 (),h2 () H _ _ H _ Q Qk _ (zig ok p is) (h3 rs Qk hl q) λkvs a ws H' qk s2 ha nm e z=>kk kvs a ws H' qk s2 ha nm e z⟩
end
abbrev AL(κ β:Type):=List (κ×β)
section
variable {κ β:Type}[DecidableEq κ]
def AL.at_(l:AL κ β)(k:κ):Option β:=(l.find? λp=>decide (p.1=k)).map (·.2)
def AL.put(l:AL κ β)(k:κ)(v:β):AL κ β:=if(l.at_ k).isSome then l.map (λp=>if p.1=k then(p.1,v) else p) else l ++ [(k,v)]
theorem AL.at_cons{k:κ}:AL.at_ (p::l) k=if p.1=k then some p.2 else AL.at_ l k:=by
 unfold AL.at_
 by_cases h:p.1=k
 .rw[Zp (by simpa using h),Gm h];rfl
 .rw[Zq (by simpa using h),Gn h]
theorem AL.at_mem{l:AL κ β}{k:κ}{v:β}(h:l.at_ k=some v):(k,v)∈l:=by
 induction l with
 | nil=>cases h
 | cons p l ih=>
   rw[AL.at_cons] at h
   split at h
   .rename_i e;cases h;rw[<- e];exact Qm
   .exact Qc _ (ih h)
theorem AL.at_over{l:AL κ β}{k j:κ}{v:β}:AL.at_ (l.map λp=>if p.1=k then(p.1,v) else p) j=(l.at_ j).map λx=>if j=k then v else x:=by
 induction l with
 | nil=>rfl
 | cons p l ih=>
   rw[Qp,AL.at_cons,AL.at_cons,ih]
   by_cases y:p.1=k
   .rw[Gm y]
    by_cases z:p.1=j
    .rw[Gm z,Gm z,Zl,Gm (z.symm.trans y)]
    .rw[Gn z,Gn z]
   .rw[Gn y]
    by_cases z:p.1=j
    .rw[Gm z,Gm z,Zl,Gn λe=>y (z.trans e)]
    .rw[Gn z,Gn z]
theorem AL.at_snoc{l:AL κ β}{k j:κ}{v:β}(h:l.at_ k=none):AL.at_ (l ++ [(k,v)]) j=if j=k then some v else l.at_ j:=by
 induction l with
 | nil=>
   rw[Jj,AL.at_cons]
   by_cases e:k=j
   .rw[Gm e,Gm e.symm]
   .rw[Gn e,Gn λz=>e z.symm]
 | cons p l ih=>
   rw[AL.at_cons] at h
   split at h
   .cases h
   .rename_i n
    rw[List.cons_append,AL.at_cons,AL.at_cons,ih h]
    by_cases e:j=k
    .rw[Gm e,Gm e,Gn λz=>n (z.trans e)]
    .rw[Gn e,Gn e]
theorem AL.at_put(l:AL κ β)(k j:κ)(v:β):(l.put k v).at_ j=if j=k then some v else l.at_ j:=by
 unfold AL.put
 split
 .rename_i s
  rw[AL.at_over]
  by_cases e:j=k
  .obtain⟨x,hx⟩:=Zk.mp s;rw[Gm e,e,hx,Zl,Gm rfl]
  .rw[Gn e]
   cases l.at_ j with
   | none=>rfl
   | some x=>rw[Zl,Gn e]
 .rename_i s
  exact AL.at_snoc (by cases h:l.at_ k with|none=>rfl|some x=>rw[h] at s;exact absurd rfl s)
end
abbrev Prt:=Int×Nat×Nat
def prtK(p:Prt):List Key:=[.inl p.1,.inl (p.2.1:Nat),.inl (p.2.2:Nat)]
theorem zl5(h:prtK p=prtK q):p=q:=by
 obtain⟨a,b,c⟩:=p;obtain⟨d,e,f⟩:=q;simp only[prtK,List.cons.injEq,Sum.inl.injEq,and_true,Int.ofNat_inj] at h;obtain⟨rfl,h1,h2⟩:=h;have h1:b=e:=by lia
 have h2:c=f:=by lia
 rw[h1,h2]
section
variable {β:Type}{f:β->VI}
def zak(f:β->VI)(l:AL Prt β):TDv:=l.map λe=>(prtK e.1,f e.2)
def encW(f:β->VI)(l:AL Nat β):KD:=l.map λe=>((e.1:Nat),f e.2)
theorem zbr: (zak f l).at_ (prtK p)=(l.at_ p).map f:=by
 induction l with
 | nil=>rfl
 | cons e l ih=>
   rw[AL.at_cons];unfold zak TDv.at_ at ih ⊢;rw[Qp]
   by_cases h:e.1=p
   .rw[Zp (by simp[h]),Gm h];rfl
   .rw[Zq (by simpa using λz=>h (zl5 z)),Gn h];exact ih
theorem ze5: (zak f l).put (prtK p) (f v)=zak f (l.put p v):=by
 unfold TDv.put AL.put;rw[zbr,Zg]
 split
 .unfold zak;rw[QN,QN];refine Zj λe _=>?_;show(if prtK e.1=prtK p then _ else _)=_
  by_cases h:e.1=p
  .simp[h]
  .rw[Gn λz=>h (zl5 z)];simp[h]
 .unfold zak;rw[Q6];rfl
theorem zi8{p:Nat}:(encW f l).at_ (p:Nat)=(l.at_ p).map f:=by
 induction l with
 | nil=>rfl
 | cons e l ih=>
   rw[AL.at_cons];unfold encW KD.at_ at ih ⊢;rw[Qp]
   by_cases h:e.1=p
   .rw[Zp (by simp[h]),Gm h];rfl
   .rw[Zq (by simpa using λz=>h (by lia)),Gn h];exact ih
theorem zhw{p:Nat}: (encW f l).put (p:Nat) (f v)=encW f (l.put p v):=by
 unfold KD.put AL.put;rw[zi8,Zg]
 split
 .unfold encW;rw[QN,QN];refine Zj λe _=>?_;show(if((e.1:Nat):Int)=((p:Nat):Int) then _ else _)=_
  by_cases h:e.1=p
  .simp[h]
  .rw[Gn λz=>h (by lia)];simp[h]
 .unfold encW;rw[Q6];rfl
end
section
variable {κ α:Type}[DecidableEq κ]
def minP(l:AL κ (Nat×α))(k:κ)(v:Nat×α):AL κ (Nat×α):=match l.at_ k with
 | none=>l.put k v
 | some u=>if v.1<u.1 then l.put k v else l
theorem zzl(l:AL κ (Nat×α))(k:κ)(v:Nat×α)(j:κ):(minP l k v).at_ j=l.at_ j\/(j=k/\(minP l k v).at_ j=some v/\∀u,l.at_ k=some u->v.1<u.1):=by
 unfold minP
 cases h:l.at_ k with
 | none=>
   dsimp only
   by_cases e:j=k
   .exact .inr ⟨e,by rw[AL.at_put,Gm e],λu z=>by cases z⟩
   .exact .inl (by rw[AL.at_put,Gn e])
 | some u=>
   dsimp only
   by_cases c:v.1<u.1
   .rw[Gm c]
    by_cases e:j=k
    .exact .inr ⟨e,by rw[AL.at_put,Gm e],λu' z=>by cases z;exact c⟩
    .exact .inl (by rw[AL.at_put,Gn e])
   .rw[Gn c];exact .inl rfl
theorem zsp{l:AL κ (Nat×α)}{k:κ}{v:Nat×α}{j:κ}{u:Nat×α}(h:l.at_ j=some u):∃u',(minP l k v).at_ j=some u'/\u'.1<=u.1:=by
 rcases zzl l k v j with e|⟨rfl,e,lt⟩
 .exact⟨u,by rw[e];exact h,Qe _⟩
 .exact⟨v,e,Yn (lt u h)⟩
theorem zzn{k:κ}: ∃u',(minP l k v).at_ k=some u'/\u'.1<=v.1:=by
 unfold minP
 cases h:l.at_ k with
 | none=>exact⟨v,by dsimp only;rw[AL.at_put,Gm rfl],Qe _⟩
 | some u=>
   dsimp only
   by_cases c:v.1<u.1
   .exact⟨v,by rw[Gm c,AL.at_put,Gm rfl],Qe _⟩
   .exact⟨u,by rw[Gn c];exact h,by lia⟩
def zcr(l:AL κ (Nat×α))(vs:List (κ×Nat×α)):AL κ (Nat×α):=vs.foldl (λl e=>minP l e.1 e.2) l
theorem zgf:∀(vs:List (κ×Nat×α)) {l:AL κ (Nat×α)} {j:κ} {u:Nat×α},l.at_ j=some u->∃u',(zcr l vs).at_ j=some u'/\u'.1<=u.1
 | [],_,_,u,h=>⟨u,h,Qe _⟩
 | e::vs,l,j,u,h=>by
   obtain⟨u1,h1,l1⟩:=zsp (k:=e.1) (v:=e.2) h;obtain⟨u2,h2,l2⟩:=zgf vs h1;exact⟨u2,h2,Q3 l2 l1⟩
theorem zn0:∀(vs:List (κ×Nat×α)) {l:AL κ (Nat×α)} {e:κ×Nat×α},e∈vs->∃u',(zcr l vs).at_ e.1=some u'/\u'.1<=e.2.1
 | v::vs,l,e,h=>by
   rcases Q1.mp h with rfl|h
   .obtain⟨u1,h1,l1⟩:=zzn (l:=l) (k:=e.1) (v:=e.2);obtain⟨u2,h2,l2⟩:=zgf vs h1;exact⟨u2,h2,Q3 l2 l1⟩
   .exact zn0 vs h
end
abbrev BT:=AL Prt (Nat×VI)
abbrev WT:=AL Nat (Nat×List VI)
def zav(v:Nat×VI):VI:=.tuple [.int (v.1:Nat),.tuple [v.2]]
def zar(v:Nat×List VI):VI:=.tuple [.int (v.1:Nat),.tuple v.2]
def zfy(e:Nat×Nat×List VI):VI:=.tuple [.int (e.1:Nat),.int (e.2.1:Nat),.tuple e.2.2]
structure WdOk(w:List Nat):Prop where
 len:w.length<=1000
 low:∀c∈w,c<128
def BOk(B:BT):Prop:=∀e∈B,flat e.2.2=true
def zcu(B:BT)(w:List Nat)(b:Nat):GThg->List (Nat×Nat×List VI)
 | .nm i=>(Y9 b (w.length+1-b)).filterMap λe=>(B.at_ (i,b,e)).map λv=>(e,v.1,[v.2])
 | .lt x=>[(if(w.drop b).take 1=x then b+1 else b,0,[])]
def zcq(B:BT)(w:List Nat)(ways:WT)(t:GThg):WT:=ways.foldl (λacc pw=>zcr acc ((zcu B w pw.1 t).map λe=>(e.1,pw.2.1+e.2.1,pw.2.2++e.2.2))) []
def zdf(B:BT)(w:List Nat)(b:Nat)(body:List GThg):WT:=body.foldl (zcq B w) [(b,1,[])]
theorem zhf{α:Type}(xs:List α)(a b:Nat):cutL xs (some (a:Int)) (some (b:Int))=(xs.take b).drop a:=by
 unfold cutL;rw[zgu,zgu,JV]
 by_cases h:a<=xs.length
 .rw[Yy h]
  by_cases hb:b<=xs.length
  .rw[Yy hb]
  .rw[Vn (by lia),Zy (by rw[Zh];lia),Zy (by rw[Zh];lia)]
 .rw[Zz (show xs.length<=min a xs.length by lia),Zz (show xs.length<=a by lia)];simp
theorem zby{β:Type}{l:List β}{i:Nat}{x:β}(h:l[i]? = some x):l.take (i+1)=l.take i ++ [x]:=by rw[YX,h];rfl
theorem zdr:∀xs ys:List VI,flats (xs++ys)=(flats xs && flats ys)
 | [],_=>rfl
 | x::xs,ys=>by
   show(flat x && flats (xs++ys))=(flat x && flats xs && flats ys);rw[zdr xs ys,Bool.and_assoc]
theorem zgt(h:∀c∈w,c<128):JK (tx w)=true:=by
 rw[zq8];intro c hc;rw[zge] at hc;have:=h c hc;lia
theorem ThG.low{n:Int}(h:ThG n (.lt x)):∀c∈x,c<128:=by
 obtain⟨c,hc,rfl⟩:=h;intro d hd;rw[Qn.mp hd];unfold zdx at hc;lia
theorem zkr(hB:BOk B){b:Nat}{t:GThg}:∀e∈zcu B w b t,flats e.2.2=true:=λe he=>by
 cases t with
 | nm i=>
   obtain⟨k,_,h⟩:=Za.mp he;obtain⟨v,hv,rfl⟩:=Qf.mp h;have:=hB _ (AL.at_mem hv);simp only[flats,Bool.and_true];exact this
 | lt x=>
   rw[Qn.mp he];rfl
structure WtOk(w:List Nat)(m:Nat)(W:WT):Prop where
 nd:(W.map (·.1)).Nodup
 le:∀e∈W,e.1<=w.length
 fl:∀e∈W,flats e.2.2=true
 kl:∀e∈W,e.2.2.length<=m
theorem zjq{κ β:Type}[DecidableEq κ]{l:AL κ β}{k:κ}{v:β}:(l.put k v).map (·.1)=if(l.at_ k).isSome then l.map (·.1) else l.map (·.1) ++ [k]:=by
 unfold AL.put
 split
 .rw[QN];refine Zj λe _=>?_;show(if e.1=k then(e.1,v) else e).1=e.1
  split <;> rfl
 .rw[Q6];rfl
theorem zjh{κ β:Type}[DecidableEq κ]{l:AL κ β}{k:κ}(h:l.at_ k=none):k ∉ l.map (·.1):=by
 induction l with
 | nil=>exact QE
 | cons p l ih=>
   rw[AL.at_cons] at h
   split at h
   .cases h
   .rename_i n
    rw[Qp,Q1];rintro(e|e)
    .exact n e.symm
    .exact ih h e
theorem zcz{κ β:Type}[DecidableEq κ]{l:AL κ β}{k:κ}{v:β}{e:κ×β}(h:e∈l.put k v):e∈l\/e=(k,v):=by
 unfold AL.put at h
 split at h
 .obtain⟨a,ha,rfl⟩:=Q8.mp h
  by_cases z:a.1=k
  .right;rw[Gm z,z]
  .left;rw[Gn z];exact ha
 .rcases Q9.mp h with h|h
  .exact .inl h
  .exact .inr (Qn.mp h)
theorem WtOk.put{m:Nat}(h:WtOk w m W){k:Nat}(hk:k<=w.length)(hv:flats v.2=true)(hm:v.2.length<=m):WtOk w m (W.put k v):=by
 refine⟨?_,λe he=>?_,λe he=>?_,λe he=>(zcz he).elim (h.kl e) λz=>by rw[z];exact hm⟩
 .rw[zjq]
  split
  .exact h.nd
  .rename_i s
   rw[ZR];refine⟨h.nd,by simp,λa ha b hb=>?_⟩;rw[Qn.mp hb];intro e;exact zjh (by cases z:W.at_ k with|none=>rfl|some x=>rw[z] at s;exact absurd rfl s) (e ▸ ha)
 .rcases zcz he with he|rfl
  .exact h.le e he
  .exact hk
 .rcases zcz he with he|rfl
  .exact h.fl e he
  .exact hv
theorem WtOk.min{m:Nat}(h:WtOk w m W){k:Nat}(hk:k<=w.length)(hv:flats v.2=true)(hm:v.2.length<=m):WtOk w m (minP W k v):=by
 unfold minP
 split
 .exact h.put hk hv hm
 .split
  .exact h.put hk hv hm
  .exact h
theorem WtOk.len{m:Nat}(h:WtOk w m W):W.length<=w.length+1:=by
 have:=ZI h.nd (l₂:=QL (w.length+1)) λk hk=>by
  obtain⟨e,he,rfl⟩:=Q8.mp hk;exact Z0.mpr (Vd (h.le e he))
 rwa [Qb,Zx] at this
theorem zr7{b:Nat}(hb:b<=w.length):WtOk w 0 [(b,1,[])]:=⟨by simp,λe he=>by rw[Qn.mp he];exact hb,λe he=>by rw[Qn.mp he];rfl,λe he=>by rw[Qn.mp he];exact Qe _⟩
theorem zol{b:Nat}{t:GThg}:∀e∈zcu B w b t,e.2.2.length<=1:=λe he=>by
 cases t with
 | nm i=>
   obtain⟨k,_,h⟩:=Za.mp he;obtain⟨v,hv,rfl⟩:=Qf.mp h;exact Qe 1
 | lt x=>
   rw[Qn.mp he];exact QC 1
theorem zrl{m:Nat}:WtOk w m []:=⟨by simp,λe he=>absurd he QE,λe he=>absurd he QE,λe he=>absurd he QE⟩
theorem zof{b:Nat}{n:Int}{t:GThg}(ht:ThG n t)(hb:b<=w.length):∀e∈zcu B w b t,e.1<=w.length:=λe he=>by
 cases t with
 | nm i=>
   obtain⟨k,hk,h⟩:=Za.mp he;obtain⟨v,hv,rfl⟩:=Qf.mp h;have:=Jz.mp hk;show k<=_;lia
 | lt x=>
   rw[Qn.mp he];obtain⟨c,_,rfl⟩:=ht;show(if _ then _ else _)<=_
   split
   .rename_i z
    have l1:((w.drop b).take 1).length=1:=by rw[z];rfl
    rw[QT,Zh] at l1;have l2:b+1<=w.length:=by lia
    exact l2
   .exact hb
def zn4:List DV->(R->Prop)->Prop:=λrs Q=>∃(t:GThg) (n:Int) (w:List Nat) (b:Nat) (p:V->Prop) (B:BT),rs = [.im (zan t),.im (.str (tx w)),.im (.int (b:Nat)),.thr (DctP p (zak zav B))]/\ThG n t/\WdOk w/\b<=w.length/\BOk B/\Q (.n ((zcu B w b t).map zfy))
def zrk:List DV->(KD->Prop)->Prop:=λrs Q=>∃(r:List GThg) (n:Int) (w:List Nat) (b:Nat) (p:V->Prop) (B:BT),rs = [.im (.tuple (r.map zan)),.im (.str (tx w)),.im (.int (b:Nat)),.thr (DctP p (zak zav B))]/\(∀t∈r,ThG n t)/\r.length<=10/\WdOk w/\b<=w.length/\BOk B/\Q (encW zar (zdf B w b r))
theorem WtOk.mins{m:Nat}:∀(vs:List (Nat×Nat×List VI)) {W:WT},WtOk u m W->(∀e∈vs,e.1<=u.length/\flats e.2.2=true/\e.2.2.length<=m)->WtOk u m (zcr W vs)
 | [],_,h,_=>h
 | e::vs,W,h,hv=>WtOk.mins vs (h.min (hv e Qm).1 (hv e Qm).2.1 (hv e Qm).2.2) λx hx=>hv x (Qc _ hx)
theorem zxl{n:Int}{t:GThg}(hB:BOk B)(tr:ThG n t){j:Nat}(h:WtOk u j W):WtOk u (j+1) (zcq B u W t):=by
 have key:∀(l:WT) (acc:WT),(∀e∈l,e∈W)->WtOk u (j+1) acc->WtOk u (j+1) (l.foldl (λacc pw=>zcr acc ((zcu B u pw.1 t).map λe=>(e.1,pw.2.1+e.2.1,pw.2.2++e.2.2))) acc):=by
  intro l
  induction l with
  | nil=>intro acc _ ha;exact ha
  | cons pw l ih=>
    intro acc hl ha;have pm:=hl pw Qm;refine ih _ (λe he=>hl e (Qc _ he)) (ha.mins _ λe he=>?_);obtain⟨x,hx,rfl⟩:=Q8.mp he;have k1:=zol _ hx;have k2:=h.kl _ pm;refine⟨(zof tr (h.le _ pm) x hx:x.1<=u.length),?_,?_⟩
    .show flats (pw.2.2++x.2.2)=true;rw[zdr,h.fl _ pm,zkr hB _ hx];rfl
    .show(pw.2.2++x.2.2).length<=_;rw[Qi];lia
 exact key W [] (λ_ h=>h) zrl
theorem zop{n:Int}{b:Nat}(hB:BOk B)(hb:b<=u.length)(ht:∀t∈r,ThG n t):WtOk u r.length (zdf B u b r):=by
 have key:∀(l:List GThg) (j:Nat) (W:WT),(∀t∈l,ThG n t)->WtOk u j W->WtOk u (j+l.length) (l.foldl (zcq B u) W):=by
  intro l
  induction l with
  | nil=>intro j W _ h;exact h
  | cons t l ih=>
    intro j W hl h;have:=ih (j+1) _ (λx hx=>hl x (Qc _ hx)) (zxl hB (hl t Qm) h);rw[Qs];have e:j+1+l.length=j+(l.length+1):=by lia
    rw[e] at this;exact this
 have:=key r 0 _ ht (zr7 hb);rw[JN] at this;exact this
structure BtOk(g:GraZ)(u:List Nat)(B:BT):Prop where
 nd:(B.map (·.1)).Nodup
 rg:∀e∈B,(0<=e.1.1/\e.1.1<g.n)/\e.1.2.1<=u.length/\e.1.2.2<=u.length
 fl:BOk B
theorem BtOk.put(h:BtOk g u B){k:Prt}(hk:(0<=k.1/\k.1<g.n)/\k.2.1<=u.length/\k.2.2<=u.length)(hv:flat v.2=true):BtOk g u (B.put k v):=by
 refine⟨?_,λe he=>?_,λe he=>?_⟩
 .rw[zjq]
  split
  .exact h.nd
  .rename_i s
   rw[ZR];refine⟨h.nd,by simp,λa ha b hb=>?_⟩;rw[Qn.mp hb];intro e;exact zjh (by cases z:B.at_ k with|none=>rfl|some x=>rw[z] at s;exact absurd rfl s) (e ▸ ha)
 .rcases zcz he with he|rfl
  .exact h.rg e he
  .exact hk
 .rcases zcz he with he|rfl
  .exact h.fl e he
  .exact hv
theorem BtOk.len(h:BtOk g u B)(hg:g.n<=3):B.length<=3 * ((u.length+1) * (u.length+1)):=by
 let code:Prt->Nat:=λp=>p.1.toNat * ((u.length+1) * (u.length+1))+(p.2.1 * (u.length+1)+p.2.2)
 have lt2:∀b e:Nat,b<=u.length->e<=u.length->b * (u.length+1)+e<(u.length+1) * (u.length+1):=λb e hb he=>by
  have:=YA (u.length+1) hb;rw[Nat.add_mul (u.length) 1];lia
 have inj:∀p∈B.map (·.1),∀q∈B.map (·.1),code p=code q->p=q:=by
  intro p hp q hq e;obtain⟨x,hx,rfl⟩:=Q8.mp hp;obtain⟨y,hy,rfl⟩:=Q8.mp hq;obtain⟨⟨a0,a1⟩,a2,a3⟩:=h.rg x hx;obtain⟨⟨b0,b1⟩,b2,b3⟩:=h.rg y hy;obtain⟨⟨px,pb,pe⟩,_⟩:=x;obtain⟨⟨qx,qb,qe⟩,_⟩:=y;have l1:=lt2 pb pe a2 a3;have l2:=lt2 qb qe b2 b3;have e:px.toNat * ((u.length+1) * (u.length+1))+(pb * (u.length+1)+pe)=qx.toNat * ((u.length+1) * (u.length+1))+(qb * (u.length+1)+qe):=e;have n0:0<(u.length+1) * (u.length+1):=Nat.mul_pos (by lia) (by lia);have d1:=Gr (· / ((u.length+1) * (u.length+1))) e;have d2:=Gr (· % ((u.length+1) * (u.length+1))) e;simp only[Jw _ ((u.length+1) * (u.length+1)),Vu n0,Vv,JA l1,JA l2,JB l1,JB l2] at d1 d2;have m0:0<u.length+1:=by lia
  have pl:pe<u.length+1:=by show pe<_;have:pe<=u.length:=a3;lia
  have ql:qe<u.length+1:=by have:qe<=u.length:=b3;lia
  have f1:=Gr (· / (u.length+1)) d2;have f2:=Gr (· % (u.length+1)) d2;simp only[Jw _ (u.length+1),Vu m0,Vv,JA pl,JA ql,JB pl,JB ql] at f1 f2;have a0:(0:Int)<=px:=a0;have b0:(0:Int)<=qx:=b0;have x1:px=qx:=by lia
  have x2:pb=qb:=by lia
  show(px,pb,pe)=(qx,qb,qe);rw[x1,x2,f2]
 have nd2:((B.map (·.1)).map code).Nodup:=by
  have nd:=h.nd;generalize B.map (·.1)=l at nd inj
  induction l with
  | nil=>simp
  | cons p l ih=>
    rw[Qp,Zr];rw[Zr] at nd;refine⟨λz=>?_,ih nd.2 λa ha b hb=>inj a (Qc _ ha) b (Qc _ hb)⟩;obtain⟨q,hq,e⟩:=Q8.mp z;have:=inj q (Qc _ hq) p Qm e;exact nd.1 (this ▸ hq)
 have:=ZI nd2 (l₂:=QL (3 * ((u.length+1) * (u.length+1)))) λk hk=>by
  obtain⟨p,hp,rfl⟩:=Q8.mp hk;obtain⟨x,hx,rfl⟩:=Q8.mp hp;obtain⟨⟨a0,a1⟩,a2,a3⟩:=h.rg x hx;have l1:=lt2 _ _ a2 a3;refine Z0.mpr ?_;show x.1.1.toNat * ((u.length+1) * (u.length+1))+(x.1.2.1 * (u.length+1)+x.1.2.2)<_;have t2:x.1.1.toNat<=2:=by lia
  have:=YA ((u.length+1) * (u.length+1)) t2;lia
 rwa [Qb,Qb,Zx] at this
def updP(s:BT×Bool)(k:Prt)(v:Nat×VI):BT×Bool:=match s.1.at_ k with
 | none=>(s.1.put k v,true)
 | some x=>if v.1<x.1 then(s.1.put k v,true) else s
def zdd(u:List Nat)(r:RuG×Nat)(s:BT×Bool)(b:Nat):BT×Bool:=(zdf s.1 u b r.1.b).foldl (λs e=>updP s (r.1.n,b,e.1) (e.2.1,zam (r.2:Nat) e.2.2)) s
def zaz(g:GraZ)(u:List Nat)(B:BT):BT×Bool:=g.rs.zipIdx.foldl (λs r=>(QL (u.length+1)).foldl (zdd u r) s) (B,false)
def zu2:List VI->TDv->(VI->TDv->Prop)->Prop:=λds kv Qk=>∃(g:GraZ) (u:List Nat) (B:BT),ds = [zao g,.str (tx u)]/\kv=zak zav B/\GTOk g/\WdOk u/\BtOk g u B/\Qk (.bool (zaz g u B).2) (zak zav (zaz g u B).1)
def metN(l:List Nat):List Nat->Nat->Nat
 | [],a=>a
 | c::m,a=>metN l m (if(l.drop a).take 1 = [c] then a+1 else a)
def zoc:List VI->(R->Prop)->Prop:=λds Q=>∃l m:List Nat,ds = [.str (tx l),.str (tx m)]/\WdOk l/\m.length<=16000000/\(∀c∈m,c<128)/\Q (.o (.bool (decide (metN l m 0=l.length))))
def encN(n:Nat):VI:=.int (n:Nat)
def zlg(e:Nat×Nat):VI:=.tuple [.int (e.1:Nat),.int (e.2:Nat)]
def zb9(T:AL Prt Nat)(u:List Nat)(a:Nat):GThg->List (Nat×Nat)
 | .nm i=>(Y9 a (u.length+1-a)).filterMap λe=>(T.at_ (i,a,e)).map λs=>(e,s)
 | .lt x=>if(u.drop a).take 1=x then[(a,0),(a+1,0)] else[(a,0)]
def zqc:List DV->(R->Prop)->Prop:=λrs Q=>∃(t:GThg) (n:Int) (u:List Nat) (a:Nat) (p:V->Prop) (T:AL Prt Nat),rs = [.im (zan t),.im (.str (tx u)),.im (.int (a:Nat)),.thr (DctP p (zak encN T))]/\ThG n t/\WdOk u/\a<=u.length/\Q (.n ((zb9 T u a t).map zlg))
theorem zq5(b n:Nat):zb8 (b:Nat) (n-b)=(Y9 b (n-b)).map λk=>Jo (k:Nat):=by
 unfold zb8;rw[Yd,QN];refine Zj λk _=>?_;show Jo (((b:Nat):Int)+((k:Nat):Int)) = .int ((b+k:Nat):Int);rw[Vw]
def zqf:List VI->(R->Prop)->Prop:=λds Q=>∃(ls:List Nat) (n:Nat),ds = [.list (ls.map λc=>.str (sg c)),.int (n:Nat)]/\1<=ls.length/\ls.length<=26/\n<=100/\∀v:List Nat,(∀c∈v,c∈ls)->v.length<=n->Q (.o (.str (tx v)))
def sumB(B:BT):Nat:=(B.map λe=>e.2.1).sum
def Less(B' B:BT):Prop:=B.length<B'.length\/(B.length=B'.length/\sumB B'<sumB B)
theorem Less.trans(h:Less A B)(h':Less B C):Less A C:=by
 unfold Less at *;lia
theorem zmz:∀{B:BT} {k:Prt} {v x:Nat×VI},(B.map (·.1)).Nodup->B.at_ k=some x->v.1<x.1->sumB (B.map λp=>if p.1=k then(p.1,v) else p)<sumB B
 | [],_,_,_,_,h,_=>by cases h
 | p::B,k,v,x,nd,h,lt=>by
   rw[Qp,Zr] at nd;rw[AL.at_cons] at h;unfold sumB;rw[Qp,Qp,Qp,ZD,ZD]
   by_cases e:p.1=k
   .rw[Gm e] at h;cases h
    have same:(B.map λp=>if p.1=k then(p.1,v) else p)=B:=by
     conv=>rhs;rw[<- List.map_id B]
     refine Zj λq hq=>?_;show(if q.1=k then(q.1,v) else q)=q;rw[Gn];intro z;exact nd.1 (Q8.mpr ⟨q,hq,z.trans e.symm⟩)
    rw[same,Gm e];show v.1+_<p.2.1+_;lia
   .rw[Gn e] at h;have:=zmz nd.2 h lt;unfold sumB at this;rw[Gn e];lia
theorem zlu{k:Prt}(ok:BtOk g u s.1):updP s k v=s\/((updP s k v).2=true/\Less (updP s k v).1 s.1):=by
 unfold updP
 cases h:s.1.at_ k with
 | none=>
   refine .inr ⟨rfl,.inl ?_⟩;show _<(AL.put s.1 k v).length;unfold AL.put;rw[h];show _<(s.1 ++ [(k,v)]).length;rw[Qi,QH];lia
 | some x=>
   dsimp only
   by_cases c:v.1<x.1
   .rw[Gm c];refine .inr ⟨rfl,.inr ?_⟩;show _=(AL.put s.1 k v).length/\sumB (AL.put s.1 k v)<_;unfold AL.put;rw[h];show _=(VH _ s.1).length/\sumB (VH _ s.1)<_;rw[Qb];exact⟨rfl,zmz ok.nd h c⟩
   .rw[Gn c];exact .inl rfl
def Step(s s':BT×Bool):Prop:=s'=s\/(s'.2=true/\Less s'.1 s.1)
theorem Step.trans(h:Step a b)(h':Step b c):Step a c:=by
 rcases h with rfl|⟨h1,h2⟩
 .exact h'
 .rcases h' with rfl|⟨h3,h4⟩
  .exact .inr ⟨h1,h2⟩
  .exact .inr ⟨h3,h4.trans h2⟩
theorem zcd{α:Type}{I:BT×Bool->Prop}{f:BT×Bool->α->BT×Bool}:∀(l:List α) (s:BT×Bool),(∀s a,I s->a∈l->Step s (f s a)/\I (f s a))->I s->Step s (l.foldl f s)/\I (l.foldl f s)
 | [],s,_,hs=>⟨.inl rfl,hs⟩
 | a::l,s,h,hs=>by
   obtain⟨h1,h2⟩:=h s a hs Qm;obtain⟨h3,h4⟩:=zcd l (f s a) (λs b hs hb=>h s b hs (Qc _ hb)) h2;exact⟨h1.trans h3,h4⟩
theorem zcw(hg:GTOk g)(ok:BtOk g u B):Step (B,false) (zaz g u B)/\BtOk g u (zaz g u B).1:=by
 unfold zaz;refine zcd (I:=λs=>BtOk g u s.1) _ _ (λs r hs hr=>?_) ok;refine zcd (I:=λs=>BtOk g u s.1) _ _ (λs b hs hb=>?_) hs;have bl:b<=u.length:=by have:=Z0.mp hb;lia
 have rm:r.1∈g.rs:=by
  obtain⟨i,hi⟩:=JE hr;rw[ZB] at hi;obtain⟨x,hx,e⟩:=Qf.mp hi;rw[<- e];exact Qw hx
 obtain⟨r0,r2,r3,r4⟩:=hg.each r.1 rm;have wt:=zop (u:=u) (b:=b) hs.fl bl r4;unfold zdd;refine zcd (I:=λs=>BtOk g u s.1) _ _ (λs e hs he=>?_) hs;refine⟨zlu hs,?_⟩;have fv:flat (zam (r.2:Nat) e.2.2)=true:=by show(true && (flats e.2.2 && true))=true;rw[wt.fl _ he];rfl
 have p4:BtOk g u (s.1.put (r.1.n,b,e.1) (e.2.1,zam (r.2:Nat) e.2.2)):=hs.put ⟨r0,bl,wt.le _ he⟩ fv;unfold updP
 split
 .exact p4
 .split
  .exact p4
  .exact hs
def zic(g:GraZ)(u:List Nat):Nat->BT->Prop
 | 0,B=>(zaz g u B).2=false
 | N+1,B=>(zaz g u B).2=false\/zic g u N (zaz g u B).1
theorem zyg(hg:GTOk g):∀(m:Nat) (B:BT),BtOk g u B->3 * ((u.length+1) * (u.length+1))-B.length<=m->∃N,zic g u N B:=by
 intro m
 induction m with
 | zero=>
   intro B ok hm
   have key:∀(k:Nat) (B:BT),BtOk g u B->3 * ((u.length+1) * (u.length+1))-B.length<=0->sumB B<=k->∃N,zic g u N B:=by
    intro k
    induction k with
    | zero=>
      intro B ok hm hk;obtain⟨st,ok2⟩:=zcw hg ok;rcases st with e|⟨_,l⟩
      .exact⟨0,by show(zaz g u B).2=false;rw[e]⟩
      .have:=ok2.len hg.n3;rcases l with l|⟨_,l⟩
       .exact absurd l (by show ¬B.length<_;lia)
       .exact absurd l (by show ¬_<sumB B;lia)
    | succ k ih=>
      intro B ok hm hk;obtain⟨st,ok2⟩:=zcw hg ok;rcases st with e|⟨_,l⟩
      .exact⟨0,by show(zaz g u B).2=false;rw[e]⟩
      .have:=ok2.len hg.n3;rcases l with l|⟨l1,l2⟩
       .exact absurd l (by show ¬B.length<_;lia)
       .have l1:B.length=(zaz g u B).1.length:=l1;have l2:sumB (zaz g u B).1<sumB B:=l2;obtain⟨N,h⟩:=ih _ ok2 (by lia) (by lia);exact⟨N+1,.inr h⟩
   exact key _ B ok hm (Qe _)
 | succ m ihm=>
   intro B ok hm
   have key:∀(k:Nat) (B:BT),BtOk g u B->3 * ((u.length+1) * (u.length+1))-B.length<=m+1->sumB B<=k->∃N,zic g u N B:=by
    intro k
    induction k with
    | zero=>
      intro B ok hm hk;obtain⟨st,ok2⟩:=zcw hg ok;rcases st with e|⟨_,l⟩
      .exact⟨0,by show(zaz g u B).2=false;rw[e]⟩
      .rcases l with l|⟨_,l⟩
       .have l:B.length<(zaz g u B).1.length:=l;obtain⟨N,h⟩:=ihm _ ok2 (by lia);exact⟨N+1,.inr h⟩
       .exact absurd l (by show ¬_<sumB B;lia)
    | succ k ih=>
      intro B ok hm hk;obtain⟨st,ok2⟩:=zcw hg ok;rcases st with e|⟨_,l⟩
      .exact⟨0,by show(zaz g u B).2=false;rw[e]⟩
      .rcases l with l|⟨l1,l2⟩
       .have l:B.length<(zaz g u B).1.length:=l;obtain⟨N,h⟩:=ihm _ ok2 (by lia);exact⟨N+1,.inr h⟩
       .have l1:B.length=(zaz g u B).1.length:=l1;have l2:sumB (zaz g u B).1<sumB B:=l2;obtain⟨N,h⟩:=ih _ ok2 (by lia) (by lia);exact⟨N+1,.inr h⟩
   exact key _ B ok hm (Qe _)
inductive ReachP(g:GraZ)(u:List Nat):BT->Prop
 | nil:ReachP g u []
 | pass {B:BT}:ReachP g u B->ReachP g u (zaz g u B).1
theorem zil: BtOk g u []:=⟨by simp,λe he=>absurd he QE,λe he=>absurd he QE⟩
def zqu:List VI->(R->Prop)->Prop:=λds Q=>∃(g:GraZ) (u:List Nat),ds = [zao g,.str (tx u)]/\GTOk g/\WdOk u/\∀B,BtOk g u B->ReachP g u B->(zaz g u B).2=false->Q (.o (match (zaz g u B).1.at_ (0,0,u.length) with|some v=>v.2|none=>.none))
def stp(u:List Nat)(b:Nat)(x:List Nat):Nat:=if(u.drop b).take 1=x then b+1 else b
theorem zio{b:Nat}: b<=stp u b x:=by unfold stp;split <;> lia
theorem zii{b:Nat}{n:Int}(h:ThG n (.lt x))(hb:b<=u.length):stp u b x<=u.length:=by
 unfold stp
 split
 .rename_i z
  obtain⟨c,_,rfl⟩:=h;have l1:((u.drop b).take 1).length=1:=by rw[z];rfl
  rw[QT,Zh] at l1;lia
 .exact hb
theorem zuf{b b':Nat}(h:b<=b'):stp u b x<=stp u b' x:=by
 by_cases e:b=b'
 .rw[e];exact Qe _
 .have h1:stp u b x<=b+1:=by unfold stp;split <;> lia
  have h2:=zio (u:=u) (b:=b') (x:=x);lia
inductive Bod(u:List Nat)(P:Int->Nat->Nat->Nat->VI->Prop):List GThg->Nat->Nat->Nat->List VI->Prop
 | nil {b:Nat}:Bod u P [] b b 0 []
 | lt {x:List Nat} {B:List GThg} {b e s:Nat} {ks:List VI}:Bod u P B (stp u b x) e s ks->Bod u P (.lt x::B) b e s ks
 | nm {i:Int} {B:List GThg} {b m e s1 s2:Nat} {d:VI} {ks:List VI}:P i b m s1 d->Bod u P B m e s2 ks->Bod u P (.nm i::B) b e (s1+s2) (d::ks)
theorem Bod.mono(h:∀i b m s d,P i b m s d->P' i b m s d){b e s:Nat}(q:Bod u P B b e s ks):Bod u P' B b e s ks:=by
 induction q with
 | nil=>exact .nil
 | lt _ ih=>exact .lt ih
 | nm p _ ih=>exact .nm (h _ _ _ _ _ p) ih
theorem Bod.app{b m e s1 s2:Nat}(q:Bod u P B b m s1 ks)(q2:Bod u P C m e s2 ks2):Bod u P (B++C) b e (s1+s2) (ks++ks2):=by
 induction q with
 | nil=>rw[JN];exact q2
 | lt _ ih=>exact .lt (ih q2)
 | nm p _ ih=>rw[Nat.add_assoc];exact .nm p (ih q2)
def Tr(g:GraZ)(u:List Nat):Nat->Int->Nat->Nat->Nat->VI->Prop
 | 0,_,_,_,_,_=>False
 | n+1,x,b,e,s,d=>∃(a:Nat) (r:RuG) (s':Nat) (ks:List VI),g.rs[a]? = some r/\r.n=x/\d=zam a ks/\s=s'+1/\Bod u (Tr g u n) r.b b e s' ks
theorem Tr.up: ∀{n:Nat} {x:Int} {b e s:Nat} {d:VI},Tr g u n x b e s d->Tr g u (n+1) x b e s d
 | 0,_,_,_,_,_,h=>h.elim
 | _+1,_,_,_,_,_,⟨a,r,s',ks,h1,h2,h3,h4,q⟩=>⟨a,r,s',ks,h1,h2,h3,h4,q.mono λ_ _ _ _ _=>Tr.up⟩
theorem Tr.more{n m:Nat}{x:Int}{b e s:Nat}{d:VI}(h:Tr g u n x b e s d)(l:n<=m):Tr g u m x b e s d:=by
 induction l with
 | refl=>exact h
 | step _ ih=>exact ih.up
def AnyT(g:GraZ)(u:List Nat)(x:Int)(b e s:Nat)(d:VI):Prop:=∃n,Tr g u n x b e s d
theorem zwk{b e s:Nat}(q:Bod u (AnyT g u) B b e s ks):∃n,Bod u (Tr g u n) B b e s ks:=by
 induction q with
 | nil=>exact⟨0,.nil⟩
 | lt _ ih=>obtain⟨n,h⟩:=ih;exact⟨n,.lt h⟩
 | nm p _ ih=>
   obtain⟨n,h⟩:=ih;obtain⟨n2,h2⟩:=p;exact⟨max n n2,.nm (h2.more (Nat.le_max_right ..)) (h.mono λ_ _ _ _ _ z=>z.more (Nat.le_max_left ..))⟩
theorem zhe{a:Nat}{b e s:Nat}(h:g.rs[a]? = some r)(q:Bod u (AnyT g u) r.b b e s ks):AnyT g u r.n b e (s+1) (zam a ks):=by
 obtain⟨n,q⟩:=zwk q;exact⟨n+1,a,r,s,ks,h,rfl,rfl,rfl,q⟩
theorem zkn{x:Int}{b e s:Nat}{d:VI}(h:AnyT g u x b e s d):∃(a:Nat) (r:RuG) (s':Nat) (ks:List VI),g.rs[a]? = some r/\r.n=x/\d=zam a ks/\s=s'+1/\Bod u (AnyT g u) r.b b e s' ks:=by
 obtain⟨n,h⟩:=h
 cases n with
 | zero=>exact h.elim
 | succ n=>
   obtain⟨a,r,s',ks,h1,h2,h3,h4,q⟩:=h;exact⟨a,r,s',ks,h1,h2,h3,h4,q.mono λ_ _ _ _ _ z=>⟨n,z⟩⟩
theorem zb5{g:GraZ}{a:Nat}{r:RuG}(h:g.rs[a]? = some r):r∈g.rs:=Qw h
theorem zgy{n:Int}(hP:∀i b m s d,P i b m s d->b<=m/\(b<=u.length->m<=u.length)){b e s:Nat}(q:Bod u P B b e s ks)(ht:∀t∈B,ThG n t):b<=e/\(b<=u.length->e<=u.length):=by
 induction q with
 | nil=>exact⟨Qe _,id⟩
 | @lt x B b _ _ _ _ ih=>
   obtain⟨h1,h2⟩:=ih λt m=>ht t (Qc _ m);exact⟨Q3 (zio (u:=u) (x:=x)) h1,λz=>h2 (zii (ht _ Qm) z)⟩
 | nm p _ ih=>
   obtain⟨h1,h2⟩:=ih λt m=>ht t (Qc _ m);obtain⟨h3,h4⟩:=hP _ _ _ _ _ p;exact⟨Q3 h3 h1,λz=>h2 (h4 z)⟩
theorem zd5(hg:GTOk g):∀{n:Nat} {x:Int} {b e s:Nat} {d:VI},Tr g u n x b e s d->b<=e/\(b<=u.length->e<=u.length)
 | 0,_,_,_,_,_,h=>h.elim
 | n+1,_,_,_,_,_,⟨a,r,s',ks,h1,_,_,_,q⟩=>zgy (λ_ _ _ _ _ z=>zd5 hg z) q (hg.each r (zb5 h1)).2.2.2
theorem zod(hg:GTOk g){x:Int}{b e s:Nat}{d:VI}(h:AnyT g u x b e s d):b<=e/\(b<=u.length->e<=u.length):=let ⟨_,h⟩:=h;zd5 hg h
theorem ze2(hP:∀i b m s d,P i b m s d->∀b',∃m',P i b' m' s d/\(b<=b'->m<=m')){b e s:Nat}(q:Bod u P B b e s ks):∀b',∃e',Bod u P B b' e' s ks/\(b<=b'->e<=e'):=by
 induction q with
 | nil=>exact λb'=>⟨b',.nil,id⟩
 | @lt x B b _ _ _ _ ih=>
   intro b';obtain⟨e',h1,h2⟩:=ih (stp u b' x);exact⟨e',.lt h1,λz=>h2 (zuf z)⟩
 | nm p _ ih=>
   intro b';obtain⟨m',p',h3⟩:=hP _ _ _ _ _ p b';obtain⟨e',h1,h2⟩:=ih m';exact⟨e',.nm p' h1,λz=>h2 (h3 z)⟩
theorem zi9: ∀{n:Nat} {x:Int} {b e s:Nat} {d:VI},Tr g u n x b e s d->∀b',∃e',Tr g u n x b' e' s d/\(b<=b'->e<=e')
 | 0,_,_,_,_,_,h,_=>h.elim
 | n+1,x,b,e,s,d,⟨a,r,s',ks,h1,h2,h3,h4,q⟩,b'=>by
   obtain⟨e',q',h⟩:=ze2 (λ_ _ _ _ _ z=>zi9 z) q b';exact⟨e',⟨a,r,s',ks,h1,h2,h3,h4,q'⟩,h⟩
theorem zuj{x:Int}{b e s:Nat}{d:VI}(h:AnyT g u x b e s d)(b':Nat):∃e',AnyT g u x b' e' s d/\(b<=b'->e<=e'):=by
 obtain⟨n,h⟩:=h;obtain⟨e',h1,h2⟩:=zi9 h b';exact⟨e',⟨n,h1⟩,h2⟩
theorem zqm{b e s:Nat}(q:Bod u (AnyT g u) B b e s ks)(b':Nat):∃e',Bod u (AnyT g u) B b' e' s ks/\(b<=b'->e<=e'):=ze2 (P:=AnyT g u) (λ_ _ _ _ _ z b'=>zuj z b') q b'
def MinT(g:GraZ)(u:List Nat)(x:Int)(b e s:Nat):Prop:=∀s' d',AnyT g u x b e s' d'->s<=s'
theorem zs5(hg:GTOk g){n K b0 e0 S:Nat}(hn:∀i b m s d,Tr g u n i b m s d->MinT g u i b m s->b0<=b->m<=e0->s<=S->Tr g u K i b m s d){N:Int}{b e s:Nat}(q:Bod u (Tr g u n) B b e s ks)(ht:∀t∈B,ThG N t):(∀s' ks',Bod u (AnyT g u) B b e s' ks'->s<=s')->b0<=b->e<=e0->s<=S->Bod u (Tr g u K) B b e s ks:=by
 induction q with
 | nil=>exact λ_ _ _ _=>.nil
 | @lt x B b _ _ _ _ ih=>exact λh1 h2 h3 h4=>.lt (ih (λt m=>ht t (Qc _ m)) (λs' ks' q'=>h1 s' ks' (.lt q')) (Q3 h2 (zio (u:=u) (x:=x))) h3 h4)
 | @nm i B b m e s1 s2 d ks p q ih=>
   intro h1 h2 h3 h4;have p1:=zd5 hg p;have p2:=zgy (λ_ _ _ _ _ z=>zd5 hg z) q λt m=>ht t (Qc _ m);refine .nm (hn _ _ _ _ _ p (λs' d' z=>?_) h2 (by lia) (by lia)) (ih (λt m=>ht t (Qc _ m)) (λs' ks' q'=>?_) (by lia) h3 (by lia))
   .have:=h1 _ _ (.nm z (q.mono λ_ _ _ _ _ z=>⟨n,z⟩));lia
   .have:=h1 _ _ (.nm ⟨n,p⟩ q');lia
theorem zjj(hg:GTOk g):∀{n:Nat} {x:Int} {b e s:Nat} {d:VI} (ns:List Int),Tr g u n x b e s d->MinT g u x b e s->(∀y s' d',AnyT g u y b e s' d'->s'<=s->y∈ns)->Tr g u (3 * (e-b)+ns.length) x b e s d
 | 0,_,_,_,_,_,_,h,_,_=>h.elim
 | n+1,x,b,e,s,d,ns,h,mn,hns=>by
   have hx:x∈ns:=hns x s d ⟨_,h⟩ (Qe _);obtain⟨a,r,s',ks,h1,h2,h3,h4,q⟩:=h;have hl:1<=ns.length:=Jy hx;have rt:=(hg.each r (zb5 h1)).2.2.2;obtain⟨k,hk⟩:∃k,3 * (e-b)+ns.length=k+1:=⟨3 * (e-b)+ns.length-1,by lia⟩;rw[hk];refine⟨a,r,s',ks,h1,h2,h3,h4,zs5 hg (b0:=b) (e0:=e) (S:=s') (λi b1 m s1 d1 t1 mn1 l1 l2 l3=>?_) q rt (λs'' ks'' q'=>?_) (Qe _) (Qe _) (Qe _)⟩
   .have p1:=(zd5 hg t1).1
    by_cases same:b1=b/\m=e
    .obtain⟨rfl,rfl⟩:=same
     have z:=zjj hg (ns.erase x) t1 mn1 λy s2 d2 hy l=>by
      refine(Y8 λe=>?_).mpr (hns y s2 d2 hy (by lia));have:=mn s2 d2 (e ▸ hy);lia
     rw[Yc hx] at z;exact z.more (by lia)
    .have z:=zjj hg [0,1,2] t1 mn1 λy s2 d2 hy l=>by
      obtain⟨a2,r2,_,_,k1,k2,_⟩:=zkn hy;have:=(hg.each r2 (zb5 k1)).1;have:=hg.n3;have:y=0\/y=1\/y=2:=by lia
      simpa using this
     have l3:([0,1,2]:List Int).length=3:=rfl;rw[l3] at z;exact z.more (by lia)
   .have:=mn _ _ (h2 ▸ zhe h1 q');lia
theorem zp6(hg:GTOk g)(hu:u.length<=6){x:Int}{s:Nat}{d:VI}(h:AnyT g u x 0 u.length s d)(mn:MinT g u x 0 u.length s):Tr g u 21 x 0 u.length s d:=by
 obtain⟨n,h⟩:=h
 have z:=zjj hg [0,1,2] h mn λy s2 d2 hy l=>by
  obtain⟨a2,r2,_,_,k1,k2,_⟩:=zkn hy;have:=(hg.each r2 (zb5 k1)).1;have:=hg.n3;have:y=0\/y=1\/y=2:=by lia
  simpa using this
 have l3:([0,1,2]:List Int).length=3:=rfl;rw[l3] at z;exact z.more (by lia)
theorem zjm(l:List Nat):∀(xs ys:List Nat) (a:Nat),metN l (xs++ys) a=metN l ys (metN l xs a)
 | [],_,_=>rfl
 | _::xs,ys,a=>zjm l xs ys _
theorem zss{N:Int}{n:Nat}(hP:∀i b m s d,Tr g u n i b m s d->Gd g n d/\g.isT n i d=true/\cntT n d=s/\metN u (g.wordT n d) b=m){b e s:Nat}(q:Bod u (Tr g u n) B b e s ks)(ht:∀t∈B,ThG N t):
 (nms B).length=ks.length/\(∀k∈ks,Gd g n k)/\(((nms B).zip ks).all λp=>g.isT n p.1 p.2)=true/\(ks.map (cntT n)).sum=s/\metN u (za6 B (ks.map (g.wordT n))) b=e:=by
 induction q with
 | nil=>exact⟨rfl,(λ_ h=>nomatch h),rfl,rfl,by rw[Yo,za6];rfl⟩
 | @lt x B b e s ks _ ih=>
   obtain⟨h1,h2,h3,h4,h5⟩:=ih λt m=>ht t (Qc _ m);refine⟨h1,h2,h3,h4,?_⟩;rw[za6,zjm];obtain⟨c,_,rfl⟩:=ht (.lt x) Qm;exact h5
 | @nm i B b m e s1 s2 d ks p _ ih=>
   obtain⟨h1,h2,h3,h4,h5⟩:=ih λt m=>ht t (Qc _ m);obtain⟨p1,p2,p3,p4⟩:=hP _ _ _ _ _ p;have e1:nms (.nm i::B)=i::nms B:=rfl;refine⟨by rw[e1,Qs,Qs,h1],λk hk=>(Q1.mp hk).elim (λz=>z ▸ p1) (h2 k),?_,?_,?_⟩
   .rw[e1,YO,YG,h3,p2];rfl
   .rw[Qp,ZD,p3,h4]
   .rw[Qp,za6,zjm,p4,h5]
theorem zoo(hg:GTOk g):∀{n:Nat} {x:Int} {b e s:Nat} {d:VI},Tr g u n x b e s d->Gd g n d/\g.isT n x d=true/\cntT n d=s/\metN u (g.wordT n d) b=e
 | 0,_,_,_,_,_,h=>h.elim
 | n+1,x,b,e,s,d,⟨a,r,s',ks,h1,h2,h3,h4,q⟩=>by
   have er:=hg.each r (zb5 h1);obtain⟨k1,k2,k3,k4,k5⟩:=zss (λ_ _ _ _ _ z=>zoo hg z) q er.2.2.2;have al:=(Qx.mp h1).1;have ha:thB (a:Nat) g.rs.length=true:=by unfold thB;simp;exact al
   have e1:g.at_ (a:Nat)=r:=by
    have:=(zcf ha).1;rw[ZS,h1] at this;exact(QM this).symm
   subst h3 h4;refine⟨⟨a,ks,rfl,by have:=er.2.2.1;lia,ha,by rw[e1];exact k1,k2⟩,?_,?_,?_⟩
   .rw[zl7,ha,e1,Gq h2,Gq k1,k3];rfl
   .rw[zkf,k4];lia
   .rw[zc2,e1];exact k5
def szs(B:BT):AL Prt Nat:=B.map λe=>(e.1,e.2.1)
theorem zsg{k:Prt}:(szs B).at_ k=(B.at_ k).map (·.1):=by
 induction B with
 | nil=>rfl
 | cons p B ih=>
   show AL.at_ ((p.1,p.2.1)::szs B) k=_;rw[AL.at_cons,AL.at_cons,ih]
   by_cases h:p.1=k
   .rw[Gm h,Gm h];rfl
   .rw[Gn h,Gn h]
def zb2(v:Nat×VI):VI:=encN v.1
theorem zwy(B:BT):zak encN (szs B)=zak zb2 B:=by
 unfold zak szs;rw[QN];rfl
abbrev WN:=AL Nat Nat
def leL(v:Nat):Option Nat->Nat
 | none=>v
 | some x=>if x<v then x else v
def minL(W:WN)(k v:Nat):WN:=W.put k (leL v (W.at_ k))
def zcs(W:WN)(vs:List (Nat×Nat)):WN:=vs.foldl (λW e=>minL W e.1 e.2) W
def zci(B:BT)(u:List Nat)(W:WN)(t:GThg):WN:=W.foldl (λacc pw=>zcs acc ((zb9 (szs B) u pw.1 t).map λe=>(e.1,pw.2+e.2))) []
def ze0(B:BT)(u:List Nat)(b:Nat)(body:List GThg):WN:=body.foldl (zci B u) [(b,1)]
def zdh(u:List Nat)(r:RuG)(s:BT×Bool)(b:Nat):BT×Bool:=(ze0 s.1 u b r.b).foldl (λs e=>updP s (r.n,b,e.1) (e.2,.none)) s
def za1(g:GraZ)(u:List Nat)(B:BT):BT×Bool:=g.rs.foldl (λs r=>(QL (u.length+1)).foldl (zdh u r) s) (B,false)
structure WnOk(u:List Nat)(W:WN):Prop where
 nd:(W.map (·.1)).Nodup
 le:∀e∈W,e.1<=u.length
theorem WnOk.min(h:WnOk u W){k v:Nat}(hk:k<=u.length):WnOk u (minL W k v):=by
 refine⟨?_,λe he=>?_⟩
 .unfold minL;rw[zjq]
  split
  .exact h.nd
  .rename_i s
   rw[ZR];refine⟨h.nd,by simp,λa ha b hb=>?_⟩;rw[Qn.mp hb];intro e;exact zjh (by cases z:W.at_ k with|none=>rfl|some x=>rw[z] at s;exact absurd rfl s) (e ▸ ha)
 .rcases zcz he with he|rfl
  .exact h.le e he
  .exact hk
theorem WnOk.mins: ∀(vs:List (Nat×Nat)) {W:WN},WnOk u W->(∀e∈vs,e.1<=u.length)->WnOk u (zcs W vs)
 | [],_,h,_=>h
 | e::vs,_,h,hv=>WnOk.mins vs (h.min (hv e Qm)) λx hx=>hv x (Qc _ hx)
theorem WnOk.len(h:WnOk u W):W.length<=u.length+1:=by
 have:=ZI h.nd (l₂:=QL (u.length+1)) λk hk=>by
  obtain⟨e,he,rfl⟩:=Q8.mp hk;exact Z0.mpr (Vd (h.le e he))
 rwa [Qb,Zx] at this
theorem zqs: WnOk u []:=⟨by simp,λe he=>absurd he QE⟩
theorem zqh{b v:Nat}(hb:b<=u.length):WnOk u [(b,v)]:=⟨by simp,λe he=>by rw[Qn.mp he];exact hb⟩
theorem zns{b:Nat}{n:Int}{t:GThg}(ht:ThG n t)(hb:b<=u.length):∀e∈zb9 T u b t,e.1<=u.length:=λe he=>by
 cases t with
 | nm i=>
   obtain⟨k,hk,h⟩:=Za.mp he;obtain⟨v,hv,rfl⟩:=Qf.mp h;have:=Jz.mp hk;show k<=_;lia
 | lt x=>
   have l:=zii ht hb;unfold zb9 at he;unfold stp at l;dsimp only at he
   split at he
   .rename_i z
    rw[Gm z] at l;rcases Q1.mp he with rfl|he
    .exact hb
    .rw[Qn.mp he];exact l
   .rw[Qn.mp he];exact hb
theorem zwa{n:Int}{t:GThg}(tr:ThG n t)(h:WnOk u W):WnOk u (zci B u W t):=by
 have key:∀(l:WN) (acc:WN),(∀e∈l,e∈W)->WnOk u acc->WnOk u (l.foldl (λacc pw=>zcs acc ((zb9 (szs B) u pw.1 t).map λe=>(e.1,pw.2+e.2))) acc):=by
  intro l
  induction l with
  | nil=>intro acc _ ha;exact ha
  | cons pw l ih=>
    intro acc hl ha;have pm:=hl pw Qm;refine ih _ (λe he=>hl e (Qc _ he)) (ha.mins _ λe he=>?_);obtain⟨x,hx,rfl⟩:=Q8.mp he;exact zns tr (h.le _ pm) x hx
 exact key W [] (λ_ h=>h) zqs
theorem znr{n:Int}{b:Nat}(hb:b<=u.length)(ht:∀t∈r,ThG n t):WnOk u (ze0 B u b r):=by
 have key:∀(l:List GThg) (W:WN),(∀t∈l,ThG n t)->WnOk u W->WnOk u (l.foldl (zci B u) W):=by
  intro l
  induction l with
  | nil=>intro W _ h;exact h
  | cons t l ih=>intro W hl h;exact ih _ (λx hx=>hl x (Qc _ hx)) (zwa (hl t Qm) h)
 exact key r _ ht (zqh hb)
theorem zc4(hg:GTOk g)(ok:BtOk g u B):Step (B,false) (za1 g u B)/\BtOk g u (za1 g u B).1:=by
 unfold za1;refine zcd (I:=λs=>BtOk g u s.1) _ _ (λs r hs rm=>?_) ok;refine zcd (I:=λs=>BtOk g u s.1) _ _ (λs b hs hb=>?_) hs;have bl:b<=u.length:=by have:=Z0.mp hb;lia
 obtain⟨r0,r2,r3,r4⟩:=hg.each r rm;have wt:=znr (B:=s.1) (u:=u) (b:=b) bl r4;unfold zdh;refine zcd (I:=λs=>BtOk g u s.1) _ _ (λs e hs he=>?_) hs;refine⟨zlu hs,?_⟩;have p4:BtOk g u (s.1.put (r.n,b,e.1) (e.2,.none)):=hs.put ⟨r0,bl,wt.le _ he⟩ rfl;unfold updP
 split
 .exact p4
 .split
  .exact p4
  .exact hs
def zow(g:GraZ)(u:List Nat):Nat->BT->Prop
 | 0,B=>(za1 g u B).2=false
 | N+1,B=>(za1 g u B).2=false\/zow g u N (za1 g u B).1
theorem zt5(hg:GTOk g):∀(m k:Nat) (B:BT),BtOk g u B->3 * ((u.length+1) * (u.length+1))-B.length<=m->sumB B<=k->∃N,zow g u N B:=by
 intro m
 induction m with
 | zero=>
   intro k
   induction k with
   | zero=>
     intro B ok hm hk;obtain⟨st,ok2⟩:=zc4 hg ok;rcases st with e|⟨_,l⟩
     .exact⟨0,by show(za1 g u B).2=false;rw[e]⟩
     .have:=ok2.len hg.n3;rcases l with l|⟨_,l⟩
      .exact absurd l (by show ¬B.length<_;lia)
      .exact absurd l (by show ¬_<sumB B;lia)
   | succ k ih=>
     intro B ok hm hk;obtain⟨st,ok2⟩:=zc4 hg ok;rcases st with e|⟨_,l⟩
     .exact⟨0,by show(za1 g u B).2=false;rw[e]⟩
     .have:=ok2.len hg.n3;rcases l with l|⟨l1,l2⟩
      .exact absurd l (by show ¬B.length<_;lia)
      .have l1:B.length=(za1 g u B).1.length:=l1;have l2:sumB (za1 g u B).1<sumB B:=l2;obtain⟨N,h⟩:=ih _ ok2 (by lia) (by lia);exact⟨N+1,.inr h⟩
 | succ m ihm=>
   intro k
   induction k with
   | zero=>
     intro B ok hm hk;obtain⟨st,ok2⟩:=zc4 hg ok;rcases st with e|⟨_,l⟩
     .exact⟨0,by show(za1 g u B).2=false;rw[e]⟩
     .rcases l with l|⟨_,l⟩
      .have l:B.length<(za1 g u B).1.length:=l;obtain⟨N,h⟩:=ihm _ _ ok2 (by lia) (Qe _);exact⟨N+1,.inr h⟩
      .exact absurd l (by show ¬_<sumB B;lia)
   | succ k ih=>
     intro B ok hm hk;obtain⟨st,ok2⟩:=zc4 hg ok;rcases st with e|⟨_,l⟩
     .exact⟨0,by show(za1 g u B).2=false;rw[e]⟩
     .rcases l with l|⟨l1,l2⟩
      .have l:B.length<(za1 g u B).1.length:=l;obtain⟨N,h⟩:=ihm _ _ ok2 (by lia) (Qe _);exact⟨N+1,.inr h⟩
      .have l1:B.length=(za1 g u B).1.length:=l1;have l2:sumB (za1 g u B).1<sumB B:=l2;obtain⟨N,h⟩:=ih _ ok2 (by lia) (by lia);exact⟨N+1,.inr h⟩
inductive ReachL(g:GraZ)(u:List Nat):BT->Prop
 | nil:ReachL g u []
 | pass {B:BT}:ReachL g u B->ReachL g u (za1 g u B).1
def zoa:List VI->(TDv->Prop)->Prop:=λds Q=>∃(g:GraZ) (u:List Nat),ds = [zao g,.str (tx u)]/\GTOk g/\WdOk u/\∀B,BtOk g u B->ReachL g u B->(za1 g u B).2=false->Q (zak zb2 (za1 g u B).1)
def GdWy(g:GraZ)(u:List Nat)(pre:List GThg)(b:Nat)(e:Nat×Nat×List VI):Prop:=∃s,e.2.1=1+s/\Bod u (AnyT g u) pre b e.1 s e.2.2
theorem zpi(hB:∀e∈B,AnyT g u e.1.1 e.1.2.1 e.1.2.2 e.2.1 e.2.2){b:Nat}{t:GThg}:∀e∈zcu B u b t,Bod u (AnyT g u) [t] b e.1 e.2.1 e.2.2:=λe he=>by
 cases t with
 | nm i=>
   obtain⟨k,_,h⟩:=Za.mp he;obtain⟨v,hv,rfl⟩:=Qf.mp h;exact .nm (s2:=0) (hB _ (AL.at_mem hv)) .nil
 | lt x=>
   rw[Qn.mp he];exact .lt .nil
theorem ztc{κ α:Type}[DecidableEq κ]{P:κ×Nat×α->Prop}{l:AL κ (Nat×α)}{k:κ}{v:Nat×α}(h:∀e∈l,P e)(hv:P (k,v)):∀e∈minP l k v,P e:=λe he=>by
 have put:e∈l.put k v->P e:=λhe=>(zcz he).elim (h e) λz=>z ▸ hv;unfold minP at he
 split at he
 .exact put he
 .split at he
  .exact put he
  .exact h e he
theorem zlk{κ α:Type}[DecidableEq κ]{P:κ×Nat×α->Prop}:∀(vs:List (κ×Nat×α)) {l:AL κ (Nat×α)},(∀e∈l,P e)->(∀e∈vs,P e)->∀e∈zcr l vs,P e
 | [],_,h,_=>h
 | v::vs,_,h,hv=>zlk vs (ztc h (hv v Qm)) λe he=>hv e (Qc _ he)
theorem zpo(hB:∀e∈B,AnyT g u e.1.1 e.1.2.1 e.1.2.2 e.2.1 e.2.2){b:Nat}{t:GThg}(hW:∀e∈W,GdWy g u pre b e):∀e∈zcq B u W t,GdWy g u (pre ++ [t]) b e:=by
 have key:∀(l acc:WT),(∀e∈l,e∈W)->(∀e∈acc,GdWy g u (pre ++ [t]) b e)->∀e∈l.foldl (λacc pw=>zcr acc ((zcu B u pw.1 t).map λe=>(e.1,pw.2.1+e.2.1,pw.2.2++e.2.2))) acc,GdWy g u (pre ++ [t]) b e:=by
  intro l
  induction l with
  | nil=>intro acc _ ha;exact ha
  | cons pw l ih=>
    intro acc hl ha;refine ih _ (λe he=>hl e (Qc _ he)) (zlk _ ha λe he=>?_);obtain⟨x,hx,rfl⟩:=Q8.mp he;obtain⟨s,e1,q⟩:=hW pw (hl pw Qm);exact⟨s+x.2.1,by show pw.2.1+x.2.1=_;lia,q.app (zpi hB x hx)⟩
 exact key W [] (λ_ h=>h) λ_ h=>nomatch h
theorem zpt(hB:∀e∈B,AnyT g u e.1.1 e.1.2.1 e.1.2.2 e.2.1 e.2.2){b:Nat}(r:List GThg):∀e∈zdf B u b r,GdWy g u r b e:=by
 have key:∀(l pre:List GThg) (W:WT),(∀e∈W,GdWy g u pre b e)->∀e∈l.foldl (zcq B u) W,GdWy g u (pre++l) b e:=by
  intro l
  induction l with
  | nil=>intro pre W h;rw[QJ];exact h
  | cons t l ih=>
    intro pre W h;have:=ih (pre ++ [t]) _ (zpo hB h);rw[QZ] at this;exact this
 exact key r [] _ λe he=>by rw[Qn.mp he];exact⟨0,rfl,.nil⟩
theorem zn3{P:Prt×Nat×VI->Prop}{s:BT×Bool}{k:Prt}{v:Nat×VI}(h:∀e∈s.1,P e)(hv:P (k,v)):∀e∈(updP s k v).1,P e:=λe he=>by
 have put:e∈s.1.put k v->P e:=λhe=>(zcz he).elim (h e) λz=>z ▸ hv;unfold updP at he
 split at he
 .exact put he
 .split at he
  .exact put he
  .exact h e he
theorem zce{α β:Type}{I:β->Prop}{f:β->α->β}:∀(l:List α) (s:β),(∀s a,I s->a∈l->I (f s a))->I s->I (l.foldl f s)
 | [],_,_,hs=>hs
 | a::l,s,h,hs=>zce l (f s a) (λs b hs hb=>h s b hs (Qc _ hb)) (h s a hs Qm)
theorem zp4(hB:∀e∈B,AnyT g u e.1.1 e.1.2.1 e.1.2.2 e.2.1 e.2.2):∀e∈(zaz g u B).1,AnyT g u e.1.1 e.1.2.1 e.1.2.2 e.2.1 e.2.2:=by
 unfold zaz;refine zce (I:=λs:BT×Bool=>∀e∈s.1,AnyT g u e.1.1 e.1.2.1 e.1.2.2 e.2.1 e.2.2) _ _ (λs r hs hr=>?_) hB
 have hr2:g.rs[r.2]? = some r.1:=by
  obtain⟨i,hi⟩:=JE hr;rw[ZB] at hi;obtain⟨x,hx,e⟩:=Qf.mp hi;rw[<- e];show g.rs[0+i]? = _;rw[JN];exact hx
 refine zce (I:=λs:BT×Bool=>∀e∈s.1,AnyT g u e.1.1 e.1.2.1 e.1.2.2 e.2.1 e.2.2) _ _ (λs b hs hb=>?_) hs;have bs:=zpt hs (b:=b) r.1.b;unfold zdd;refine zce (I:=λs:BT×Bool=>∀e∈s.1,AnyT g u e.1.1 e.1.2.1 e.1.2.2 e.2.1 e.2.2) _ _ (λs e hs he=>?_) hs;refine zn3 hs ?_;obtain⟨s',e1,q⟩:=bs e he;show AnyT g u r.1.n b e.1 e.2.1 (zam (r.2:Nat) e.2.2);rw[e1,YU];exact zhe hr2 q
theorem znd(h:ReachP g u B):∀e∈B,AnyT g u e.1.1 e.1.2.1 e.1.2.2 e.2.1 e.2.2:=by
 induction h with
 | nil=>exact λ_ h=>nomatch h
 | pass _ ih=>exact zp4 ih
def SndL(g:GraZ)(u:List Nat)(e:Prt×Nat×VI):Prop:=∃(d:VI) (e':Nat),AnyT g u e.1.1 e.1.2.1 e' e.2.1 d/\e.1.2.2<=e'
def GdNy(g:GraZ)(u:List Nat)(pre:List GThg)(b:Nat)(e:Nat×Nat):Prop:=∃(s e':Nat) (ks:List VI),e.2=1+s/\Bod u (AnyT g u) pre b e' s ks/\e.1<=e'
theorem zpz(hB:∀e∈B,SndL g u e){b:Nat}{t:GThg}:∀e∈zb9 (szs B) u b t,∃(e':Nat) (ks:List VI),Bod u (AnyT g u) [t] b e' e.2 ks/\e.1<=e':=λe he=>by
 cases t with
 | nm i=>
   obtain⟨k,_,h⟩:=Za.mp he;obtain⟨v,hv,rfl⟩:=Qf.mp h;rw[zsg] at hv;obtain⟨w,hw,rfl⟩:=Qf.mp hv;obtain⟨d,e',q,l⟩:=hB _ (AL.at_mem hw);exact⟨e',[d],.nm (s2:=0) q .nil,l⟩
 | lt x=>
   have q:Bod u (AnyT g u) [.lt x] b (stp u b x) 0 []:=.lt .nil;have l:=zio (u:=u) (b:=b) (x:=x);unfold zb9 at he;dsimp only at he
   split at he
   .rename_i z
    rcases Q1.mp he with rfl|he
    .exact⟨_,_,q,l⟩
    .rw[Qn.mp he];refine⟨_,_,q,?_⟩;show b+1<=_;unfold stp;rw[Gm z];exact Qe _
   .rw[Qn.mp he];exact⟨_,_,q,l⟩
theorem z1k{v:Nat}: leL v o=v\/o=some (leL v o):=by
 cases o with
 | none=>exact .inl rfl
 | some x=>unfold leL;dsimp only;split;exact .inr rfl;exact .inl rfl
theorem zup{P:Nat×Nat->Prop}{W:WN}{k v:Nat}(h:∀e∈W,P e)(hv:P (k,v)):∀e∈minL W k v,P e:=λe he=>by
 rcases zcz he with he|rfl
 .exact h e he
 .rcases z1k (v:=v) (o:=W.at_ k) with e|e
  .rw[e];exact hv
  .exact h _ (AL.at_mem e)
theorem zku{P:Nat×Nat->Prop}:∀(vs:List (Nat×Nat)) {W:WN},(∀e∈W,P e)->(∀e∈vs,P e)->∀e∈zcs W vs,P e
 | [],_,h,_=>h
 | v::vs,_,h,hv=>zku vs (zup h (hv v Qm)) λe he=>hv e (Qc _ he)
theorem zpq(hB:∀e∈B,SndL g u e){b:Nat}{t:GThg}(hW:∀e∈W,GdNy g u pre b e):∀e∈zci B u W t,GdNy g u (pre ++ [t]) b e:=by
 have key:∀(l acc:WN),(∀e∈l,e∈W)->(∀e∈acc,GdNy g u (pre ++ [t]) b e)->∀e∈l.foldl (λacc pw=>zcs acc ((zb9 (szs B) u pw.1 t).map λe=>(e.1,pw.2+e.2))) acc,GdNy g u (pre ++ [t]) b e:=by
  intro l
  induction l with
  | nil=>intro acc _ ha;exact ha
  | cons pw l ih=>
    intro acc hl ha;refine ih _ (λe he=>hl e (Qc _ he)) (zku _ ha λe he=>?_);obtain⟨x,hx,rfl⟩:=Q8.mp he;obtain⟨s,e',ks,e1,q,l1⟩:=hW pw (hl pw Qm);obtain⟨e2,ks2,q2,l2⟩:=zpz hB x hx;obtain⟨e3,q3,l3⟩:=zqm q2 e';have l3:=l3 l1;exact⟨s+x.2,e3,ks++ks2,by show pw.2+x.2=_;lia,q.app q3,by show x.1<=_;lia⟩
 exact key W [] (λ_ h=>h) λ_ h=>nomatch h
theorem zm6(hB:∀e∈B,SndL g u e){b:Nat}(r:List GThg):∀e∈ze0 B u b r,GdNy g u r b e:=by
 have key:∀(l pre:List GThg) (W:WN),(∀e∈W,GdNy g u pre b e)->∀e∈l.foldl (zci B u) W,GdNy g u (pre++l) b e:=by
  intro l
  induction l with
  | nil=>intro pre W h;rw[QJ];exact h
  | cons t l ih=>
    intro pre W h;have:=ih (pre ++ [t]) _ (zpq hB h);rw[QZ] at this;exact this
 exact key r [] _ λe he=>by rw[Qn.mp he];exact⟨0,b,[],rfl,.nil,Qe _⟩
theorem zne(hB:∀e∈B,SndL g u e):∀e∈(za1 g u B).1,SndL g u e:=by
 unfold za1;refine zce (I:=λs:BT×Bool=>∀e∈s.1,SndL g u e) _ _ (λs r hs hr=>?_) hB;obtain⟨a,ha⟩:=JE hr;refine zce (I:=λs:BT×Bool=>∀e∈s.1,SndL g u e) _ _ (λs b hs hb=>?_) hs;have bs:=zm6 hs (b:=b) r.b;unfold zdh;refine zce (I:=λs:BT×Bool=>∀e∈s.1,SndL g u e) _ _ (λs e hs he=>?_) hs;refine zn3 hs ?_;obtain⟨s',e',ks,e1,q,l⟩:=bs e he;refine⟨zam (a:Nat) ks,e',?_,l⟩;show AnyT g u r.n b e' e.2 _;rw[e1,YU];exact zhe ha q
theorem zf4(h:ReachL g u B):∀e∈B,SndL g u e:=by
 induction h with
 | nil=>exact λ_ h=>nomatch h
 | pass _ ih=>exact zne ih
def zfc{α:Type}(f:BT×Bool->α->BT×Bool):Prop:=∀s a,(f s a=s\/(f s a).2=true)/\(s.2=true->(f s a).2=true)
theorem zqe(s:BT×Bool)(k:Prt)(v:Nat×VI):(updP s k v=s\/(updP s k v).2=true)/\(s.2=true->(updP s k v).2=true):=by
 unfold updP
 split
 .exact⟨.inr rfl,λ_=>rfl⟩
 .split
  .exact⟨.inr rfl,λ_=>rfl⟩
  .exact⟨.inl rfl,id⟩
theorem zed{α:Type}{k:α->Prt}{v:α->Nat×VI}:zfc λs a=>updP s (k a) (v a):=λs a=>zqe s (k a) (v a)
theorem zhq{α:Type}{f:BT×Bool->α->BT×Bool}(h:zfc f):∀(l:List α) (s:BT×Bool),s.2=true->(l.foldl f s).2=true
 | [],_,hs=>hs
 | a::l,s,hs=>zhq h l _ ((h s a).2 hs)
theorem zb0{α:Type}{f:BT×Bool->α->BT×Bool}(h:zfc f):∀(l:List α) (s:BT×Bool),(l.foldl f s).2=false->l.foldl f s=s/\∀a∈l,f s a=s
 | [],s,_=>⟨rfl,λ_ h=>nomatch h⟩
 | a::l,s,hs=>by
   have e:f s a=s:=by
    rcases(h s a).1 with e|e
    .exact e
    .have:=zhq h l _ e;rw[Z9,this] at hs;cases hs
   rw[Z9,e] at hs ⊢;obtain⟨h1,h2⟩:=zb0 h l s hs;exact⟨h1,λb hb=>(Q1.mp hb).elim (λz=>z ▸ e) (h2 b)⟩
theorem zdw{α β:Type}{l:β->BT×Bool->List α}{f:β->BT×Bool->α->BT×Bool}(h:∀b,zfc (f b)):zfc λs b=>(l b s).foldl (f b) s:=λs b=>by
 refine⟨?_,zhq (h b) _ s⟩
 by_cases e:((l b s).foldl (f b) s).2=true
 .exact .inr e
 .exact .inl (zb0 (h b) _ s (Bool.eq_false_iff.mpr e)).1
theorem zhc(u:List Nat)(r:RuG×Nat):zfc (zdd u r):=zdw (l:=λb s=>zdf s.1 u b r.1.b) (f:=λb s e=>updP s (r.1.n,b,e.1) (e.2.1,zam (r.2:Nat) e.2.2)) λb=>zed
theorem zg7(u:List Nat)(r:RuG):zfc (zdh u r):=zdw (l:=λb s=>ze0 s.1 u b r.b) (f:=λb s e=>updP s (r.n,b,e.1) (e.2,.none)) λb=>zed
theorem zka{k:Prt}(h:updP s k v=s)(hs:s.2=false):∃v',s.1.at_ k=some v'/\v'.1<=v.1:=by
 unfold updP at h
 split at h
 .have:=Gr Ve h;rw[hs] at this;cases this
 .rename_i x hx
  split at h
  .have:=Gr Ve h;rw[hs] at this;cases this
  .exact⟨x,hx,by lia⟩
theorem znb(h:(zaz g u B).2=false):∀(a:Nat) (r:RuG),g.rs[a]? = some r->∀b,b<=u.length->∀e∈zdf B u b r.b,∃v,B.at_ (r.n,b,e.1)=some v/\v.1<=e.2.1:=λa r ha b hb e he=>by
 have h1:=(zb0 (f:=λs (r:RuG×Nat)=>(QL (u.length+1)).foldl (zdd u r) s) (zdw (l:=λ_ _=>QL (u.length+1)) (f:=λr=>zdd u r) (zhc u)) g.rs.zipIdx (B,false) h).2 (r,a) (by
  refine List.mem_iff_getElem?.mpr ⟨a,?_⟩;rw[ZB,ha];show some (r,0+a)=_
  rw[JN])
 have h2:=(zb0 (zhc u (r,a)) (QL (u.length+1)) (B,false) (by rw[h1])).2 b (Z0.mpr (by lia));have h3:=(zb0 (f:=λs (e:Nat×Nat×List VI)=>updP s (r.n,b,e.1) (e.2.1,zam (a:Nat) e.2.2)) zed (zdf B u b r.b) (B,false) (Gr Ve h2)).2 e he;exact zka h3 rfl
theorem zl9(h:(za1 g u B).2=false):∀r∈g.rs,∀b,b<=u.length->∀e∈ze0 B u b r.b,∃v,B.at_ (r.n,b,e.1)=some v/\v.1<=e.2:=λr hr b hb e he=>by
 have h1:=(zb0 (f:=λs (r:RuG)=>(QL (u.length+1)).foldl (zdh u r) s) (zdw (l:=λ_ _=>QL (u.length+1)) (f:=λr=>zdh u r) (zg7 u)) g.rs (B,false) h).2 r hr;have h2:=(zb0 (zg7 u r) (QL (u.length+1)) (B,false) (by rw[h1])).2 b (Z0.mpr (by lia));have h3:=(zb0 (f:=λs (e:Nat×Nat)=>updP s (r.n,b,e.1) (e.2,.none)) zed (ze0 B u b r.b) (B,false) (Gr Ve h2)).2 e he;exact zka h3 rfl
theorem zmd{t:GThg}(hp:pw∈W)(hx:x∈zcu B u pw.1 t):∃v,(zcq B u W t).at_ x.1=some v/\v.1<=pw.2.1+x.2.1:=by
 have key:∀(l acc:WT),(pw∈l\/∃v,acc.at_ x.1=some v/\v.1<=pw.2.1+x.2.1)->∃v,(l.foldl (λacc pw=>zcr acc ((zcu B u pw.1 t).map λe=>(e.1,pw.2.1+e.2.1,pw.2.2++e.2.2))) acc).at_ x.1=some v/\v.1<=pw.2.1+x.2.1:=by
  intro l
  induction l with
  | nil=>intro acc h;exact h.resolve_left QE
  | cons p l ih=>
    intro acc h;refine ih _ ?_;rcases h with h|⟨v,h1,h2⟩
    .rcases Q1.mp h with rfl|h
     .exact .inr (zn0 (l:=acc) (e:=(x.1,pw.2.1+x.2.1,pw.2.2++x.2.2)) _ (Q8.mpr ⟨x,hx,rfl⟩))
     .exact .inl h
    .obtain⟨v',h3,h4⟩:=zgf (((zcu B u p.1 t).map λe=>(e.1,p.2.1+e.2.1,p.2.2++e.2.2))) h1;exact .inr ⟨v',h3,Q3 h4 h2⟩
 exact key W [] (.inl hp)
theorem zoi{k v j:Nat}:(minL W k v).at_ j=if j=k then some (leL v (W.at_ k)) else W.at_ j:=AL.at_put ..
theorem zr6{k v j x:Nat}(h:W.at_ j=some x):∃x',(minL W k v).at_ j=some x'/\x'<=x:=by
 rw[zoi]
 by_cases e:j=k
 .rw[Gm e,<- e,h];exact⟨_,rfl,by unfold leL;dsimp only;split <;> lia⟩
 .rw[Gn e];exact⟨x,h,Qe _⟩
theorem zwm{k v:Nat}:∃x',(minL W k v).at_ k=some x'/\x'<=v:=by
 rw[zoi,Gm rfl];refine⟨_,rfl,?_⟩
 cases W.at_ k with
 | none=>exact Qe _
 | some x=>unfold leL;dsimp only;split <;> lia
theorem zfp:∀(vs:List (Nat×Nat)) {W:WN} {j x:Nat},W.at_ j=some x->∃x',(zcs W vs).at_ j=some x'/\x'<=x
 | [],_,_,x,h=>⟨x,h,Qe _⟩
 | e::vs,_,_,_,h=>by
   obtain⟨x1,h1,l1⟩:=zr6 (k:=e.1) (v:=e.2) h;obtain⟨x2,h2,l2⟩:=zfp vs h1;exact⟨x2,h2,Q3 l2 l1⟩
theorem zm0:∀(vs:List (Nat×Nat)) {W:WN} {e:Nat×Nat},e∈vs->∃x',(zcs W vs).at_ e.1=some x'/\x'<=e.2
 | v::vs,W,e,h=>by
   rcases Q1.mp h with rfl|h
   .obtain⟨x1,h1,l1⟩:=zwm (W:=W) (k:=e.1) (v:=e.2);obtain⟨x2,h2,l2⟩:=zfp vs h1;exact⟨x2,h2,Q3 l2 l1⟩
   .exact zm0 vs h
theorem zhm{t:GThg}(hp:pw∈W)(hx:x∈zb9 (szs B) u pw.1 t):∃v,(zci B u W t).at_ x.1=some v/\v<=pw.2+x.2:=by
 have key:∀(l acc:WN),(pw∈l\/∃v,acc.at_ x.1=some v/\v<=pw.2+x.2)->∃v,(l.foldl (λacc pw=>zcs acc ((zb9 (szs B) u pw.1 t).map λe=>(e.1,pw.2+e.2))) acc).at_ x.1=some v/\v<=pw.2+x.2:=by
  intro l
  induction l with
  | nil=>intro acc h;exact h.resolve_left QE
  | cons p l ih=>
    intro acc h;refine ih _ ?_;rcases h with h|⟨v,h1,h2⟩
    .rcases Q1.mp h with rfl|h
     .exact .inr (zm0 (W:=acc) (e:=(x.1,pw.2+x.2)) _ (Q8.mpr ⟨x,hx,rfl⟩))
     .exact .inl h
    .obtain⟨v',h3,h4⟩:=zfp (((zb9 (szs B) u p.1 t).map λe=>(e.1,p.2+e.2))) h1;exact .inr ⟨v',h3,Q3 h4 h2⟩
 exact key W [] (.inl hp)
theorem ztx{N:Int}(hpos:∀i b m s d,P i b m s d->b<=m/\(b<=u.length->m<=u.length))(hP:∀i b m s d,P i b m s d->b<=u.length->∃v,B.at_ (i,b,m)=some v/\v.1<=s){b e s:Nat}(q:Bod u P r b e s ks)(ht:∀t∈r,ThG N t):b<=u.length->∀(W:WT) (v:Nat×List VI),W.at_ b=some v->∃v',(r.foldl (zcq B u) W).at_ e=some v'/\v'.1<=v.1+s:=by
 induction q with
 | nil=>exact λ_ W v h=>⟨v,h,Qe _⟩
 | @lt x B' b e s ks _ ih=>
   intro hb W v h;obtain⟨v1,h1,l1⟩:=zmd (B:=B) (u:=u) (t:=.lt x) (x:=(stp u b x,0,[])) (AL.at_mem h) Qm;obtain⟨v2,h2,l2⟩:=ih (λt m=>ht t (Qc _ m)) (zii (ht _ Qm) hb) _ v1 h1;have l1:v1.1<=v.1+0:=l1;exact⟨v2,h2,by lia⟩
 | @nm i B' b m e s1 s2 d ks p q ih=>
   intro hb W v h;obtain⟨p1,p2⟩:=hpos _ _ _ _ _ p;have p2:=p2 hb;obtain⟨v0,h0,l0⟩:=hP _ _ _ _ _ p hb;obtain⟨v1,h1,l1⟩:=zmd (B:=B) (u:=u) (t:=.nm i) (x:=(m,v0.1,[v0.2])) (AL.at_mem h) (Za.mpr ⟨m,Jz.mpr ⟨p1,by show m<b+_;lia⟩,by show(B.at_ (i,b,m)).map _=_;rw[h0];rfl⟩);obtain⟨v2,h2,l2⟩:=ih (λt m=>ht t (Qc _ m)) p2 _ v1 h1;have l1:v1.1<=v.1+v0.1:=l1;exact⟨v2,h2,by lia⟩
theorem zho(hg:GTOk g)(h:(zaz g u B).2=false):∀{n:Nat} {x:Int} {b e s:Nat} {d:VI},Tr g u n x b e s d->b<=u.length->∃v,B.at_ (x,b,e)=some v/\v.1<=s
 | 0,_,_,_,_,_,z,_=>z.elim
 | n+1,x,b,e,s,d,⟨a,r,s',ks,h1,h2,h3,h4,q⟩,hb=>by
   obtain⟨v,hv,l⟩:=ztx (B:=B) (P:=Tr g u n) (λ_ _ _ _ _ z=>zd5 hg z) (λ_ _ _ _ _ z hb=>zho hg h z hb) q (hg.each r (zb5 h1)).2.2.2 hb [(b,1,[])] (1,[]) (by rw[AL.at_cons,Gm rfl]);obtain⟨v',hv',l'⟩:=znb h a r h1 b hb _ (AL.at_mem hv);have l:v.1<=1+s':=l;have l':v'.1<=v.1:=l';subst h2;exact⟨v',hv',by lia⟩
theorem zsm{N:Int}(hpos:∀i b m s d,P i b m s d->b<=m/\(b<=u.length->m<=u.length))(hfr:∀i b m s d,P i b m s d->∀b',∃m',P i b' m' s d/\(b<=b'->m<=m'))(hP:∀i b m s d,P i b m s d->b<=u.length->∀to,b<=to->to<=m->∃v,B.at_ (i,b,to)=some v/\v.1<=s):∀{r:List GThg} {b e s:Nat} {ks:List VI},Bod u P r b e s ks->(∀t∈r,ThG N t)->b<=u.length->∀to,b<=to->to<=e->∀(W:WN) (v:Nat),W.at_ b=some v->∃v',(r.foldl (zci B u) W).at_ to=some v'/\v'<=v+s:=by
 intro r
 induction r with
 | nil=>
   intro b e s ks q ht hb to l1 l2 W v h;cases q;have:to=b:=Jk l2 l1;exact⟨v,by rw[this];exact h,Qe _⟩
 | cons t r ih=>
   intro b e s ks q ht hb to l1 l2 W v h;have ht2:∀t∈r,ThG N t:=λt m=>ht t (Qc _ m)
   cases q with
   | @lt x _ _ _ _ _ q=>
     have hs:=zii (ht _ Qm) hb
     by_cases c:stp u b x<=to
     .obtain⟨v1,h1,k1⟩:=zhm (B:=B) (u:=u) (t:=.lt x) (x:=(stp u b x,0)) (AL.at_mem h) (by
       unfold zb9 stp;dsimp only
       split
       .exact Qc _ Qm
       .exact Qm)
      obtain⟨v2,h2,k2⟩:=ih q ht2 hs to c l2 _ v1 h1;have k1:v1<=v+0:=k1;exact⟨v2,h2,by lia⟩
     .have e1:to=b:=by
       have:stp u b x<=b+1:=by unfold stp;split <;> lia
       lia
      subst e1
      obtain⟨v1,h1,k1⟩:=zhm (B:=B) (u:=u) (t:=.lt x) (x:=(to,0)) (AL.at_mem h) (by
       unfold zb9;dsimp only
       split <;> exact Qm)
      obtain⟨e',q',_⟩:=ze2 hfr q to;have q1:=zgy hpos q' ht2;obtain⟨v2,h2,k2⟩:=ih q' ht2 hb to (Qe _) q1.1 _ v1 h1;have k1:v1<=v+0:=k1;exact⟨v2,h2,by lia⟩
   | @nm i _ _ m _ s1 s2 d ks p q=>
     obtain⟨p1,p2⟩:=hpos _ _ _ _ _ p;have p2:=p2 hb
     have way:∀k,b<=k->k<=m->∃v1,(zci B u W (.nm i)).at_ k=some v1/\v1<=v+s1:=λk a1 a2=>by
      obtain⟨v0,h0,l0⟩:=hP _ _ _ _ _ p hb k a1 a2;obtain⟨v1,h1,k1⟩:=zhm (B:=B) (u:=u) (t:=.nm i) (x:=(k,v0.1)) (AL.at_mem h) (Za.mpr ⟨k,Jz.mpr ⟨a1,by show k<b+_;lia⟩,by show((szs B).at_ (i,b,k)).map _=_;rw[zsg,h0];rfl⟩);have k1:v1<=v+v0.1:=k1;exact⟨v1,h1,by lia⟩
     by_cases c:m<=to
     .obtain⟨v1,h1,k1⟩:=way m p1 (Qe _);obtain⟨v2,h2,k2⟩:=ih q ht2 p2 to c l2 _ v1 h1;exact⟨v2,h2,by lia⟩
     .obtain⟨v1,h1,k1⟩:=way to l1 (by lia);obtain⟨e',q',_⟩:=ze2 hfr q to;have q1:=zgy hpos q' ht2;obtain⟨v2,h2,k2⟩:=ih q' ht2 (by lia) to (Qe _) q1.1 _ v1 h1;exact⟨v2,h2,by lia⟩
theorem zj5(hg:GTOk g)(h:(za1 g u B).2=false):∀{n:Nat} {x:Int} {b e s:Nat} {d:VI},Tr g u n x b e s d->b<=u.length->∀to,b<=to->to<=e->∃v,B.at_ (x,b,to)=some v/\v.1<=s
 | 0,_,_,_,_,_,z,_,_,_,_=>z.elim
 | n+1,x,b,e,s,d,⟨a,r,s',ks,h1,h2,h3,h4,q⟩,hb,to,l1,l2=>by
   obtain⟨v,hv,l⟩:=zsm (B:=B) (P:=Tr g u n) (λ_ _ _ _ _ z=>zd5 hg z) (λ_ _ _ _ _ z b'=>zi9 z b') (λ_ _ _ _ _ z hb to l1 l2=>zj5 hg h z hb to l1 l2) q (hg.each r (zb5 h1)).2.2.2 hb to l1 l2 [(b,1)] 1 (by rw[AL.at_cons,Gm rfl]);obtain⟨v',hv',l'⟩:=zl9 h r (zb5 h1) b hb _ (AL.at_mem hv);have l':v'.1<=v:=l';subst h2;exact⟨v',hv',by lia⟩
theorem zru(hg:GTOk g)(ok:BtOk g u B)(h:(zaz g u B).2=false):(zaz g u B).1=B:=by
 rcases(zcw hg ok).1 with e|⟨e,_⟩
 .rw[e]
 .rw[h] at e;cases e
theorem ziu(hg:GTOk g)(ok:BtOk g u B)(h:(za1 g u B).2=false):(za1 g u B).1=B:=by
 rcases(zc4 hg ok).1 with e|⟨e,_⟩
 .rw[e]
 .rw[h] at e;cases e
theorem zj3(hg:GTOk g)(hu:u.length<=6)(rB:ReachP g u B)(hB:(zaz g u B).2=false)(rL:ReachL g u L)(hL:(za1 g u L).2=false):
 (B.at_ (0,0,u.length)=none/\L.at_ (0,0,u.length)=none)\/∃(s:Nat) (d z:VI),B.at_ (0,0,u.length)=some (s,d)/\L.at_ (0,0,u.length)=some (s,z)/\Tr g u 21 0 0 u.length s d:=by
 cases h1:B.at_ (0,0,u.length) with
 | none=>
   refine .inl ⟨rfl,?_⟩
   cases h2:L.at_ (0,0,u.length) with
   | none=>rfl
   | some w=>
     obtain⟨d,e',q,l⟩:=zf4 rL _ (AL.at_mem h2);have l:u.length<=e':=l;have q:AnyT g u 0 0 e' w.1 d:=q;have e1:e'=u.length:=Jk ((zod hg q).2 (QC _)) l;obtain⟨n,q⟩:=q;obtain⟨v,hv,_⟩:=zho hg hB q (QC _);rw[e1,h1] at hv;cases hv
 | some v=>
   refine .inr ?_;have q:AnyT g u 0 0 u.length v.1 v.2:=znd rB _ (AL.at_mem h1)
   have mn:MinT g u 0 0 u.length v.1:=λs' d' z=>by
    obtain⟨n,z⟩:=z;obtain⟨v',hv',l⟩:=zho hg hB z (QC _);rw[h1] at hv';cases hv';exact l
   obtain⟨n,q'⟩:=id q;obtain⟨w,hw,l⟩:=zj5 hg hL q' (QC _) u.length (QC _) (Qe _);obtain⟨d,e',q2,l2⟩:=zf4 rL _ (AL.at_mem hw);have l2:u.length<=e':=l2;have q2:AnyT g u 0 0 e' w.1 d:=q2;have e1:e'=u.length:=Jk ((zod hg q2).2 (QC _)) l2;rw[e1] at q2;have:=mn _ _ q2;have e2:w.1=v.1:=Jk l this;exact⟨v.1,v.2,w.2,rfl,by rw[<- e2];exact hw,zp6 hg hu q mn⟩
theorem Gd.more{n m:Nat}{d:VI}(h:Gd g n d)(e:n<=m):Gd g m d:=by
 induction e with
 | refl=>exact h
 | step _ ih=>exact ih.up
structure TreesG(g:GraZ)(kvs:KD):Prop where
 ok:TreesOk g kvs
 gd:∀p∈kvs,Gd g kvs.length p.2
theorem zo8: TreesG g []:=⟨zrs,λ_ h=>nomatch h⟩
theorem TreesG.put(ok:GTOk g)(h:TreesG g (kvs++ext)){a:Nat}(hr:g.rs[a]? = some r)(nw:KD.at_ (kvs++ext) r.n=none)(hn:∀i∈nms r.b,(kvs.at_ i).isSome=true)(h0:TreesG g kvs)(hl:(nms r.b).length=ks.length)(hk:∀k∈ks,∃i,kvs.at_ i=some k):TreesG g ((kvs++ext) ++ [(r.n,zam a ks)]):=by
 have er:=ok.each r (zb5 hr);have l2:ks.length<=2:=by rw[<- hl];exact er.2.2.1
 refine⟨h.ok.put ok (zb5 hr) nw hn h0.ok.nt l2 hk,λp hp=>?_⟩;have al:=(Qx.mp hr).1;have ha:thB (a:Nat) g.rs.length=true:=by unfold thB;simp;exact al
 have e1:g.at_ (a:Nat)=r:=by
  have:=(zcf ha).1;rw[ZS,hr] at this;exact(QM this).symm
 rw[Qi,QH];rcases Q9.mp hp with hp|hp
 .exact(h.gd p hp).up
 .rw[Qn.mp hp];refine⟨a,ks,rfl,by lia,ha,by rw[e1];exact hl,λk m=>?_⟩;obtain⟨i,hi⟩:=hk k m;exact(h0.gd _ (KD.mem hi)).more (by rw[Qi];lia)
def zmr:List VI->(KD->Prop)->Prop:=λds Q=>∃g:GraZ,ds = [zao g]/\GTOk g/\∀kvs,TreesG g kvs->Q kvs
def zgl(m:Nat):List DV->(R->Prop)->Prop:=λrs Q=>∃(g:GraZ) (kvs:KD) (x:Int) (j:Nat),rs = [.ob,.im (zao g),.thr (DctN kvs),.im (.int x),.im (.int (j:Nat))]/\GTOk g/\TreesG g kvs/\(kvs.at_ x).isSome=true/\j<m/\m<=5/\∀d,Gd g (j+3) d->Q (.o d)
theorem zl1(h:zgl 0 rs Q):False:=by obtain⟨g,kvs,x,j,_,_,_,_,lt,_⟩:=h;lia
def zer(m:Nat):List VI->(R->Prop)->Prop:=λds Q=>∃(g:GraZ) (d:VI),ds = [zao g,d]/\GTOk g/\m<=22/\Gd g m d/\Q (.o (.str (tx (g.wordT m d))))
def zgm(m:Nat):List VI->(R->Prop)->Prop:=λds Q=>∃(g:GraZ) (d:VI),ds = [d]/\m<=22/\Gd g m d/\Q (.o (.int (cntT m d:Nat)))
theorem zlr(h:zer 0 ds Q):False:=by obtain⟨g,d,_,_,_,lk,_⟩:=h;exact lk
theorem zls(h:zgm 0 ds Q):False:=by obtain⟨g,d,_,_,lk,_⟩:=h;exact lk
theorem zff{n:Int}:∀(b:List GThg) (ws:List (List Nat)),(∀t∈b,ThG n t)->(nms b).length=ws.length->(za6 b ws).length+ws.length<=b.length+(ws.map Vr).sum
 | [],ws,_,h=>by
   have e:ws = []:=Zu h.symm;subst e;rw[za6];simp
 | .lt w::b,ws,h,l=>by
   obtain⟨c,_,rfl⟩:=h (.lt w) (by simp);have:=zff b ws (λt ht=>h t (Qc _ ht)) l;rw[za6,Qi,QH,Qs];lia
 | .nm _::b,k::ws,h,l=>by
   have l:(nms b).length+1=ws.length+1:=l;have:=zff b ws (λt ht=>h t (Qc _ ht)) (by lia);rw[za6,Qi,Qs,Qs,Qp,ZD];lia
 | .nm _::b,[],h,l=>by
   have l:(nms b).length+1=0:=l;lia
theorem zeg(ok:GTOk g):∀{n:Nat} {d:VI},Gd g n d->(g.wordT n d).length+1<=2 ^ (n+1)
 | 0,_,h=>h.elim
 | n+1,d,h=>by
   obtain⟨a,ks,rfl,l3,ha,hl,hks⟩:=h;have be:=ok.each _ (zcf ha).2.1;have h1:=zff (g.at_ a).b (ks.map (g.wordT n)) be.2.2.2 (by rw[Qb];exact hl);have h2:=znq (l:=ks) (f:=λd=>(g.wordT n d).length) (b:=2 ^ (n+1)-1) λk m=>by have:=zeg ok (hks k m);lia
   rw[QN,Qb] at h1;have h3:(ks.map (Vr ∘ g.wordT n)).sum=(ks.map λd=>(g.wordT n d).length).sum:=rfl;have p:2<=2 ^ (n+1):=by rw[Nat.pow_succ];have:0<2 ^ n:=Nat.pow_pos (by decide);lia
   have k2:=be.2.2.1;rw[hl] at k2;have k3:=be.2.1;rw[zc2,Nat.pow_succ 2 (n+1)]
   have h4:ks.length * (2 ^ (n+1)-1)+ks.length=ks.length * 2 ^ (n+1):=by
    have:2 ^ (n+1)=2 ^ (n+1)-1+1:=by lia
    rw[this,Nat.mul_add,Nat.mul_one,Nat.add_sub_cancel]
   have h5:ks.length=0\/ks.length=1\/ks.length=2:=by lia
   rcases h5 with e|e|e
   .rw[e] at h1 h2;lia
   .rw[e] at h1 h2;lia
   .rw[e] at h1 h2;lia
theorem ze4:∀(b:List GThg) (ws:List (List Nat)) (c:Nat),c∈za6 b ws->(∃x,GThg.lt x∈b/\c∈x)\/∃w∈ws,c∈w
 | [],_,c,h=>by rw[za6] at h;cases h
 | .lt w::b,ws,c,h=>by
   rw[za6] at h;rcases Q9.mp h with h|h
   .exact .inl ⟨w,Qm,h⟩
   .rcases ze4 b ws c h with ⟨x,hx,e⟩|h
    .exact .inl ⟨x,Qc _ hx,e⟩
    .exact .inr h
 | .nm _::b,k::ws,c,h=>by
   rw[za6] at h;rcases Q9.mp h with h|h
   .exact .inr ⟨k,Qm,h⟩
   .rcases ze4 b ws c h with ⟨x,hx,e⟩|⟨w,hw,e⟩
    .exact .inl ⟨x,Qc _ hx,e⟩
    .exact .inr ⟨w,Qc _ hw,e⟩
 | .nm _::b,[],c,h=>by
   rw[za6] at h;rcases ze4 b [] c h with ⟨x,hx,e⟩|⟨w,hw,e⟩
   .exact .inl ⟨x,Qc _ hx,e⟩
   .cases hw
theorem zft(ok:GTOk g):∀{n:Nat} {d:VI},Gd g n d->∀c∈g.wordT n d,c<128
 | 0,_,h=>h.elim
 | n+1,d,h=>by
   obtain⟨a,ks,rfl,l3,ha,hl,hks⟩:=h;intro c hc;rw[zc2] at hc;rcases ze4 _ _ c hc with ⟨x,hx,e⟩|⟨w,hw,e⟩
   .exact((ok.each _ (zcf ha).2.1).2.2.2 _ hx).low c e
   .obtain⟨k,hk,rfl⟩:=Q8.mp hw;exact zft ok (hks k hk) c e
def zlo:List VI->(R->Prop)->Prop:=λds Q=>∃(g:GraZ) (u:List Nat),ds = [zao g,.str (tx u)]/\GTOk g/\WdOk u/\u.length<=6/\Q (.o (.bool true))
end L3
namespace L56
open PySem PySem.Spec
open PyProof.Rows hiding St
open L2 L3
local macro_rules | `(tactic| infer_instance)=>`(tactic| first|refine⟨_,_,rfl,rfl,?_⟩|refine⟨_,eqI,?_⟩|refine⟨_,neI,?_⟩|refine⟨_,rfl,?_⟩|refine⟨rfl,?_⟩|refine⟨(by show _ ≤ sizeLine;rw[VP];exact Nat.le_of_ble_eq_true rfl),?_⟩|refine⟨_,_,rfl,?_⟩|refine⟨_,_,_,rfl,?_⟩|refine iteT ?_|refine iteF ?_|refine Or.inl ⟨rfl,?_⟩|refine Or.inr ⟨rfl,?_⟩|refine⟨_,eqS_t (by decide +kernel),?_⟩|refine⟨_,eqS_f (by decide +kernel) (by decide +kernel),?_⟩|refine⟨_,inS_t (by decide +kernel),?_⟩|refine⟨_,inS_f (by decide +kernel),?_⟩)
theorem zt1(b n:Nat):zb8 (b:Nat) (n-b)=(Y9 b (n-b)).map λk=>Jo (k:Nat):=by
 unfold zb8;rw[Yd,QN];refine Zj λk _=>?_;show Jo (((b:Nat):Int)+((k:Nat):Int)) = .int ((b+k:Nat):Int);rw[Vw]
def endV(B:BT)(i:Int)(b k:Nat):VI:=match B.at_ (i,b,k) with
 | some v=>zfy (k,v.1,[v.2])
 | none=>.none
theorem zmx(B:BT)(i:Int)(b:Nat):∀l:List Nat,(l.filter λe=>(B.at_ (i,b,e)).isSome).map (endV B i b)=(l.filterMap λe=>(B.at_ (i,b,e)).map λv=>(e,v.1,[v.2])).map zfy
 | []=>rfl
 | k::l=>by
   have ih:=zmx B i b l;rw[ZZ,ZE]
   cases h:B.at_ (i,b,k) with
   | none=>exact ih
   | some v=>
     rw[Gm (show(some v).isSome=true from rfl),Zl,Qp,Qp,ih];unfold endV;rw[h]
section
variable {P:VO}{w:VR}{K:Qa}{mg:Str->Option VJ}{base:Heap}{k:Nat}
abbrev zd9:Stmt:=top 1
theorem zk2:FnScope ["thing", "word", "begin", "best", "ends", "end"] ["thing", "word", "begin", "best"] (zad zd9):=⟨rfl,rfl,rfl,by decide +kernel,rfl,by decide +kernel,by decide +kernel⟩
theorem zc5(B:Blt mg)(T:Top3 K mg "ways_of_thing" zd9):Def3 P w K mg base 1 "ways_of_thing" ["thing", "word", "begin", "best"] (spG K (λ_=>True) 4 zn4):=by
 refine mk_G T zk2 (λ_ _ _ _ _ _ us hl=>len4 hl λ_ _ _ _=>rfl) rfl λf cdv A outer s H E O hφ C=>⟨_,(zah (s_if (zcj (zdq (T := "int") C B (zaa 0) B.int)) (zah (zmb 4 1 ["end", "thing", "word", "begin", "best", "ends", ".end"] C (λ_=>.of rfl (by kernel_rfl)) (i_r2 C B (zab (zaa 2) (zab (zbg C (zb1 C B (zab (zaa 1) zae)) zag) zae))) (za2 0) (zis (zmn 4 (C.comp _ _) (zc1 (zab (zaa 1) (zab (zaa 3) (zab (zaa 0) zae)))))) (zaa 0)) (zaj (zbb (zb4 1 ["end", "thing", "word", "begin", "best", "ends", ".end"] C (λ_=>.of rfl (by kernel_rfl)) (zco C (zaa 4)) (za2 0) zde (zbg (C.comp _ _) (zbw (zab (zaa 0) zae)) (zgj 4 (C.comp _ _) (zc1 (zab (zaa 1) (zab (zaa 3) (zab (zaa 0) zae)))))))))) zbu) (zah (za7 5 (e_if (t_eq C (zcx C (zaa 1) (zcc (zaa 2)) (zcc (zbg C (zaa 2) zag))) (zaa 0)) (zbg C (zaa 2) zag) (zaa 2))) (zaj (zbb (zg0 (zab (zbw (zab (zaa 5) (zab zag (zab (zbw zae) zae)))) zae)))))),λrs Qr hn q=>?_⟩;obtain⟨t,n,w,b,p,B,rfl,ht,hw,hb,hB,q⟩:=q;have sz:=VP;have hl:=hw.len;have ll:=zd2 (w:=w) (by lia)
 ac_rfl
 cases t with
 | nm i=>
   refine iteT ?_
   (repeat first|refine⟨_,ll,?_⟩|refine⟨ll,?_⟩|infer_instance)
   refine⟨by lia,?_⟩;have en:(((w.length:Int)+1)-(b:Int)).toNat=w.length+1-b:=by lia
   show zau 1 (gN 0) _ _ _ _ (zb8 (b:Nat) (((w.length:Int)+1)-(b:Int)).toNat) [];rw[en,zt1];refine ze9 (p:=λe=>(B.at_ (i,b,e)).isSome) (e:=λk=>Jo (k:Nat)) (λe he Pn Py hn hy=>?_) (by rw[JW];lia) ?_
   .refine⟨_,⟨p,.inr rfl⟩,?_⟩
    ac_rfl
    refine⟨prtK (i,b,e),rfl,_,rfl,?_⟩;show if(if false=true then _ else((zak zav B).at_ (prtK (i,b,e))).isSome)=true then _ else _;rw[Gn Qo,zbr,Zg]
    cases h:(B.at_ (i,b,e)).isSome with
    | true=>rw[Gm rfl];ac_rfl;exact hy h _ rfl
    | false=>rw[Gn Qo];exact hn h
   refine⟨zbc (λ_=>rfl) _,?_⟩
   ac_rfl
   refine zgw (e:=endV B i b) (λe he Py hy=>?_) (Q3 (Y3 _ _) (by rw[JW];lia)) ?_
   .obtain⟨_,he⟩:=Jh.mp he;obtain⟨v,hv⟩:=Zk.mp he
    ac_rfl
    refine⟨_,⟨p,.inr rfl⟩,?_⟩
    ac_rfl
    refine⟨prtK (i,b,e),rfl,zav v,by rw[zbr,hv];rfl,?_⟩;have ad:addF (.tuple [.int (e:Nat)]) (zav v)=some (.o (zfy (e,v.1,[v.2]))):=znx (by show 1+2<=16777216;decide)
    (repeat first|refine⟨_,ad,?_⟩|refine⟨ad,?_⟩|infer_instance)
    exact hy _ (by unfold endV;rw[hv];rfl)
   .rw[zmx];exact q
 | lt x=>
   refine iteF ?_
   have sx:slcF (some ((b:Nat):Int)) (some ((b:Int)+1)) (.str (tx w))=some (.o (.str (tx ((w.drop b).take 1)))):=by
    rw[zh1 (by lia),show((b:Int)+1)=((b+1:Nat):Int) from rfl,zhf,JV];rw[show b+1-b=1 by lia]
   have ex:eqF false (.str (tx ((w.drop b).take 1))) (.str (tx x))=some (.o (.bool (decide ((w.drop b).take 1=x)))):=by
    rw[zi7 (zgt λc hc=>hw.low c (ZW (Zv hc))) (zgt ht.low),Gn Qo,zm3]
   (repeat first|refine⟨_,sx,?_⟩|refine⟨sx,?_⟩|refine⟨_,ex,?_⟩|refine⟨ex,?_⟩|infer_instance)
   have q':Qr (.n ([(if(w.drop b).take 1=x then b+1 else b,0,([]:List VI))].map zfy)):=q;refine iteB (λz=>?_) λz=>?_
   .rw[Gm (Go z)] at q'
    ac_rfl
    exact q'
   .rw[Gn (Gw z)] at q'
    ac_rfl
    exact q'
end
section
variable {P:VO}{w:VR}{K:Qa}{mg:Str->Option VJ}{base:Heap}{k:Nat}
abbrev zen:Stmt:=top 2
theorem zmj:FnScope ["body", "word", "begin", "best", "ways", "thing", "longer", "place", "way", "end", "size", "kids"] ["body", "word", "begin", "best"] (zad zen):=⟨rfl,rfl,rfl,by decide +kernel,rfl,by decide +kernel,by decide +kernel⟩
theorem zda(B:Blt mg)(zc5:Def3 P w K mg base 1 "ways_of_thing" ["thing", "word", "begin", "best"] (spG K (λ_=>True) 4 zn4))(T:Top3 K mg "ways_of_body" zen):Def3 P w K mg base 2 "ways_of_body" ["body", "word", "begin", "best"] (spKG K (λ_=>True) 4 zrk):=by
 refine z1z T zmj (λ_ _ _ _ _ _ us hl=>len4 hl λ_ _ _ _=>rfl) rfl λf cdv A outer s H E O hφ C=>⟨_,(zf1 (znp 4 (zaa 2) (zbw (zab zag (zab (zbw zae) zae)))) (zf1 (zbh C (zbx (zfl C (zaa 0))) (za2 (h:=1000) 5) (zah (zjv 6) (zah (ze3 4 C (zbh C (zg4 4 C) (zdt (h:=1000) C (zax 7 (zax 8 zcg))) (zaj (zbh C (zbx (zco C (zg1 C zc5 (λ_=>trivial) (g_im (zaa 5) (g_im (zaa 1) (g_im (zaa 7) (zid 3 zie))))))) (zdt (h:=1000) C (zax 9 (zax 10 (zax 11 zcg)))) (zaj (s_if (t_w (w_or (znm 6 C (zaa 9)) (zgp (t_lt (zbg C (zal C (zaa 8) zag) (zaa 10)) (zal C (zji 6 C (zaa 9)) zag))))) (zaj (zmf 6 C (zbw (zab (zbg C (zal C (zaa 8) zag) (zaa 10)) (zab (zbg C (zal C (zaa 8) zag) (zaa 11)) zae))) (zaa 9))) zbu)))))) (zaj (zrg 4 6))))) (zu5 4))),λrs Qk hn q=>?_⟩;obtain⟨r,n,u,b,p,B,rfl,ht,hr,hw,hb,hB,q⟩:=q;have sz:=VP;have hl:=hw.len
 ac_rfl
 refine zaq (λj ρ=>∃(W:WT) (o5 o7 o8 o9 o10 o11:Option DV),ρ = [some (.im (.tuple (r.map zan))),some (.im (.str (tx u))),some (.im (.int (b:Nat))),some (.thr (DctP p (zak zav B))),some (.thg (DctN (encW zar W))),o5,none,o7,o8,o9,o10,o11]/\W=(r.take j).foldl (zcq B u) [(b,1,[])]/\WtOk u j W) ⟨[(b,1,[])],none,none,none,none,none,none,rfl,rfl,zr7 hb⟩ (λρ hρ=>?_) λj d ρ N hd nx hρ=>?_
 .obtain⟨W,o5,o7,o8,o9,o10,o11,rfl,e,_⟩:=hρ;rw[Qb,QX] at e;subst e;exact⟨_,rfl,q⟩
 .obtain⟨W,o5,o7,o8,o9,o10,o11,rfl,e,ok⟩:=hρ;rw[Qj] at hd;obtain⟨t,htj,rfl⟩:=Qf.mp hd;have tr:=ht t (Qw htj);refine⟨by cases t <;> rfl,?_⟩
  ac_rfl
  refine zaq (λj2 ρ=>∃(acc:WT) (o7 o8 o9 o10 o11:Option DV),ρ = [some (.im (.tuple (r.map zan))),some (.im (.str (tx u))),some (.im (.int (b:Nat))),some (.thr (DctP p (zak zav B))),some (.thr (DctK P w (encW zar W))),some (.im (zan t)),some (.thg (DctN (encW zar acc))),o7,o8,o9,o10,o11]/\acc=zcq B u (W.take j2) t/\WtOk u (j+1) acc) ⟨[],o7,o8,o9,o10,o11,rfl,rfl,zrl⟩ (λρ hρ=>?_) λj2 d ρ N2 hd2 nx2 hρ=>?_
  .obtain⟨acc,o7,o8,o9,o10,o11,rfl,e2,ok2⟩:=hρ
   have e3:acc=zcq B u W t:=by
    rw[e2,Qb,show(encW zar W).length=W.length from Qb ..,QX]
   refine⟨_,rfl,nx _ ⟨acc,_,_,_,_,_,_,rfl,?_,ok2⟩⟩;rw[zby htj,QO,<- e,e3];rfl
  .obtain⟨acc,o7,o8,o9,o10,o11,rfl,e2,ok2⟩:=hρ;rw[Qj,encW,Qj] at hd2;obtain⟨x,hx,rfl⟩:=Qf.mp hd2;obtain⟨pw,hpw,rfl⟩:=Qf.mp hx;have pm:=Qw hpw;refine⟨by show(true && (true && (flats pw.2.2 && true)) && true)=true;rw[ok.fl _ pm];rfl,?_⟩
   ac_rfl
   refine⟨_,.inr rfl,rfl,t,n,u,pw.1,p,B,rfl,tr,hw,ok.le _ pm,hB,_,rfl,rfl,?_⟩;refine zaq (λj3 ρ=>∃(ac:WT) (o9 o10 o11:Option DV),ρ = [some (.im (.tuple (r.map zan))),some (.im (.str (tx u))),some (.im (.int (b:Nat))),some (.thr (DctP p (zak zav B))),some (.thr (DctK P w (encW zar W))),some (.im (zan t)),some (.thg (DctN (encW zar ac))),some (.im (.int (pw.1:Nat))),some (.im (zar pw.2)),o9,o10,o11]/\ac=zcr acc (((zcu B u pw.1 t).take j3).map λe=>(e.1,pw.2.1+e.2.1,pw.2.2++e.2.2))/\WtOk u (j+1) ac) ⟨acc,o9,o10,o11,rfl,rfl,ok2⟩ (λρ hρ=>?_) λj3 d ρ N3 hd3 nx3 hρ=>?_
   .obtain⟨ac,o9,o10,o11,rfl,e3,ok3⟩:=hρ;rw[Qb,QX] at e3;refine nx2 _ ⟨ac,_,_,_,_,_,rfl,?_,ok3⟩;rw[e3,zby hpw];unfold zcq;rw[QO,<- zcq,<- e2];rfl
   .obtain⟨ac,o9,o10,o11,rfl,e3,ok3⟩:=hρ;rw[Qj] at hd3;obtain⟨en,hen,rfl⟩:=Qf.mp hd3;have em:=Qw hen;have ef:=zkr hB _ em;have k1:=zol _ em;have k2:=ok.kl _ pm;have jl:j<r.length:=(Qx.mp htj).1;have el:=zof tr (ok.le _ pm) _ em;refine⟨by show(true && (true && (flats en.2.2 && true)))=true;rw[ef];rfl,?_⟩
    ac_rfl
    show ifS _ _ _ _ [some (.im (.tuple (r.map zan))),some (.im (.str (tx u))),some (.im (.int (b:Nat))),some (.thr (DctP p (zak zav B))),some (.thr (DctK P w (encW zar W))),some (.im (zan t)),some (.thg (DctN (encW zar ac))),some (.im (.int (pw.1:Nat))),some (.im (zar pw.2)),some (.im (.int (en.1:Nat))),some (.im (.int (en.2.1:Nat))),some (.im (.tuple en.2.2))];have A:=zi8 (f:=zar) (l:=ac) (p:=en.1)
    have nxt:N3 [some (.im (.tuple (r.map zan))),some (.im (.str (tx u))),some (.im (.int (b:Nat))),some (.thr (DctP p (zak zav B))),some (.thr (DctK P w (encW zar W))),some (.im (zan t)),some (.thg (DctN (encW zar (minP ac en.1 (pw.2.1+en.2.1,pw.2.2++en.2.2))))),some (.im (.int (pw.1:Nat))),some (.im (zar pw.2)),some (.im (.int (en.1:Nat))),some (.im (.int (en.2.1:Nat))),some (.im (.tuple en.2.2))]:=by
     refine nx3 _ ⟨_,_,_,_,rfl,?_,ok3.min el ?_ (by show(pw.2.2++en.2.2).length<=_;rw[Qi];lia)⟩
     .rw[zby hen,Q6];unfold zcr;rw[QO];show _=zcr (zcr acc _) _;rw[<- e3];rfl
     .show flats (pw.2.2++en.2.2)=true;rw[zdr,ok.fl _ pm,ef];rfl
    have lt:=ok3.len;have ll:(encW zar ac).length=ac.length:=Qb ..;have i0:idxF (zar pw.2) (.int 0)=some (.o (.int (pw.2.1:Nat))):=rfl;have i1:idxF (zar pw.2) (.int 1)=some (.o (.tuple pw.2.2)):=rfl;have a0:addF (.int (pw.2.1:Nat)) (.int (en.2.1:Nat))=some (.o (.int ((pw.2.1+en.2.1:Nat):Int))):=rfl;have fk:flats (pw.2.2++en.2.2)=true:=by rw[zdr,ok.fl _ pm,ef];rfl
    have a1:addF (.tuple pw.2.2) (.tuple en.2.2)=some (.o (.tuple (pw.2.2++en.2.2))):=znx (by lia);refine⟨encW zar ac,.inl rfl,?_⟩
    ac_rfl
    show if(!((encW zar ac).at_ ((en.1:Nat):Int)).isSome)=true then _ else _;rw[A,Zg]
    cases h:ac.at_ en.1 with
    | none=>
      have hm:minP ac en.1 (pw.2.1+en.2.1,pw.2.2++en.2.2)=ac.put en.1 (pw.2.1+en.2.1,pw.2.2++en.2.2):=by unfold minP;rw[h]
      rw[hm,<- zhw] at nxt;refine iteT (iteT ?_)
      (repeat first|refine⟨_,i0,?_⟩|refine⟨i0,?_⟩|refine⟨_,i1,?_⟩|refine⟨i1,?_⟩|refine⟨_,a0,?_⟩|refine⟨a0,?_⟩|refine⟨_,a1,?_⟩|refine⟨a1,?_⟩|infer_instance)
      exact⟨by show(true && (flats (pw.2.2++en.2.2) && true))=true;rw[fk];rfl,by rw[ll];lia,nxt⟩
    | some x=>
      have ix:idxF (zar x) (.int 0)=some (.o (.int (x.1:Nat))):=rfl;refine iteF ?_
      (repeat first|refine⟨_,i0,?_⟩|refine⟨i0,?_⟩|refine⟨_,i1,?_⟩|refine⟨i1,?_⟩|refine⟨_,a0,?_⟩|refine⟨a0,?_⟩|refine⟨_,a1,?_⟩|refine⟨a1,?_⟩|infer_instance)
      refine⟨_,.inl rfl,?_⟩
      ac_rfl
      refine⟨_,zar x,rfl,by rw[A,h];rfl,?_⟩
      (repeat first|refine⟨_,ix,?_⟩|refine⟨ix,?_⟩|infer_instance)
      refine iteB (λz=>?_) λz=>?_
      .have z:=Go z;have hm:minP ac en.1 (pw.2.1+en.2.1,pw.2.2++en.2.2)=ac.put en.1 (pw.2.1+en.2.1,pw.2.2++en.2.2):=by unfold minP;rw[h];exact Gm (by show pw.2.1+en.2.1<x.1;lia)
       rw[hm,<- zhw] at nxt
       (repeat first|refine⟨_,i0,?_⟩|refine⟨i0,?_⟩|refine⟨_,i1,?_⟩|refine⟨i1,?_⟩|refine⟨_,a0,?_⟩|refine⟨a0,?_⟩|refine⟨_,a1,?_⟩|refine⟨a1,?_⟩|infer_instance)
       exact⟨by show(true && (flats (pw.2.2++en.2.2) && true))=true;rw[fk];rfl,by rw[ll];lia,nxt⟩
      .have z:=Gw z;have hm:minP ac en.1 (pw.2.1+en.2.1,pw.2.2++en.2.2)=ac:=by unfold minP;rw[h];exact Gn (by show ¬pw.2.1+en.2.1<x.1;lia)
       rw[hm] at nxt;exact nxt
end
section
variable {P:VO}{w:VR}{K:Qa}{mg:Str->Option VJ}{base:Heap}{k:Nat}
abbrev zep:Stmt:=top 3
theorem zl0:FnScope ["grammar", "word", "best", "found", "number", "rule", "begin", "ways", "end", "way", "part"] ["grammar", "word", "best"] (zad zep):=⟨rfl,rfl,rfl,by decide +kernel,rfl,by decide +kernel,by decide +kernel⟩
theorem zdo(B:Blt mg)(zda:Def3 P w K mg base 2 "ways_of_body" ["body", "word", "begin", "best"] (spKG K (λ_=>True) 4 zrk))(T:Top3 K mg "find_better" zep):Def3 P w K mg base 3 "find_better" ["grammar", "word", "best"] (spU K 2 zu2):=by
 refine mk_U T zl0 (λ_ _ _ _ _ _ us hl=>len3 hl λ_ _ _=>rfl) rfl λf cdv A outer s H E O C=>⟨_,(zre (za7 3 e_bl) (zre (zbh C (zbx (zgi C B (zal C (zaa 0) zag))) (zdt (h:=1000) C (zax 4 (zax 5 zcg))) (zaj (zbh C (zbx (i_r1 C B (zab (zbg C (zb1 C B (zab (zaa 1) zae)) zag) zae))) (za2 (h:=1000) 6) (zah (zxv 7 C zda (λ_=>trivial) (g_im (zal C (zaa 5) zag) (g_im (zaa 1) (g_im (zaa 6) (zid 2 zie))))) (zaj (ze3 7 C (zbh C (zg4 7 C) (zdt (h:=1000) C (zax 8 (zax 9 zcg))) (zah (zn9 10 (zc1 (zab (zal C (zaa 5) zag) (zab (zaa 6) (zab (zaa 8) zae))))) (zaj (s_if (t_w (w_or (zw2 2 C (zgc 10)) (zgp (t_lt (zal C (zaa 9) zag) (zal C (zgj 2 C (zgc 10)) zag))))) (zah (zok 2 C (zbw (zab (zal C (zaa 9) zag) (zab (zbw (zab (zbw (zab (zaa 4) (zab (zal C (zaa 9) zag) zae))) zae)) zae))) (zgc 10)) (zaj (za7 3 e_bl))) zbu)))))))))) (z0w 2 (zaa 3)))),λv0 ds kvs Qk hn q=>?_⟩;obtain⟨g,u,B,rfl,rfl,hg,hw,hB,q⟩:=q;have sz:=VP;have hl:=hw.len;have ll:=zd2 (w:=u) (by lia)
 ac_rfl
 refine⟨zbc (λr=>zcl r) _,rfl,?_⟩;refine zaq (λj ρ=>∃(s:BT×Bool) (o4 o5 o6 o7 o8 o9 o10:Option DV),ρ = [some (.im (zao g)),some (.im (.str (tx u))),some (.thg (DctP (λv=>v=v0) (zak zav s.1))),some (.im (.bool s.2)),o4,o5,o6,o7,o8,o9,o10]/\s=(g.rs.zipIdx.take j).foldl (λs r=>(QL (u.length+1)).foldl (zdd u r) s) (B,false)/\BtOk g u s.1) ⟨(B,false),none,none,none,none,none,none,none,rfl,rfl,hB⟩ (λρ hρ=>?_) λj d ρ N hd nx hρ=>?_
 .obtain⟨s,o4,o5,o6,o7,o8,o9,o10,rfl,e,_⟩:=hρ;rw[zkt,Qb,Zy (by rw[JX];lia)] at e;have es:s=zaz g u B:=e;subst es;refine⟨_,rfl,?_⟩
  ac_rfl
  exact q
 .obtain⟨s,o4,o5,o6,o7,o8,o9,o10,rfl,e,ok⟩:=hρ;obtain⟨z,hz,rfl⟩:=zj9 hd;rw[Qj] at hz;obtain⟨r,hr,rfl⟩:=Qf.mp hz;have rm:=Qw hr;obtain⟨⟨r0,r1⟩,r2,r3,r4⟩:=hg.each r rm;have zr:g.rs.zipIdx[j]? = some (r,j):=by rw[ZB,hr];simp
  refine⟨by show(true && (flat (zbd r) && true))=true;rw[zcl];rfl,?_⟩
  (repeat first|refine⟨_,ll,?_⟩|refine⟨ll,?_⟩|infer_instance)
  refine⟨by lia,by lia,rfl,?_⟩;have en:((u.length:Int)+1).toNat=u.length+1:=by lia
  refine zaq (λb ρ=>∃(s2:BT×Bool) (o6 o7 o8 o9 o10:Option DV),ρ = [some (.im (zao g)),some (.im (.str (tx u))),some (.thg (DctP (λv=>v=v0) (zak zav s2.1))),some (.im (.bool s2.2)),some (.im (.int (j:Nat))),some (.im (zbd r)),o6,o7,o8,o9,o10]/\s2=(QL b).foldl (zdd u (r,j)) s/\BtOk g u s2.1) ⟨s,o6,o7,o8,o9,o10,rfl,rfl,ok⟩ (λρ hρ=>?_) λb d ρ N2 hd2 nx2 hρ=>?_
  .obtain⟨s2,o6,o7,o8,o9,o10,rfl,e2,ok2⟩:=hρ;rw[zdm,en] at e2;refine nx _ ⟨s2,_,_,_,_,_,_,_,rfl,?_,ok2⟩;rw[e2,zby zr,QO,<- e];rfl
  .obtain⟨s2,o6,o7,o8,o9,o10,rfl,e2,ok2⟩:=hρ;obtain⟨hb,rfl⟩:=zcv hd2;have bl:b<=u.length:=by lia
   have b0:(0:Int)+(b:Nat)=(b:Nat):=Int.zero_add _;rw[b0];have wt:=zop (u:=u) (b:=b) ok2.fl bl r4;refine⟨rfl,?_⟩
   ac_rfl
   refine⟨_,.inl rfl,rfl,r.b,g.n,u,b,_,s2.1,rfl,r4,by lia,hw,bl,ok2.fl,?_⟩
   ac_rfl
   have sl:zdf s2.1 u b r.b=zdf s2.1 u b r.b:=rfl;generalize hW:zdf s2.1 u b r.b=W at wt;refine zaq (λi ρ=>∃(s3:BT×Bool) (o8 o9 o10:Option DV),ρ = [some (.im (zao g)),some (.im (.str (tx u))),some (.thg (DctP (λv=>v=v0) (zak zav s3.1))),some (.im (.bool s3.2)),some (.im (.int (j:Nat))),some (.im (zbd r)),some (.im (.int (b:Nat))),some (.thr (DctK P w (encW zar W))),o8,o9,o10]/\s3=(W.take i).foldl (λs e=>updP s (r.n,b,e.1) (e.2.1,zam (j:Nat) e.2.2)) s2/\BtOk g u s3.1) ⟨s2,o8,o9,o10,rfl,rfl,ok2⟩ (λρ hρ=>?_) λi d ρ N3 hd3 nx3 hρ=>?_
   .obtain⟨s3,o8,o9,o10,rfl,e3,ok3⟩:=hρ;rw[Qb,show(encW zar W).length=W.length from Qb ..,QX] at e3;refine nx2 _ ⟨s3,_,_,_,_,_,rfl,?_,ok3⟩;rw[e3,Yw,QO,<- e2];show _=zdd u (r,j) s2 b;unfold zdd;rw[hW]
   .obtain⟨s3,o8,o9,o10,rfl,e3,ok3⟩:=hρ;rw[Qj,encW,Qj] at hd3;obtain⟨x,hx,rfl⟩:=Qf.mp hd3;obtain⟨pw,hpw,rfl⟩:=Qf.mp hx;have pm:=Qw hpw;have pf:=wt.fl _ pm;have pl:=wt.le _ pm;refine⟨by show(true && (true && (flats pw.2.2 && true)) && true)=true;rw[pf];rfl,?_⟩
    ac_rfl
    refine⟨prtK (r.n,b,pw.1),rfl,?_⟩;dsimp only;show ifS _ _ _ _ [some (.im (zao g)),some (.im (.str (tx u))),some (.thg (DctP (λv=>v=v0) (zak zav s3.1))),some (.im (.bool s3.2)),some (.im (.int (j:Nat))),some (.im (zbd r)),some (.im (.int (b:Nat))),some (.thr (DctK P w (encW zar W))),some (.im (.int (pw.1:Nat))),some (.im (zar pw.2)),some (.thr (TupT (prtK (r.n,b,pw.1))))];have A:=zbr (f:=zav) (l:=s3.1) (p:=(r.n,b,pw.1));have fv:flat (zam (j:Nat) pw.2.2)=true:=by show(true && (flats pw.2.2 && true))=true;rw[pf];rfl
    have lenB:=ok3.len hg.n3;have lB:(zak zav s3.1).length=s3.1.length:=Qb ..;have ok4:BtOk g u (s3.1.put (r.n,b,pw.1) (pw.2.1,zam (j:Nat) pw.2.2)):=ok3.put ⟨⟨r0,r1⟩,bl,pl⟩ fv
    have nxt:N3 [some (.im (zao g)),some (.im (.str (tx u))),some (.thg (DctP (λv=>v=v0) (zak zav (updP s3 (r.n,b,pw.1) (pw.2.1,zam (j:Nat) pw.2.2)).1))),some (.im (.bool (updP s3 (r.n,b,pw.1) (pw.2.1,zam (j:Nat) pw.2.2)).2)),some (.im (.int (j:Nat))),some (.im (zbd r)),some (.im (.int (b:Nat))),some (.thr (DctK P w (encW zar W))),some (.im (.int (pw.1:Nat))),some (.im (zar pw.2)),some (.thr (TupT (prtK (r.n,b,pw.1))))]:=by
     refine nx3 _ ⟨updP s3 (r.n,b,pw.1) (pw.2.1,zam (j:Nat) pw.2.2),_,_,_,rfl,?_,?_⟩
     .rw[zby hpw,QO,<- e3];rfl
     .unfold updP
      split
      .exact ok4
      .split
       .exact ok4
       .exact ok3
    have lt1:(zak zav s3.1).length<sizeLine:=by
     have:=V3 (show u.length+1<=1001 by lia) (show u.length+1<=1001 by lia);rw[lB];lia
    have fe:flat (zav (pw.2.1,zam (j:Nat) pw.2.2))=true:=by show(true && ((flat (zam (j:Nat) pw.2.2) && true) && true))=true;rw[fv];rfl
    have i0:idxF (zar pw.2) (.int 0)=some (.o (.int (pw.2.1:Nat))):=rfl;have i1:idxF (zar pw.2) (.int 1)=some (.o (.tuple pw.2.2)):=rfl;refine⟨_,⟨_,.inl rfl⟩,_,rfl,_,rfl,?_⟩;show if(!((zak zav s3.1).at_ (prtK (r.n,b,pw.1))).isSome)=true then _ else _;rw[A,Zg]
    cases h:s3.1.at_ (r.n,b,pw.1) with
    | none=>
      have hm:updP s3 (r.n,b,pw.1) (pw.2.1,zam (j:Nat) pw.2.2)=(s3.1.put (r.n,b,pw.1) (pw.2.1,zam (j:Nat) pw.2.2),true):=by unfold updP;rw[h]
      rw[hm,<- ze5] at nxt;refine iteT (iteT ?_)
      (repeat first|refine⟨_,i0,?_⟩|refine⟨i0,?_⟩|refine⟨_,i1,?_⟩|refine⟨i1,?_⟩|infer_instance)
      exact⟨fe,lt1,rfl,nxt⟩
    | some x=>
      have ix:idxF (zav x) (.int 0)=some (.o (.int (x.1:Nat))):=rfl;refine iteF ?_
      (repeat first|refine⟨_,i0,?_⟩|refine⟨i0,?_⟩|refine⟨_,i1,?_⟩|refine⟨i1,?_⟩|infer_instance)
      refine⟨_,⟨_,.inl rfl⟩,_,rfl,zav x,by rw[A,h];rfl,?_⟩
      (repeat first|refine⟨_,ix,?_⟩|refine⟨ix,?_⟩|infer_instance)
      refine iteB (λz=>?_) λz=>?_
      .have z:=Go z;have hm:updP s3 (r.n,b,pw.1) (pw.2.1,zam (j:Nat) pw.2.2)=(s3.1.put (r.n,b,pw.1) (pw.2.1,zam (j:Nat) pw.2.2),true):=by unfold updP;rw[h];exact Gm (by show pw.2.1<x.1;lia)
       rw[hm,<- ze5] at nxt
       (repeat first|refine⟨_,i0,?_⟩|refine⟨i0,?_⟩|refine⟨_,i1,?_⟩|refine⟨i1,?_⟩|infer_instance)
       exact⟨fe,lt1,rfl,nxt⟩
      .have z:=Gw z;have hm:updP s3 (r.n,b,pw.1) (pw.2.1,zam (j:Nat) pw.2.2)=s3:=by unfold updP;rw[h];exact Gn (by show ¬pw.2.1<x.1;lia)
       rw[hm] at nxt;exact nxt
end
section
variable {P:VO}{w:VR}{K:Qa}{mg:Str->Option VJ}{base:Heap}{k:Nat}
abbrev zfg:Stmt:=top 4
theorem znh:FnScope ["grammar", "word", "best", "whole"] ["grammar", "word"] (zad zfg):=⟨rfl,rfl,rfl,by decide +kernel,rfl,by decide +kernel,by decide +kernel⟩
theorem zea(B:Blt mg)(zdo:Def3 P w K mg base 3 "find_better" ["grammar", "word", "best"] (spU K 2 zu2))(T:Top3 K mg "tree_above" zfg):Def3 P w K mg base 4 "tree_above" ["grammar", "word"] (spO K (λ_=>True) 2 zqu):=by
 refine mk_O T znh (λ_ _ _ _ _ _ us hl=>len2 hl λ_ _=>rfl) rfl λf cdv A outer s H E O hφ C=>⟨_,(zah (zn1 2) (zah (z1q 2 C zdo (zos (zaa 0) (zos (zaa 1) (zxb 2)))) (zah (zn9 3 (zc1 (zab zag (zab zag (zab (zb1 C B (zab (zaa 1) zae)) zae))))) (zaj (zbb (e_if (zmn 2 C (zgc 3)) (zal C (zal C (zgj 2 C (zgc 3)) zag) zag) zgq)))))),λds Qr hn q=>?_⟩;obtain⟨g,u,rfl,hg,hw,q⟩:=q;have sz:=VP;have hl:=hw.len;have ll:=zd2 (w:=u) (by lia);obtain⟨N0,hN0⟩:=zyg hg (u:=u) _ [] zil (Qe _);refine⟨λN kv=>∃B,kv=zak zav B/\BtOk g u B/\ReachP g u B/\zic g u N B,⟨N0,[],rfl,[],rfl,zil,.nil,hN0⟩,λN kv hJ=>?_⟩;obtain⟨B,rfl,ok,re,en⟩:=hJ
 ac_rfl
 obtain⟨st,ok2⟩:=zcw hg ok;refine⟨by show(flat (zao g) && (true && true))=true;rw[zd0];rfl,g,u,B,rfl,rfl,hg,hw,ok,_,rfl,?_⟩
 cases h:(zaz g u B).2 with
 | true=>
   rw[Gm rfl]
   cases N with
   | zero=>exact absurd (show(zaz g u B).2=false from en) (by rw[h];exact Yl)
   | succ N=>
     rcases en with en|en
     .exact absurd en (by rw[h];exact Yl)
     .exact⟨N,Yg N,_,rfl,ok2,.pass re,en⟩
 | false=>
   rw[Gn Qo];have q1:=q B ok re h
   (repeat first|refine⟨_,ll,?_⟩|refine⟨ll,?_⟩|infer_instance)
   refine⟨prtK (0,0,u.length),rfl,?_⟩;generalize (zaz g u B).1=B2 at q1;have A:=zbr (f:=zav) (l:=B2) (p:=(0,0,u.length));refine⟨_,⟨_,.inl rfl⟩,_,rfl,_,rfl,?_⟩;show if(if false=true then _ else((zak zav B2).at_ (prtK (0,0,u.length))).isSome)=true then _ else _;rw[Gn Qo,A,Zg]
   cases h2:B2.at_ (0,0,u.length) with
   | none=>
     rw[h2] at q1;rw[Gn (by simp)];exact q1
   | some v=>
     rw[h2] at q1;rw[Gm (show(some v).isSome=true from rfl)];refine⟨_,⟨_,.inl rfl⟩,_,rfl,zav v,by rw[A,h2];rfl,?_⟩;exact⟨_,rfl,_,rfl,q1⟩
end
section
variable {P:VO}{w:VR}{K:Qa}{mg:Str->Option VJ}{base:Heap}{k:Nat}
abbrev zjg:Stmt:=top 8
theorem zt7:FnScope ["_law_found"] ["_law_found"] (zad zjg):=⟨rfl,rfl,rfl,by decide +kernel,rfl,by decide +kernel,by decide +kernel⟩
theorem zb6(B:Blt mg)(T:Top3 K mg "_law_whole" zjg):Def3 P w K mg base 1 "_law_whole" ["_law_found"] (spO K (λ_=>True) 1 zjf):=by
 refine mk_O T zt7 (λ_ _ _ _ _ _ us hl=>len1 hl λ_=>rfl) rfl λf cdv A outer s H E O hφ C=>⟨_,(zaj (zbb (zvx (zdq (T := "int") C B (zaa 0) B.int) (zu1 (z1d (zdq (T := "bool") C B (zaa 0) B.bool)))))),λds Qr hn q=>?_⟩;obtain⟨d,rfl,q⟩:=q;rcases q with ⟨i,rfl,q⟩|⟨x,rfl,q⟩
 .ac_rfl
  exact q
 .ac_rfl
  exact q
end
theorem zuo(bs:List GThg)(t:GThg):((bs ++ [t]).filter GThg.isN).length=(bs.filter GThg.isN).length+(if t.isN=true then 1 else 0):=by
 rw[YM,Qi];cases t <;> rfl
section
variable {P:VO}{w:VR}{K:Qa}{mg:Str->Option VJ}{base:Heap}{k:Nat}
abbrev zf9:Stmt:=top 10
theorem zpu:FnScope ["_law_deal_here", "_law_letters_here", "_law_names", "_law_rules", "_law_k", "_law_body", "_law_j", "_law_thing"] ["_law_deal_here", "_law_letters_here"] (zad zf9):=⟨rfl,rfl,rfl,by decide +kernel,rfl,by decide +kernel,by decide +kernel⟩
theorem zdp(B:Blt mg)(d_law_draw:zgx P w K mg base)(T:Top3 K mg "_law_grammar" zf9):Def3 P w K mg base 2 "_law_grammar" ["_law_deal_here", "_law_letters_here"] (spD K IsDeal 1 (zlx 7)):=by
 refine mk_D T zpu (λ_ _ _ _ _ _ us hl=>len2 hl λ_ _=>rfl) rfl λf cdv A outer s H E O hφ C=>?_;have hO:∀j:Unit,IsDeal ((λ_:Unit=>O) j):=λ_=>hφ;refine⟨_,(zah (za7 2 (zbg C zag (zbl 0 C d_law_draw hO (zab zag zae)))) (zah (za7 3 (zg0 zae)) (zah (zbh C (zbx (i_r1 C B (zab (zbl 0 C d_law_draw hO (zab zag zae)) zae))) (za2 (h:=1000) 4) (zah (za7 5 (zg0 zae)) (zah (zbh C (zbx (i_r1 C B (zab (zbl 0 C d_law_draw hO (zab zag zae)) zae))) (za2 (h:=1000) 6) (zah (za7 7 (zal C (zaa 1) (zbl 0 C d_law_draw hO (zab (zb1 C B (zab (zaa 1) zae)) zae)))) (zah (s_if (t_w (zoy (t_eq C (zbl 0 C d_law_draw hO (zab zag zae)) zag) (zl4 (t_lt (zb1 C B (zab (zb4 1 ["_law_one", "_law_deal_here", "_law_letters_here", "_law_names", "_law_rules", "_law_k", "_law_body", "_law_j", "_law_thing"] C (λ_=>.of rfl (by kernel_rfl)) (zco C (zaa 5)) (za2 0) (zis (zef (zcj (zdq (T := "str") (C.comp _ _) B (zaa 0) B.str)))) (zaa 0)) zae)) zag)))) (zaj (za7 7 (zbl 0 C d_law_draw hO (zab (zaa 2) zae)))) zbu) (zaj (zk8 5 C (zaa 7)))))) (zaj (zk8 3 C (zbw (zab (zbl 0 C d_law_draw hO (zab (zaa 2) zae)) (zab (ze7 C B (zab (zaa 5) zae)) zae)))))))) (zaj (zbb (zbw (zab (zaa 2) (zab (ze7 C B (zab (zaa 3) zae)) zae)))))))),λds Qr hn q=>?_⟩;obtain⟨ls,rfl,l1,l26,hlow,q⟩:=q;have sz:=VP
 have hll:lenF [Vs (ls.map λc=>.str (sg c))]=some (.o (.int (ls.length:Nat))):=by
  show some (R.o (.int ((ls.map λc=>Yq (sg c)).length:Nat)))=_;rw[Qb]
 ac_rfl
 refine dr (by decide) (by decide) λk1 hk1=>?_
 ac_rfl
 refine dr (by decide) (by decide) λk2 hk2=>?_
 ac_rfl
 refine⟨by lia,by lia,rfl,?_⟩;refine zaq (λj ρ=>∃(rs:List RuG) (rd:List VI) (o4 o5 o6 o7:Option DV),ρ = [some .ob,some (.im (.list (ls.map λc=>.str (sg c)))),some (.im (.int (1+(k1:Nat)))),some (.own rd),o4,o5,o6,o7]/\rd=rs.map zbd/\rs.length=j/\∀r∈rs,0<=r.n/\r.n<1+(k1:Int)/\r.b.length<=3/\(r.b.filter GThg.isN).length<=2/\∀t∈r.b,zgg ls (1+k1) t) ⟨[],[],none,none,none,none,rfl,rfl,rfl,λx h=>(QE h).elim⟩ (λρ zz=>?_) λj d ρ N hd hN zz=>?_
 .obtain⟨rs,rd,o4,o5,o6,o7,e,ed,h1,h2⟩:=zz;subst ed;subst e;rw[zdm] at h1
  ac_rfl
  exact q ⟨1+(k1:Int),rs⟩ (by show 1<=1+(k1:Int);lia) (by show 1+(k1:Int)<=3;lia) (by show rs.length<7;lia) λr hr=>by
   have:=h2 r hr;rw[show(1+(k1:Int)).toNat=1+k1 by lia];exact this
 .obtain⟨rs,rd,o4,o5,o6,o7,e,ed,h1,h2⟩:=zz;subst ed;subst e;obtain⟨hj,rfl⟩:=zcv hd
  ac_rfl
  refine dr (by decide) (by decide) λk3 hk3=>?_
  ac_rfl
  refine⟨by lia,by lia,rfl,?_⟩;refine zaq (λi ρ=>∃(bs:List GThg) (o6 o7:Option DV),ρ = [some .ob,some (.im (.list (ls.map λc=>.str (sg c)))),some (.im (.int (1+(k1:Nat)))),some (.own (rs.map zbd)),some (.im (.int (0+(j:Int)))),some (.own (bs.map zan)),o6,o7]/\bs.length=i/\(bs.filter GThg.isN).length<=2/\∀t∈bs,zgg ls (1+k1) t) ⟨[],_,_,rfl,rfl,by decide,λx h=>(QE h).elim⟩ (λρ zz=>?_) λi d ρ N2 hd2 hN2 zz=>?_
  .obtain⟨bs,o6,o7,e,g1,g2,g3⟩:=zz;subst e;rw[zdm] at g1
   ac_rfl
   refine dr (by lia) (by lia) λk4 hk4=>?_
   ac_rfl
   refine⟨zcl ⟨(k4:Int),bs⟩,by rw[Qb];lia,hN _ ⟨rs ++ [⟨(k4:Int),bs⟩],_,_,_,_,_,rfl,by rw[Q6];rfl,by rw[Qi,h1];rfl,zlw h2 ⟨by show(0:Int)<=k4;lia,hk4,by show bs.length<=3;lia,g2,g3⟩⟩⟩
  .obtain⟨bs,o6,o7,e,g1,g2,g3⟩:=zz;subst e;obtain⟨hi,rfl⟩:=zcv hd2
   have app:∀(t:GThg) (o:Option DV),zgg ls (1+k1) t->(t.isN=true->(bs.filter GThg.isN).length<2)->N2 [some .ob,some (.im (.list (ls.map λc=>.str (sg c)))),some (.im (.int (1+(k1:Nat)))),some (.own (rs.map zbd)),some (.im (.int (0+(j:Int)))),some (.own (bs.map zan ++ [zan t])),some (.im (.int (0+(i:Int)))),o]:=λt o h3 h4=>by
    refine hN2 _ ⟨bs ++ [t],_,_,by rw[Q6];rfl,by rw[Qi,g1];rfl,?_,zlw g3 h3⟩;rw[zuo]
    split
    .have:=h4 ‹_›;lia
    .lia
   have bl:(bs.map zan).length<sizeLine:=by rw[Qb];lia
   (repeat first|refine⟨_,hll,?_⟩|refine⟨hll,?_⟩|infer_instance)
   refine dr (by lia) (by lia) λk5 hk5=>?_;have hc:k5<ls.length:=by lia
   refine⟨_,zgr (by rw[Qj,Qu hc];rfl),rfl,?_⟩;have ht:zgg ls (1+k1) (.lt [ls[k5]]):=⟨ls[k5],ZG hc,rfl⟩
   ac_rfl
   refine dr (by decide) (by decide) λk6 hk6=>?_
   ac_rfl
   refine iteB (λa1=>?_) λa1=>?_
   .ac_rfl
    refine ze9 (α:=GThg) (enc:=zan) (p:=GThg.isN) (e:=zan) (λt ht Pn Py hn hy=>?_) (by lia) ?_
    .cases t with
     | nm i=>
       ac_rfl
       exact hy rfl _ rfl
     | lt v=>
       ac_rfl
       exact hn rfl
    ac_rfl
    refine iteB (λa2=>?_) λa2=>?_
    .ac_rfl
     refine dr (by lia) (by lia) λk7 hk7=>?_
     ac_rfl
     refine⟨bl,app (.nm (k7:Int)) _ ⟨by lia,by lia⟩ λ_=>?_⟩;have:=Go a2;rw[Qb] at this;lia
    .ac_rfl
     exact⟨bl,app (.lt [ls[k5]]) _ ht (λz=>by cases z)⟩
   .ac_rfl
    exact⟨bl,app (.lt [ls[k5]]) _ ht (λz=>by cases z)⟩
end
section
variable {P:VO}{w:VR}{K:Qa}{mg:Str->Option VJ}{base:Heap}{k:Nat}
abbrev zi0:Stmt:=top 11
theorem zt6:FnScope ["_law_body"] ["_law_body"] (zad zi0):=⟨rfl,rfl,rfl,by decide +kernel,rfl,by decide +kernel,by decide +kernel⟩
theorem zat(B:Blt mg)(T:Top3 K mg "_law_inner" zi0):Def3 P w K mg base 1 "_law_inner" ["_law_body"] (spO K (λ_=>True) 1 zdc):=by
 refine mk_O T zt6 (λ_ _ _ _ _ _ us hl=>len1 hl λ_=>rfl) rfl λf cdv A outer s H E O hφ C=>⟨_,(zaj (zbb (zb4 1 ["_law_thing", "_law_body"] C (λ_=>.of rfl (by kernel_rfl)) (zfl C (zaa 0)) (za2 0) (zis (zef (zcj (zdq (T := "str") (C.comp _ _) B (zaa 0) B.str)))) (zaa 0)))),λds Qr hn q=>?_⟩;obtain⟨b,rfl,hb,q⟩:=q;have sz:=VP
 ac_rfl
 refine ze9 (α:=GThg) (enc:=zan) (p:=GThg.isN) (e:=zan) (λt ht Pn Py hn hy=>?_) (by lia) ?_
 .cases t with
  | nm i=>
    ac_rfl
    exact hy rfl _ rfl
  | lt v=>
    ac_rfl
    exact hn rfl
 .exact q
end
section
variable {P:VO}{w:VR}{K:Qa}{mg:Str->Option VJ}{base:Heap}{k:Nat}
abbrev zln:Stmt:=top 12
theorem zyh:FnScope ["_law_deal_here", "_law_letters_here", "_law_most"] ["_law_deal_here", "_law_letters_here", "_law_most"] (zad zln):=⟨rfl,rfl,rfl,by decide +kernel,rfl,by decide +kernel,by decide +kernel⟩
theorem zfa(B:Blt mg)(d_law_draw:zgx P w K mg base)(T:Top3 K mg "_law_word" zln):Def3 P w K mg base 2 "_law_word" ["_law_deal_here", "_law_letters_here", "_law_most"] (spD K IsDeal 2 zqf):=by
 refine mk_D T zyh (λ_ _ _ _ _ _ us hl=>len3 hl λ_ _ _=>rfl) rfl λf cdv A outer s H E O hφ C=>?_;have hO:∀j:Unit,IsDeal ((λ_:Unit=>O) j):=λ_=>hφ;refine⟨_,(zaj (zbb (zr0 C zov (zb4 1 ["_law_k", "_law_deal_here", "_law_letters_here", "_law_most"] C (λ_=>.of rfl (by kernel_rfl)) (i_r1 C B (zab (zbl 0 C d_law_draw hO (zab (zbg C (zaa 2) zag) zae)) zae)) (za2 0) zde (zal (C.comp _ _) (zaa 2) (zbl 1 (C.comp _ _) d_law_draw (upD hO) (zab (zb1 (C.comp _ _) B (zab (zaa 2) zae)) zae))))))),λds Qr hn q=>?_⟩;obtain⟨ls,n,rfl,l1,l26,hn,q⟩:=q;have sz:=VP
 have hll:lenF [Vs (ls.map λc=>.str (sg c))]=some (.o (.int (ls.length:Nat))):=by
  show some (R.o (.int ((ls.map λc=>Yq (sg c)).length:Nat)))=_;rw[Qb]
 ac_rfl
 refine⟨by lia,by lia,λk k0 k1=>?_⟩;obtain⟨m,rfl⟩:=Js k0;refine⟨_,rfl,by lia,by lia,?_⟩;refine zmg (enc2:=λc=>.str (tx [c])) (good:=λc=>c∈ls) (λc hc Pn Py hPn hPy=>?_) (by rw[Zx];lia) λv hv hlp=>?_
 .refine iteT (B:=Pn) ?_
  (repeat first|refine⟨_,hll,?_⟩|refine⟨hll,?_⟩|infer_instance)
  refine⟨by lia,by lia,λi i0 i1=>?_⟩;obtain⟨i,rfl⟩:=Js i0;have il:i<ls.length:=by lia
  refine⟨_,zgr (d:=.str (sg ls[i])) (by rw[Qj,Qu il];rfl),?_⟩;exact hPy _ (ZG il)
 .rw[Zx] at hlp;obtain⟨ys,e1,e2,e3⟩:=znw v (by lia);refine⟨ys,e1,e2,?_⟩;rw[e3];exact q v hv (by lia)
end
theorem zyf(u:List Nat):sgs (tx u)=u.map λc=>.str (tx [c]):=by unfold sgs;rw[zge];rfl
section
variable {P:VO}{w:VR}{K:Qa}{mg:Str->Option VJ}{base:Heap}{k:Nat}
abbrev zix:Stmt:=top 13
theorem zt8:FnScope ["_law_less", "_law_more", "_law_at", "_law_letter"] ["_law_less", "_law_more"] (zad zix):=⟨rfl,rfl,rfl,by decide +kernel,rfl,by decide +kernel,by decide +kernel⟩
theorem zem(B:Blt mg)(T:Top3 K mg "_law_under" zix):Def3 P w K mg base 1 "_law_under" ["_law_less", "_law_more"] (spO K (λ_=>True) 2 zoc):=by
 refine mk_O T zt8 (λ_ _ _ _ _ _ us hl=>len2 hl λ_ _=>rfl) rfl λf cdv A outer s H E O hφ C=>⟨_,(zah (za7 2 zag) (zah (zbh C (zbx (zu7 (zaa 1))) (za2 (h:=1000) 3) (zaj (z1p 2 (zmv C B (zab (e_eq C (zcx C (zaa 0) (zcc (zaa 2)) (zcc (zbg C (zaa 2) zag))) (zaa 3)) zae))))) (zaj (zbb (e_eq C (zaa 2) (zb1 C B (zab (zaa 0) zae))))))),λds Qr hn q=>?_⟩;obtain⟨l,m,rfl,hl,hm,hc,q⟩:=q;have sz:=VP;have l1:=hl.len;have ll:=zd2 (w:=l) (by lia)
 ac_rfl
 rw[zyf];refine zaq (λj ρ=>∃(a:Nat) (o3:Option DV),ρ = [some (.im (.str (tx l))),some (.im (.str (tx m))),some (.im (.int (a:Nat))),o3]/\metN l (m.drop j) a=metN l m 0) ⟨0,none,rfl,rfl⟩ (λρ hρ=>?_) λj d ρ N hd nx hρ=>?_
 .obtain⟨a,o3,rfl,e⟩:=hρ;rw[Qb,Yh,metN] at e;subst e
  have ee:eqF false (.int ((metN l m 0:Nat):Int)) (.int ((l.length:Nat):Int))=some (.o (.bool (decide (metN l m 0=l.length)))):=by
   rw[zi4,Gn Qo];exact Gr (λb=>some (R.o (.bool b))) (decide_eq_decide.mpr (by lia))
  (repeat first|refine⟨_,ll,?_⟩|refine⟨ll,?_⟩|refine⟨_,ee,?_⟩|refine⟨ee,?_⟩|infer_instance)
  exact q
 .obtain⟨a,o3,rfl,e⟩:=hρ;rw[Qj] at hd;obtain⟨c,hcj,rfl⟩:=Qf.mp hd;have cl:=hc c (Qw hcj)
  have dr:m.drop j=c::m.drop (j+1):=by
   rw[Z7 (Qx.mp hcj).1,(Qx.mp hcj).2]
  rw[dr,metN] at e
  have sx:slcF (some ((a:Nat):Int)) (some ((a:Int)+1)) (.str (tx l))=some (.o (.str (tx ((l.drop a).take 1)))):=by
   rw[zh1 (by lia),show((a:Int)+1)=((a+1:Nat):Int) from rfl,zhf,JV];rw[show a+1-a=1 by lia]
  have ex:eqF false (.str (tx ((l.drop a).take 1))) (.str (tx [c]))=some (.o (.bool (decide ((l.drop a).take 1 = [c])))):=by
   rw[zi7 (zgt λc hc=>hl.low c (ZW (Zv hc))) (zgt λd hd=>by rw[Qn.mp hd];exact cl),Gn Qo,zm3]
  refine⟨rfl,?_⟩
  (repeat first|refine⟨_,sx,?_⟩|refine⟨sx,?_⟩|refine⟨_,ex,?_⟩|refine⟨ex,?_⟩|infer_instance)
  refine nx _ ⟨if(l.drop a).take 1 = [c] then a+1 else a,some (.im (.str (tx [c]))),?_,e⟩
  by_cases z:(l.drop a).take 1 = [c]
  .rw[Gm (Gq z),Gm z];rfl
  .rw[Gn (by simpa using z),Gn z];show[_,_,some (DV.im (.int ((a:Int)+0))),_]=_;rw[Int.add_zero]
end
def zlc(T:AL Prt Nat)(i:Int)(b k:Nat):VI:=match T.at_ (i,b,k) with
 | some v=>zlg (k,v)
 | none=>.none
theorem zj1(T:AL Prt Nat)(i:Int)(b:Nat):∀l:List Nat,(l.filter λe=>(T.at_ (i,b,e)).isSome).map (zlc T i b)=(l.filterMap λe=>(T.at_ (i,b,e)).map λv=>(e,v)).map zlg
 | []=>rfl
 | k::l=>by
   have ih:=zj1 T i b l;rw[ZZ,ZE]
   cases h:T.at_ (i,b,k) with
   | none=>exact ih
   | some v=>
     rw[Gm (show(some v).isSome=true from rfl),Zl,Qp,Qp,ih];unfold zlc;rw[h]
section
variable {P:VO}{w:VR}{K:Qa}{mg:Str->Option VJ}{base:Heap}{k:Nat}
abbrev zmq:Stmt:=top 14
theorem zwe:FnScope ["_law_thing", "_law_word_here", "_law_at", "_law_sizes_here"] ["_law_thing", "_law_word_here", "_law_at", "_law_sizes_here"] (zad zmq):=⟨rfl,rfl,rfl,by decide +kernel,rfl,by decide +kernel,by decide +kernel⟩
theorem zfj(B:Blt mg)(T:Top3 K mg "_law_ends" zmq):Def3 P w K mg base 1 "_law_ends" ["_law_thing", "_law_word_here", "_law_at", "_law_sizes_here"] (spG K (λ_=>True) 4 zqc):=by
 refine mk_G T zwe (λ_ _ _ _ _ _ us hl=>len4 hl λ_ _ _ _=>rfl) rfl λf cdv A outer s H E O hφ C=>⟨_,(zah (s_if (zcj (zdq (T := "str") C B (zaa 0) B.str)) (zaj (zbb (zcx C (zg0 (zab (zbw (zab (zaa 2) (zab zag zae))) (zab (zbw (zab (zbg C (zaa 2) zag) (zab zag zae))) zae))) zga (zcc (zbg C zag (zmv C B (zab (e_eq C (zcx C (zaa 1) (zcc (zaa 2)) (zcc (zbg C (zaa 2) zag))) (zaa 0)) zae))))))) zbu) (zaj (zbb (zb4 1 ["_law_to", "_law_thing", "_law_word_here", "_law_at", "_law_sizes_here"] C (λ_=>.of rfl (by kernel_rfl)) (i_r2 C B (zab (zaa 2) (zab (zbg C (zb1 C B (zab (zaa 1) zae)) zag) zae))) (za2 0) (zis (zmn 4 (C.comp _ _) (zc1 (zab (zaa 1) (zab (zaa 3) (zab (zaa 0) zae)))))) (zbw (zab (zaa 0) (zab (zgj 4 (C.comp _ _) (zc1 (zab (zaa 1) (zab (zaa 3) (zab (zaa 0) zae))))) zae))))))),λrs Qr hn q=>?_⟩;obtain⟨t,n,u,a,p,T,rfl,ht,hw,ha,q⟩:=q;have sz:=VP;have hl:=hw.len;have ll:=zd2 (w:=u) (by lia)
 ac_rfl
 cases t with
 | nm i=>
   refine iteF ?_
   (repeat first|refine⟨_,ll,?_⟩|refine⟨ll,?_⟩|infer_instance)
   refine⟨by lia,?_⟩;have en:(((u.length:Int)+1)-(a:Int)).toNat=u.length+1-a:=by lia
   show zau 1 (gN 0) _ _ _ _ (zb8 (a:Nat) (((u.length:Int)+1)-(a:Int)).toNat) [];rw[en,zq5];refine ze9 (p:=λe=>(T.at_ (i,a,e)).isSome) (e:=zlc T i a) (λe he Pn Py hn hy=>?_) (by rw[JW];lia) ?_
   .refine⟨_,⟨p,.inr rfl⟩,?_⟩
    ac_rfl
    refine⟨prtK (i,a,e),rfl,_,rfl,?_⟩;show if(if false=true then _ else((zak encN T).at_ (prtK (i,a,e))).isSome)=true then _ else _;rw[Gn Qo,zbr,Zg]
    cases h:T.at_ (i,a,e) with
    | some v=>
      rw[Gm (show(some v).isSome=true from rfl)]
      ac_rfl
      refine⟨_,⟨p,.inr rfl⟩,?_⟩
      ac_rfl
      refine⟨prtK (i,a,e),rfl,encN v,by rw[zbr,h];rfl,?_⟩
      ac_rfl
      exact hy (by rw[h];rfl) _ (by unfold zlc;rw[h];rfl)
    | none=>
      rw[Gn (by simp)];exact hn (by rw[h];rfl)
   .rw[zj1];exact q
 | lt x=>
   refine iteT ?_
   have sx:slcF (some ((a:Nat):Int)) (some ((a:Int)+1)) (.str (tx u))=some (.o (.str (tx ((u.drop a).take 1)))):=by
    rw[zh1 (by lia),show((a:Int)+1)=((a+1:Nat):Int) from rfl,zhf,JV];rw[show a+1-a=1 by lia]
   have ex:eqF false (.str (tx ((u.drop a).take 1))) (.str (tx x))=some (.o (.bool (decide ((u.drop a).take 1=x)))):=by
    rw[zi7 (zgt λc hc=>hw.low c (ZW (Zv hc))) (zgt ht.low),Gn Qo,zm3]
   (repeat first|refine⟨_,sx,?_⟩|refine⟨sx,?_⟩|refine⟨_,ex,?_⟩|refine⟨ex,?_⟩|infer_instance)
   have q2:Qr (.n ((if(u.drop a).take 1=x then[(a,0),(a+1,0)] else[(a,0)]).map zlg)):=q
   by_cases z:(u.drop a).take 1=x
   .rw[Gm z] at q2;rw[Gm (Gq z)];show Qr (.n (cutL _ none (some ((2:Nat):Int))));rw[zf2];exact q2
   .rw[Gn z] at q2;rw[Gn (by simpa using z)];show Qr (.n (cutL _ none (some ((1:Nat):Int))));rw[zf2];exact q2
end
section
variable {P:VO}{w:VR}{K:Qa}{mg:Str->Option VJ}{base:Heap}{k:Nat}
abbrev zjr:Stmt:=top 15
theorem zte:FnScope ["_law_grammar_here", "_law_word_here", "_law_sizes_here", "_law_more", "_law_name", "_law_body", "_law_begin", "_law_reach", "_law_thing", "_law_further", "_law_at", "_law_size_here", "_law_to", "_law_extra"] ["_law_grammar_here", "_law_word_here"] (zad zjr):=⟨rfl,rfl,rfl,by decide +kernel,rfl,by decide +kernel,by decide +kernel⟩
theorem zeq(B:Blt mg)(zfj:Def3 P w K mg base 1 "_law_ends" ["_law_thing", "_law_word_here", "_law_at", "_law_sizes_here"] (spG K (λ_=>True) 4 zqc))(T:Top3 K mg "_law_sizes" zjr):Def3 P w K mg base 2 "_law_sizes" ["_law_grammar_here", "_law_word_here"] (spV K (λ_=>True) 2 zoa):=by
 refine mk_V T zte (λ_ _ _ _ _ _ us hl=>len2 hl λ_ _=>rfl) rfl λf cdv A outer s H E O hφ C=>⟨_,(zms (zn1 2) (zms (za7 3 e_bl) (zms (znl C (zv1 C (zaa 3)) (zah (za7 3 e_bl) (zaj (zbh C (zbx (zfl C (zal C (zaa 0) zag))) (zdt (h:=1000) C (zax 4 (zax 5 zcg))) (zaj (zbh C (zbx (i_r1 C B (zab (zbg C (zb1 C B (zab (zaa 1) zae)) zag) zae))) (za2 (h:=1000) 6) (zah (znp 7 (zaa 6) zag) (zah (zbh C (zbx (zfl C (zaa 5))) (za2 (h:=1000) 8) (zah (zjv 9) (zah (ze3 7 C (zbh C (zg4 7 C) (zdt (h:=1000) C (zax 10 (zax 11 zcg))) (zaj (zbh C (zbx (zco C (zg1 C zfj (λ_=>trivial) (g_im (zaa 8) (g_im (zaa 1) (g_im (zaa 10) (zid 2 zie))))))) (zdt (h:=1000) C (zax 12 (zax 13 zcg))) (zaj (zmf 9 C (z0b C B (zab (zbg C (zaa 11) (zaa 13)) (zab (zs4 9 C (zaa 12) (zbg C (zaa 11) (zaa 13))) zae))) (zaa 12))))))) (zaj (zrg 7 9))))) (zaj (ze3 7 C (zbh C (zg4 7 C) (zdt (h:=1000) C (zax 12 (zax 11 zcg))) (zaj (s_if (t_lt (zaa 11) (zsu 2 C (zc1 (zab (zaa 4) (zab (zaa 6) (zab (zaa 12) zae)))) (zbg C (zaa 11) zag))) (zah (zok 2 C (zaa 11) (zc1 (zab (zaa 4) (zab (zaa 6) (zab (zaa 12) zae))))) (zaj (za7 3 e_bl))) zbu))))))))))))) (z0y 2)))),λds Qk hn q=>?_⟩;obtain⟨g,u,rfl,hg,hw,q⟩:=q;have sz:=VP;have hl:=hw.len;have ll:=zd2 (w:=u) (by lia)
 ac_rfl
 obtain⟨N0,hN0⟩:=zt5 hg (u:=u) _ _ [] zil (Qe _) (Qe _);refine⟨λk ρ=>∃(B:BT) (more:Bool) (x4 x5 x6 x7 x8 x9 x10 x11 x12 x13:Option DV),ρ = [some (.im (zao g)),some (.im (.str (tx u))),some (.thg (DctV (zak zb2 B))),some (.im (.bool more)),x4,x5,x6,x7,x8,x9,x10,x11,x12,x13]/\((more=false/\∃B0,BtOk g u B0/\ReachL g u B0/\(za1 g u B0).2=false/\B=(za1 g u B0).1)\/(more=true/\BtOk g u B/\ReachL g u B/\∃N,k=N+1/\zow g u N B)),⟨_,[],true,none,none,none,none,none,none,none,none,none,none,rfl,.inr ⟨rfl,zil,.nil,N0,rfl,hN0⟩⟩,?_⟩;rintro k ρ ⟨B,more,x4,x5,x6,x7,x8,x9,x10,x11,x12,x13,rfl,hB⟩
 ac_rfl
 rcases hB with ⟨rfl,B0,hB0,re0,f0,rfl⟩|⟨rfl,hB,re,Nn,rfl,en⟩
 .refine iteF ⟨_,rfl,?_⟩;exact q B0 hB0 re0 f0
 refine iteT ?_
 ac_rfl
 refine zaq (λj ρ=>∃(s:BT×Bool) (o4 o5 o6 o7 o8 o9 o10 o11 o12 o13:Option DV),ρ = [some (.im (zao g)),some (.im (.str (tx u))),some (.thg (DctV (zak zb2 s.1))),some (.im (.bool s.2)),o4,o5,o6,o7,o8,o9,o10,o11,o12,o13]/\s=(g.rs.take j).foldl (λs r=>(QL (u.length+1)).foldl (zdh u r) s) (B,false)/\BtOk g u s.1) ⟨(B,false),x4,x5,x6,x7,x8,x9,x10,x11,x12,x13,rfl,rfl,hB⟩ (λρ hρ=>?_) λj d ρ N hd nx hρ=>?_
 .obtain⟨s,o4,o5,o6,o7,o8,o9,o10,o11,o12,o13,rfl,e,ok⟩:=hρ;rw[Qb,QX] at e;have es:s=za1 g u B:=e;subst es
  cases hf:(za1 g u B).2 with
  | false=>
    exact⟨0,by lia,_,false,_,_,_,_,_,_,_,_,_,_,rfl,.inl ⟨rfl,B,hB,re,hf,rfl⟩⟩
  | true=>
    cases Nn with
    | zero=>exact absurd (show(za1 g u B).2=false from en) (by rw[hf];exact Yl)
    | succ M=>
      rcases en with en|en
      .rw[hf] at en;cases en
      .exact⟨M+1,by lia,_,true,_,_,_,_,_,_,_,_,_,_,rfl,.inr ⟨rfl,ok,.pass re,M,rfl,en⟩⟩
 .obtain⟨s,o4,o5,o6,o7,o8,o9,o10,o11,o12,o13,rfl,e,ok⟩:=hρ;rw[Qj] at hd;obtain⟨r,hr,rfl⟩:=Qf.mp hd;have rm:=Qw hr;obtain⟨⟨r0,r1⟩,r2,r3,r4⟩:=hg.each r rm;refine⟨zcl r,?_⟩
  (repeat first|refine⟨_,ll,?_⟩|refine⟨ll,?_⟩|infer_instance)
  refine⟨by lia,by lia,rfl,?_⟩;have en:((u.length:Int)+1).toNat=u.length+1:=by lia
  refine zaq (λb ρ=>∃(s2:BT×Bool) (o6 o7 o8 o9 o10 o11 o12 o13:Option DV),ρ = [some (.im (zao g)),some (.im (.str (tx u))),some (.thg (DctV (zak zb2 s2.1))),some (.im (.bool s2.2)),some (.im (.int r.n)),some (.im (.tuple (r.b.map zan))),o6,o7,o8,o9,o10,o11,o12,o13]/\s2=(QL b).foldl (zdh u r) s/\BtOk g u s2.1) ⟨s,o6,o7,o8,o9,o10,o11,o12,o13,rfl,rfl,ok⟩ (λρ hρ=>?_) λb d ρ N2 hd2 nx2 hρ=>?_
  .obtain⟨s2,o6,o7,o8,o9,o10,o11,o12,o13,rfl,e2,ok2⟩:=hρ;rw[zdm,en] at e2;refine nx _ ⟨s2,_,_,_,_,_,_,_,_,_,_,rfl,?_,ok2⟩;rw[e2,zby hr,QO,<- e];rfl
  .obtain⟨s2,o6,o7,o8,o9,o10,o11,o12,o13,rfl,e2,ok2⟩:=hρ;obtain⟨hb,rfl⟩:=zcv hd2;have bl:b<=u.length:=by lia
   have b0:(0:Int)+(b:Nat)=(b:Nat):=Int.zero_add _;rw[b0];have wt:=znr (B:=s2.1) (u:=u) (b:=b) bl r4;refine⟨rfl,?_⟩
   ac_rfl
   refine zaq (λj2 ρ=>∃(W:WN) (o8 o10 o11 o12 o13:Option DV),ρ = [some (.im (zao g)),some (.im (.str (tx u))),some (.thg (DctV (zak zb2 s2.1))),some (.im (.bool s2.2)),some (.im (.int r.n)),some (.im (.tuple (r.b.map zan))),some (.im (.int (b:Nat))),some (.thg (DctN (encW encN W))),o8,(if j2=0 then o9 else none),o10,o11,o12,o13]/\W=(r.b.take j2).foldl (zci s2.1 u) [(b,1)]/\WnOk u W) ⟨[(b,1)],o8,o10,o11,o12,o13,rfl,rfl,zqh bl⟩ (λρ hρ=>?_) λj2 d ρ N3 hd3 nx3 hρ=>?_
   .obtain⟨W,o8,o10,o11,o12,o13,rfl,e3,ok3⟩:=hρ;rw[Qb,QX] at e3;have e3:W=ze0 s2.1 u b r.b:=e3;generalize hs9:(if(r.b.map zan).length=0 then o9 else none)=p9;refine⟨_,rfl,?_⟩
    ac_rfl
    refine zaq (λi ρ=>∃(s3:BT×Bool) (o11 o12:Option DV),ρ = [some (.im (zao g)),some (.im (.str (tx u))),some (.thg (DctV (zak zb2 s3.1))),some (.im (.bool s3.2)),some (.im (.int r.n)),some (.im (.tuple (r.b.map zan))),some (.im (.int (b:Nat))),some (.thr (DctK P w (encW encN W))),o8,p9,o10,o11,o12,o13]/\s3=(W.take i).foldl (λs e=>updP s (r.n,b,e.1) (e.2,.none)) s2/\BtOk g u s3.1) ⟨s2,o11,o12,rfl,rfl,ok2⟩ (λρ hρ=>?_) λi d ρ N4 hd4 nx4 hρ=>?_
    .obtain⟨s3,o11,o12,rfl,e4,ok4⟩:=hρ;rw[Qb,show(encW encN W).length=W.length from Qb ..,QX] at e4;refine nx2 _ ⟨s3,_,_,_,_,_,_,_,_,rfl,?_,ok4⟩;rw[e4,Yw,QO,<- e2];show _=zdh u r s2 b;unfold zdh;rw[e3]
    .obtain⟨s3,o11,o12,rfl,e4,ok4⟩:=hρ;rw[Qj,encW,Qj] at hd4;obtain⟨x,hx,rfl⟩:=Qf.mp hd4;obtain⟨pw,hpw,rfl⟩:=Qf.mp hx;have pm:=Qw hpw;have pl:=ok3.le _ pm;refine⟨rfl,?_⟩
     ac_rfl
     have A:=zbr (f:=zb2) (l:=s3.1) (p:=(r.n,b,pw.1));have lenB:=ok4.len hg.n3;have lB:(zak zb2 s3.1).length=s3.1.length:=Qb ..;have ok6:BtOk g u (s3.1.put (r.n,b,pw.1) (pw.2,.none)):=ok4.put ⟨⟨r0,r1⟩,bl,pl⟩ rfl
     have lt1:(zak zb2 s3.1).length<sizeLine:=by
      have:=V3 (show u.length+1<=1001 by lia) (show u.length+1<=1001 by lia);rw[lB];lia
     have nxt:N4 [some (.im (zao g)),some (.im (.str (tx u))),some (.thg (DctV (zak zb2 (updP s3 (r.n,b,pw.1) (pw.2,.none)).1))),some (.im (.bool (updP s3 (r.n,b,pw.1) (pw.2,.none)).2)),some (.im (.int r.n)),some (.im (.tuple (r.b.map zan))),some (.im (.int (b:Nat))),some (.thr (DctK P w (encW encN W))),o8,p9,o10,some (.im (.int (pw.2:Nat))),some (.im (.int (pw.1:Nat))),o13]:=by
      refine nx4 _ ⟨updP s3 (r.n,b,pw.1) (pw.2,.none),_,_,rfl,?_,?_⟩
      .rw[zby hpw,QO,<- e4];rfl
      .unfold updP
       split
       .exact ok6
       .split
        .exact ok6
        .exact ok4
     have put:updP s3 (r.n,b,pw.1) (pw.2,.none)=(s3.1.put (r.n,b,pw.1) (pw.2,.none),true)->N4 [some (.im (zao g)),some (.im (.str (tx u))),some (.thg (DctV ((zak zb2 s3.1).put (prtK (r.n,b,pw.1)) (.int (pw.2:Nat))))),some (.im (.bool true)),some (.im (.int r.n)),some (.im (.tuple (r.b.map zan))),some (.im (.int (b:Nat))),some (.thr (DctK P w (encW encN W))),o8,p9,o10,some (.im (.int (pw.2:Nat))),some (.im (.int (pw.1:Nat))),o13]:=λhm=>by
      rw[hm,<- ze5] at nxt;exact nxt
     refine⟨zak zb2 s3.1,⟨_,.inl rfl⟩,?_⟩
     ac_rfl
     refine⟨prtK (r.n,b,pw.1),rfl,?_⟩
     ac_rfl
     rw[A]
     cases h:s3.1.at_ (r.n,b,pw.1) with
     | none=>
       refine⟨.o (.bool true),?_,?_⟩
       .show some (R.o (.bool (decide (((pw.2:Nat):Int)<((pw.2:Nat):Int)+1))))=_;rw[Gq (by lia)]
       ac_rfl
       exact⟨prtK (r.n,b,pw.1),rfl,rfl,lt1,rfl,put (by unfold updP;rw[h])⟩
     | some x=>
       by_cases z:pw.2<x.1
       .refine⟨.o (.bool true),?_,?_⟩
        .show some (R.o (.bool (decide (((pw.2:Nat):Int)<((x.1:Nat):Int)))))=_;rw[Gq (by lia)]
        ac_rfl
        exact⟨prtK (r.n,b,pw.1),rfl,rfl,lt1,rfl,put (by unfold updP;rw[h];exact Gm z)⟩
       .refine⟨.o (.bool false),?_,?_⟩
        .show some (R.o (.bool (decide (((pw.2:Nat):Int)<((x.1:Nat):Int)))))=_;rw[Gp (by lia)]
        have hm:updP s3 (r.n,b,pw.1) (pw.2,.none)=s3:=by unfold updP;rw[h];exact Gn z
        rw[hm] at nxt
        ac_rfl
        exact nxt
   .obtain⟨W,o8,o10,o11,o12,o13,rfl,e3,ok3⟩:=hρ;rw[Qj] at hd3;obtain⟨t,htj,rfl⟩:=Qf.mp hd3;have tr:=r4 t (Qw htj);refine⟨by cases t <;> rfl,?_⟩
    ac_rfl
    refine zaq (λj4 ρ=>∃(acc:WN) (o10 o11 o12 o13:Option DV),ρ = [some (.im (zao g)),some (.im (.str (tx u))),some (.thg (DctV (zak zb2 s2.1))),some (.im (.bool s2.2)),some (.im (.int r.n)),some (.im (.tuple (r.b.map zan))),some (.im (.int (b:Nat))),some (.thr (DctK P w (encW encN W))),some (.im (zan t)),some (.thg (DctN (encW encN acc))),o10,o11,o12,o13]/\acc=zci s2.1 u (W.take j4) t/\WnOk u acc) ⟨[],o10,o11,o12,o13,rfl,rfl,zqs⟩ (λρ hρ=>?_) λj4 d ρ N4 hd4 nx4 hρ=>?_
    .obtain⟨acc,o10,o11,o12,o13,rfl,e4,ok4⟩:=hρ
     have e5:acc=zci s2.1 u W t:=by
      rw[e4,Qb,show(encW encN W).length=W.length from Qb ..,QX]
     refine⟨_,rfl,nx3 _ ⟨acc,_,_,_,_,_,rfl,?_,ok4⟩⟩;rw[zby htj,QO,<- e3,e5];rfl
    .obtain⟨acc,o10,o11,o12,o13,rfl,e4,ok4⟩:=hρ;rw[Qj,encW,Qj] at hd4;obtain⟨x,hx,rfl⟩:=Qf.mp hd4;obtain⟨pw,hpw,rfl⟩:=Qf.mp hx;have pm:=Qw hpw;refine⟨rfl,?_⟩
     ac_rfl
     refine⟨_,.inl rfl,rfl,t,g.n,u,pw.1,λ_=>True,szs s2.1,by rw[zwy];rfl,tr,hw,ok3.le _ pm,_,rfl,rfl,?_⟩;refine zaq (λj5 ρ=>∃(ac:WN) (o12 o13:Option DV),ρ = [some (.im (zao g)),some (.im (.str (tx u))),some (.thg (DctV (zak zb2 s2.1))),some (.im (.bool s2.2)),some (.im (.int r.n)),some (.im (.tuple (r.b.map zan))),some (.im (.int (b:Nat))),some (.thr (DctK P w (encW encN W))),some (.im (zan t)),some (.thg (DctN (encW encN ac))),some (.im (.int (pw.1:Nat))),some (.im (.int (pw.2:Nat))),o12,o13]/\ac=zcs acc (((zb9 (szs s2.1) u pw.1 t).take j5).map λe=>(e.1,pw.2+e.2))/\WnOk u ac) ⟨acc,o12,o13,rfl,rfl,ok4⟩ (λρ hρ=>?_) λj5 d ρ N5 hd5 nx5 hρ=>?_
     .obtain⟨ac,o12,o13,rfl,e5,ok5⟩:=hρ;rw[Qb,QX] at e5;refine nx4 _ ⟨ac,_,_,_,_,rfl,?_,ok5⟩;rw[e5,zby hpw];unfold zci;rw[QO,<- zci,<- e4];rfl
     .obtain⟨ac,o12,o13,rfl,e5,ok5⟩:=hρ;rw[Qj] at hd5;obtain⟨en2,hen,rfl⟩:=Qf.mp hd5;have em:=Qw hen;have el:=zns tr (ok3.le _ pm) _ em;refine⟨rfl,?_⟩
      ac_rfl
      have A:=zi8 (f:=encN) (l:=ac) (p:=en2.1)
      have hm:zk5 [.int (((pw.2:Nat):Int)+(en2.2:Nat)),((encW encN ac).at_ ((en2.1:Nat):Int)).getD (.int (((pw.2:Nat):Int)+(en2.2:Nat)))]=some (.o (encN (leL (pw.2+en2.2) (ac.at_ en2.1)))):=by
       rw[A]
       cases ac.at_ en2.1 with
       | none=>
         show some (R.o (.int (if _<_ then _ else _)))=_;rw[Gn (by lia)];rfl
       | some x=>
         show some (R.o (.int (if((x:Nat):Int)<((pw.2:Nat):Int)+(en2.2:Nat) then _ else _)))=some (R.o (.int ((if x<pw.2+en2.2 then x else pw.2+en2.2:Nat):Int)))
         by_cases z:x<pw.2+en2.2
         .rw[Gm z,Gm (by lia)]
         .rw[Gn z,Gn (by lia)];rfl
      refine⟨encW encN ac,.inl rfl,?_⟩
      ac_rfl
      refine⟨_,hm,?_⟩
      ac_rfl
      refine⟨?_,?_⟩
      .have:=ok5.len;rw[show(encW encN ac).length=ac.length from Qb ..];lia
      .rw[show(R.o (encN (leL (pw.2+en2.2) (ac.at_ en2.1)))).d=encN (leL (pw.2+en2.2) (ac.at_ en2.1)) from rfl,zhw];refine nx5 _ ⟨_,_,_,rfl,?_,ok5.min el⟩;rw[zby hen,Q6];unfold zcs;rw[QO];show _=zcs (zcs acc _) _;rw[<- e5];rfl
end
section
variable {P:VO}{w:VR}{K:Qa}{mg:Str->Option VJ}{base:Heap}{k:Nat}
abbrev zez:Stmt:=top 16
theorem zjz:FnScope ["_law_grammar_here", "_law_name", "_law_tree_here", "_law_inner_here"] ["_law_grammar_here", "_law_name", "_law_tree_here"] (zad zez):=⟨rfl,rfl,rfl,by decide +kernel,rfl,by decide +kernel,by decide +kernel⟩
theorem zeu(B:Blt mg)(zb6:Def3 P w K mg base 1 "_law_whole" ["_law_found"] (spO K (λ_=>True) 1 zjf))(zat:Def3 P w K mg base 1 "_law_inner" ["_law_body"] (spO K (λ_=>True) 1 zdc))(T:Top3 K mg "_law_is_tree" zez):∀m,Def3 P w K mg base (1+m) "_law_is_tree" ["_law_grammar_here", "_law_name", "_law_tree_here"] (spO K (λ_=>True) 3 (ze6 m))
 | 0=>by
   obtain⟨f,fd,Fu,m⟩:=T.ex;refine⟨f,fd,Fu.ok zjz (zgk rfl) (λcdv A outer s H vs Q E hr h=>?_),m,Fu.kp,Fu.binds (λ_ _ _ _ _ _ us hl=>len3 hl λ_ _ _=>rfl)⟩;obtain⟨O,ds,Qr,ok,hφ,p,hl,is,q,kk⟩:=h;exact(zkw q).elim
 | m+1=>by
   have zb3:=zeu B zb6 zat T m;refine mk_O (k:=1+m) T zjz (λ_ _ _ _ _ _ us hl=>len3 hl λ_ _ _=>rfl) rfl λf cdv A outer s H E O hφ C=>⟨_,(zah (s_if (t_w (w_or (zef (zcj (zdq (T := "tuple") C B (zaa 2) B.tuple))) (w_or (t_ne C (zb1 C B (zab (zaa 2) zae)) zag) (w_or (zef (zcj (zbn C zb6 (hk:=Q3 (by decide) (Ja 1 m)) (λ_=>trivial) (zab (zal C (zaa 2) zag) zae)))) (zgp (zef (zcj (zdq (T := "tuple") C B (zal C (zaa 2) zag) B.tuple)))))))) (zaj (zbb e_bl)) zbu) (zah (s_if (t_w (w_or (zzt C B (zal C (zaa 2) zag) (zab (zb1 C B (zab (zal C (zaa 0) zag) zae)) zae)) (zgp (t_ne C (zal C (zal C (zal C (zaa 0) zag) (zal C (zaa 2) zag)) zag) (zaa 1))))) (zaj (zbb e_bl)) zbu) (zah (za7 3 (zbn C zat (hk:=Q3 (by decide) (Ja 1 m)) (λ_=>trivial) (zab (zal C (zal C (zal C (zaa 0) zag) (zal C (zaa 2) zag)) zag) zae))) (zah (s_if (t_ne C (zb1 C B (zab (zaa 3) zae)) (zb1 C B (zab (zal C (zaa 2) zag) zae))) (zaj (zbb e_bl)) zbu) (zaj (zbb (zpc C B (zab (zb4 2 ["_law_k", "_law_kid", "_law_grammar_here", "_law_name", "_law_tree_here", "_law_inner_here"] C (λ_=>.of rfl (by kernel_rfl)) (zgi C B (zal C (zaa 2) zag)) (zdt (C.comp _ _) (zax 0 (zax 1 zcg))) zde (zbn (C.comp _ _) zb3 (hk:=Qe _) (λ_=>trivial) (zab (zaa 2) (zab (zal (C.comp _ _) (zaa 5) (zaa 0)) (zab (zaa 1) zae))))) zae)))))))),λds Qr hn q=>?_⟩;obtain⟨g,x,d,rfl,ok,lk,q⟩:=q;have many:=ok.many;have sz:=VP;rcases lk with ⟨a,ks,rfl,l3,hks⟩|⟨o,_⟩
   .have fk:flats ks=true:=zdj λk m=>(hks k m).flat
    rw[zl7] at q
    ac_rfl
    refine .inl ⟨a,rfl,?_⟩
    ac_rfl
    rw[show(decide (0<=a) && decide (a<(((g.rs.map zbd).length:Nat):Int)))=thB a g.rs.length by rw[Qb];rfl]
    cases ha:thB a g.rs.length with
    | false=>
      rw[ha,JP] at q
      ac_rfl
      exact q
    | true=>
      rw[ha,YH] at q;have be:=(ok.each _ (zcf ha).2.1).2.1
      ac_rfl
      refine⟨_,zla ha,?_⟩
      ac_rfl
      by_cases hx:(g.at_ a).n=x
      .rw[Gq hx,YH] at q;rw[Gq hx]
       ac_rfl
       refine⟨_,zla ha,?_⟩
       ac_rfl
       refine⟨by lia,?_⟩;rw[zew];refine⟨zbc (λ_=>rfl) _,?_⟩
       ac_rfl
       rw[Qb]
       by_cases hl:(nms (g.at_ a).b).length=ks.length
       .rw[Gq hl,YH] at q;rw[Gq (show(((nms (g.at_ a).b).length:Nat):Int)=(ks.length:Nat) by lia)]
        ac_rfl
        refine⟨fk,?_⟩;rw[zhx];refine zsq (α:=VI×Nat) (enc:=zv2) (e:=λp=>.bool (g.isT m ((nms (g.at_ a).b).getD p.2 0) p.1)) (λp hp P hP=>?_) zx2 (by rw[JX];lia) ?_
        .obtain⟨k,i⟩:=p;have hi:=Vp hp;have lt:i<(nms (g.at_ a).b).length:=by rw[hl];exact hi.1
         have hk:k∈ks:=by rw[hi.2];exact ZG _
         have gi:(nms (g.at_ a).b)[i]? = some ((nms (g.at_ a).b).getD i 0):=by rw[Z4,Qu lt];rfl
         ac_rfl
         refine⟨_,zgr (i:=i) (by rw[Qj,gi];rfl),?_⟩
         ac_rfl
         refine⟨ok,hks k hk,hP _ rfl⟩
        .refine⟨ks.zipIdx.map λp=>g.isT m ((nms (g.at_ a).b).getD p.2 0) p.1,by rw[QN];rfl,?_⟩;have e:=zn7 (f:=λx d=>g.isT m x d) (nms (g.at_ a).b) ks [] hl;rw[Jj] at e;rw[Gn Qo,show(ks.zipIdx.map λp=>g.isT m ((nms (g.at_ a).b).getD p.2 0) p.1).all id=_ from e];exact q
       .rw[Gp hl,JP] at q;rw[Gp (show ¬(((nms (g.at_ a).b).length:Nat):Int)=(ks.length:Nat) by lia)]
        ac_rfl
        exact q
      .rw[Gp hx,JP] at q;rw[Gp hx]
       ac_rfl
       exact q
   .rw[zx0 o] at q
    cases o with
    | nil=>ac_rfl;exact q
    | one=>ac_rfl;exact q
    | three=>ac_rfl;exact q
    | tup=>ac_rfl;refine .inr ⟨_,rfl,?_⟩;ac_rfl;exact q
    | num=>ac_rfl;refine .inl ⟨_,rfl,?_⟩;ac_rfl;exact q
theorem zb3(B:Blt mg)(zb6:Def3 P w K mg base 1 "_law_whole" ["_law_found"] (spO K (λ_=>True) 1 zjf))(zat:Def3 P w K mg base 1 "_law_inner" ["_law_body"] (spO K (λ_=>True) 1 zdc))(T:Top3 K mg "_law_is_tree" zez):Def3 P w K mg base 23 "_law_is_tree" ["_law_grammar_here", "_law_name", "_law_tree_here"] (spO K (λ_=>True) 3 (ze6 22)):=zeu B zb6 zat T 22
end
section
variable {P:VO}{w:VR}{K:Qa}{mg:Str->Option VJ}{base:Heap}{k:Nat}
abbrev zfh:Stmt:=top 17
theorem zjw:FnScope ["_law_grammar_here", "_law_tree_here", "_law_kids", "_law_found", "_law_thing"] ["_law_grammar_here", "_law_tree_here"] (zad zfh):=⟨rfl,rfl,rfl,by decide +kernel,rfl,by decide +kernel,by decide +kernel⟩
theorem zey(B:Blt mg)(T:Top3 K mg "_law_word_of" zfh):∀m,Def3 P w K mg base (1+m) "_law_word_of" ["_law_grammar_here", "_law_tree_here"] (spO K (λ_=>True) 2 (zer m))
 | 0=>by
   obtain⟨f,fd,Fu,m⟩:=T.ex;refine⟨f,fd,Fu.ok zjw (zgk rfl) (λcdv A outer s H vs Q E hr h=>?_),m,Fu.kp,Fu.binds (λ_ _ _ _ _ _ us hl=>len2 hl λ_ _=>rfl)⟩;obtain⟨O,ds,Qr,ok,hφ,p,hl,is,q,kk⟩:=h;exact(zlr q).elim
 | m+1=>by
   have zbm:=zey B T m;refine mk_O (k:=1+m) T zjw (λ_ _ _ _ _ _ us hl=>len2 hl λ_ _=>rfl) rfl λf cdv A outer s H E O hφ C=>⟨_,(zah (zmb 2 1 ["_law_kid", "_law_grammar_here", "_law_tree_here", "_law_kids", "_law_found", "_law_thing"] C (λ_=>.of rfl (by kernel_rfl)) (zfl C (zal C (zaa 1) zag)) (za2 0) zde (zbn (C.comp _ _) zbm (hk:=Qe _) (λ_=>trivial) (zab (zaa 1) (zab (zaa 0) zae)))) (zah (za7 3 zov) (zah (zbh C (zbx (zfl C (zal C (zal C (zal C (zaa 0) zag) (zal C (zaa 1) zag)) zag))) (za2 (h:=1000) 4) (zaj (zsw 3 2 C (zaa 3) (zcj (zdq (T := "str") C B (zaa 4) B.str)) (zaa 4)))) (zaj (zbb (zaa 3)))))),λds Qr hn q=>?_⟩;obtain⟨g,d,rfl,ok,m10,gd,q⟩:=q;obtain⟨a,ks,rfl,l3,ha,hl,hks⟩:=gd;have sz:=VP;have be:=(ok.each _ (zcf ha).2.1).2.1
   have fk:flats ks=true:=zdj λk m=>(hks k m).lk.flat
   rw[zc2] at q
   have wl:(za6 (g.at_ a).b (ks.map (g.wordT m))).length<=16777216:=by
    have h1:=zeg ok (n:=m+1) (d:=zam a ks) ⟨a,ks,rfl,l3,ha,hl,hks⟩;have h3:2 ^ (m+1+1)<=2 ^ 23:=Nat.pow_le_pow_right (by decide) (by lia);have h4:(2:Nat) ^ 23=8388608:=by decide
    rw[zc2] at h1;lia
   have go:∀(b:List GThg) (ws:List (List Nat)) (v:List Nat) (x4:Option DV) (Dd:DEnds),(nms b).length=ws.length->v.length+(za6 b ws).length<=16777216->(∀x4:Option DV,Dd.nx [some (.im (zao g)),some (.im (zam a ks)),some (.own []),some (.im (.str (tx (v++za6 b ws)))),x4])->zee (gN 4) (zmi 3 2 (vD 3) (bD (isID "str" (vD 4))) (vD 4)) Dd (b.map zan) [some (.im (zao g)),some (.im (zam a ks)),some (.own (ws.map λw=>.str (tx w))),some (.im (.str (tx v))),x4]:=by
    intro b
    induction b with
    | nil=>
      intro ws v x4 Dd hl hv hD;have e:ws = []:=Zu hl.symm;subst e;have:=hD x4;rw[za6,QJ] at this;exact this
    | cons t b ih=>
      intro ws v x4 Dd hl hv hD
      cases t with
      | lt w=>
        rw[za6,Qi] at hv;refine⟨rfl,?_⟩
        ac_rfl
        refine⟨_,_,rfl,zrz (v:=v) (w:=w) (by lia),?_⟩
        exact ih ws (v++w) _ Dd hl (by rw[Qi];lia) (λx4=>by
         have z:=hD x4;rw[za6] at z;rw[QZ]
         exact z)
      | nm i=>
        match ws,hl,hv,hD with
        | [],hl,_,_=>exact absurd hl (by simp[nms,GThg.isN])
        | w::ws,hl,hv,hD=>
          rw[za6,Qi] at hv;refine⟨rfl,?_⟩
          ac_rfl
          refine⟨_,_,_,rfl,zrz (v:=v) (w:=w) (by lia),?_⟩
          exact ih ws (v++w) _ Dd (by have:(nms b).length+1=ws.length+1:=hl;lia) (by rw[Qi];lia) (λx4=>by
           have z:=hD x4;rw[za6] at z;rw[QZ]
           exact z)
   ac_rfl
   refine zhz (e:=λd=>.str (tx (g.wordT m d))) (λd hd P hP=>?_) (by lia) ?_
   .ac_rfl
    exact⟨ok,by lia,hks d hd,hP _ rfl⟩
   .refine⟨zbc (λ_=>rfl) _,?_⟩
    ac_rfl
    refine⟨_,zla ha,?_⟩
    ac_rfl
    have e0:Zf "" = tx []:=by decide +kernel
    rw[e0];have z:=go (g.at_ a).b (ks.map (g.wordT m)) [] none { nx:=retS (vD 3) { nx:=λx=>Qr (R.o PyData.none),rt:=Qr },rt:=Qr } (by rw[Qb];exact hl) (by rw[Yu];lia) (λx4=>⟨_,_,rfl,rfl,q⟩);rw[QN] at z;exact z
theorem zbm(B:Blt mg)(T:Top3 K mg "_law_word_of" zfh):Def3 P w K mg base 23 "_law_word_of" ["_law_grammar_here", "_law_tree_here"] (spO K (λ_=>True) 2 (zer 22)):=zey B T 22
end
section
variable {P:VO}{w:VR}{K:Qa}{mg:Str->Option VJ}{base:Heap}{k:Nat}
abbrev zib:Stmt:=top 18
theorem zoj:FnScope ["_law_tree_here"] ["_law_tree_here"] (zad zib):=⟨rfl,rfl,rfl,by decide +kernel,rfl,by decide +kernel,by decide +kernel⟩
theorem zg8(B:Blt mg)(T:Top3 K mg "_law_size" zib):∀m,Def3 P w K mg base (1+m) "_law_size" ["_law_tree_here"] (spO K (λ_=>True) 1 (zgm m))
 | 0=>by
   obtain⟨f,fd,Fu,m⟩:=T.ex;refine⟨f,fd,Fu.ok zoj (zgk rfl) (λcdv A outer s H vs Q E hr h=>?_),m,Fu.kp,Fu.binds (λ_ _ _ _ _ _ us hl=>len1 hl λ_=>rfl)⟩;obtain⟨O,ds,Qr,ok,hφ,p,hl,is,q,kk⟩:=h;exact(zls q).elim
 | m+1=>by
   have zc0:=zg8 B T m;refine mk_O (k:=1+m) T zoj (λ_ _ _ _ _ _ us hl=>len1 hl λ_=>rfl) rfl λf cdv A outer s H E O hφ C=>⟨_,(zaj (zbb (zbg C zag (z1r C B (zab (zb4 1 ["_law_kid", "_law_tree_here"] C (λ_=>.of rfl (by kernel_rfl)) (zfl C (zal C (zaa 0) zag)) (za2 0) zde (zbn (C.comp _ _) zc0 (hk:=Qe _) (λ_=>trivial) (zab (zaa 0) zae))) zae))))),λds Qr hn q=>?_⟩;obtain⟨g,d,rfl,m10,gd,q⟩:=q;obtain⟨a,ks,rfl,l3,ha,hl,hks⟩:=gd;have sz:=VP
   have fk:flats ks=true:=zdj λk m=>(hks k m).lk.flat
   rw[zkf] at q
   ac_rfl
   refine zhz (e:=λd=>.int (cntT m d:Nat)) (λd hd P hP=>?_) (by lia) ?_
   .ac_rfl
    exact⟨g,d,rfl,by lia,hks d hd,hP _ rfl⟩
   .refine⟨ks.map λd=>((cntT m d:Nat):Int),by rw[QN];rfl,?_⟩
    have e:∀l:List VI,(l.map λd=>((cntT m d:Nat):Int)).sum=((l.map (cntT m)).sum:Nat):=λl=>by
     induction l with
     | nil=>rfl
     | cons x l ih=>rw[Qp,ZD,ih,Qp,ZD];lia
    rw[e]
    ac_rfl
    have e2:(1:Int)+(((ks.map (cntT m)).sum:Nat):Int)=((1+(ks.map (cntT m)).sum:Nat):Int):=by lia
    rw[e2];exact q
theorem zc0(B:Blt mg)(T:Top3 K mg "_law_size" zib):Def3 P w K mg base 23 "_law_size" ["_law_tree_here"] (spO K (λ_=>True) 1 (zgm 22)):=zg8 B T 22
end
section
variable {P:VO}{w:VR}{K:Qa}{mg:Str->Option VJ}{base:Heap}{k:Nat}
abbrev zd7:Stmt:=top 19
theorem zky:FnScope ["_law_grammar_here", "_law_trees", "_law_more", "_law_ready", "_law_at", "_law_name", "_law_body"] ["_law_grammar_here"] (zad zd7):=⟨rfl,rfl,rfl,by decide +kernel,rfl,by decide +kernel,by decide +kernel⟩
theorem zcm(B:Blt mg)(zat:Def3 P w K mg base 1 "_law_inner" ["_law_body"] (spO K (λ_=>True) 1 zdc))(T:Top3 K mg "_law_least_trees" zd7):Def3 P w K mg base 2 "_law_least_trees" ["_law_grammar_here"] (spK K (λ_=>True) 1 zmr):=by
 refine mk_K T zky (λ_ _ _ _ _ _ us hl=>len1 hl λ_=>rfl) rfl λf cdv A outer s H E O hφ C=>⟨_,(zf1 (zjv 1) (zf1 (za7 2 e_bl) (zf1 (znl C (zv1 C (zaa 2)) (zah (za7 2 e_bl) (zah (zw3 3 1 C B) (zaj (zbh C (zbx (zgi C B (zal C (zaa 0) zag))) (zrh (h:=1000) C 4 (zax 5 (zax 6 zcg))) (zaj (s_if (t_w (zoy (znm 1 C (zaa 5)) (zl4 (zcj (zpc C B (zab (zb4 1 ["_law_one", "_law_grammar_here", "_law_trees", "_law_more", "_law_ready", "_law_at", "_law_name", "_law_body"] C (λ_=>.of rfl (by kernel_rfl)) (zco C (zbn C zat (λ_=>trivial) (zab (zaa 6) zae))) (za2 0) zde (zlz 4 (C.comp _ _) (zaa 0))) zae)))))) (zah (zw1 1 C (zbw (zab (zaa 4) (zab (ze7 C B (zab (zb4 1 ["_law_one", "_law_grammar_here", "_law_trees", "_law_more", "_law_ready", "_law_at", "_law_name", "_law_body"] C (λ_=>.of rfl (by kernel_rfl)) (zco C (zbn C zat (λ_=>trivial) (zab (zaa 6) zae))) (za2 0) zde (zji 4 (C.comp _ _) (zaa 0))) zae)) zae))) (zaa 5)) (zaj (za7 2 e_bl))) zbu))))))) (zu5 1)))),λds Qr hn q=>?_⟩;obtain⟨g,rfl,ok,q⟩:=q;have sz:=VP;have many:=ok.many
 ac_rfl
 refine⟨λk ρ=>∃(kvs:KD) (more:Bool) (x3 x4 x5 x6:Option DV),TreesG g kvs/\k=(if more=true then 4-kvs.length else 0)/\ρ = [some (.im (zao g)),some (.thg (DctN kvs)),some (.im (.bool more)),x3,x4,x5,x6],⟨_,[],true,none,none,none,none,zo8,rfl,rfl⟩,?_⟩;rintro k ρ ⟨kvs,more,x3,x4,x5,x6,tk,rfl,rfl⟩
 ac_rfl
 cases more with
 | false=>
   ac_rfl
   exact q kvs tk
 | true =>
   ac_rfl
   refine⟨kvs,.inl rfl,?_⟩
   ac_rfl
   refine⟨zbc zcl g.rs,rfl,?_⟩;rw[zhx];refine zaq (λi ρ=>∃(ext:KD) (x4 x5 x6:Option DV),TreesG g (kvs++ext)/\ρ = [some (.im (zao g)),some (.thg (DctN (kvs++ext))),some (.im (.bool (decide (0<ext.length)))),some (.thg (DctN kvs)),x4,x5,x6]) ⟨[],x4,x5,x6,by rw[QJ];exact tk,by rw[QJ];rfl⟩ (λρ hρ=>?_) λi d ρ N hd nx hρ=>?_
   .obtain⟨ext,x4,x5,x6,te,rfl⟩:=hρ;have l3:=te.ok.len;have l0:=tk.ok.len;rw[Qi] at l3;refine⟨_,?_,kvs++ext,decide (0<ext.length),_,_,_,_,te,rfl,rfl⟩;rw[Gm rfl,Qi]
    by_cases z:0<ext.length
    .rw[Gm (Gq z)];lia
    .rw[Gn (by simpa using z)];lia
   .obtain⟨ext,x4,x5,x6,te,rfl⟩:=hρ;rw[Qj] at hd;obtain⟨⟨y,j⟩,hy,rfl⟩:=Qf.mp hd;have hm:=Vp (Qw hy)
    obtain⟨r,hr0,rfl⟩:∃r,g.rs[j]? = some r/\zbd r=y:=by
     have lj:j<g.rs.length:=by have:=hm.1;rwa [Qb] at this
     exact⟨g.rs[j],Qu lj,by rw[hm.2,List.getElem_map]⟩
    have hr:=Qw hr0;have er:=ok.each r hr;have stay:N [some (.im (zao g)),some (.thg (DctN (kvs++ext))),some (.im (.bool (decide (0<ext.length)))),some (.thg (DctN kvs)),some (.im (.int (j:Nat))),some (.im (.int r.n)),some (.im (.tuple (r.b.map zan)))]:=nx _ ⟨ext,_,_,_,te,rfl⟩;refine⟨by show(true && (flat (zbd r) && true))=true;rw[zcl];rfl,?_⟩
    ac_rfl
    refine⟨kvs++ext,.inl rfl,?_⟩
    ac_rfl
    cases hz:KD.at_ (kvs++ext) r.n with
    | some t=>
      ac_rfl
      exact stay
    | none=>
      ac_rfl
      refine⟨by lia,?_⟩;rw[zew];refine⟨_,rfl,?_⟩;refine zgw (α:=Int) (enc:=.int) (e:=λi=>.bool (kvs.at_ i).isSome) (λi hi P hP=>?_) (by lia) ?_
      .refine⟨kvs,.inl rfl,?_⟩
       ac_rfl
       exact hP _ rfl
      refine⟨(nms r.b).map λi=>(kvs.at_ i).isSome,by rw[QN];rfl,?_⟩
      ac_rfl
      cases ha:((nms r.b).map λi=>(kvs.at_ i).isSome).all id with
      | false=>
        ac_rfl
        exact stay
      | true=>
        have hall:∀i∈nms r.b,(kvs.at_ i).isSome=true:=λi hi=>by
         have:=ZX.mp ha _ (Q8.mpr ⟨i,hi,rfl⟩);exact this
        have get:∀i∈nms r.b,kvs.at_ i=some ((kvs.at_ i).getD .none):=λi hi=>by
         have:=hall i hi
         cases z:kvs.at_ i with
         | none=>rw[z] at this;cases this
         | some d=>rfl
        ac_rfl
        refine⟨by lia,?_⟩;rw[zew];refine⟨_,rfl,?_⟩;refine zgw (α:=Int) (enc:=.int) (e:=λi=>(kvs.at_ i).getD .none) (λi hi P hP=>?_) (by lia) ?_
        .refine⟨kvs,.inl rfl,?_⟩
         ac_rfl
         exact⟨_,_,rfl,get i hi,hP (.o _) rfl⟩
        have kk:∀k∈(nms r.b).map (λi=>(kvs.at_ i).getD .none),∃i,kvs.at_ i=some k:=λk hk=>by
         obtain⟨i,hi,rfl⟩:=Q8.mp hk;exact⟨i,get i hi⟩
        have put:=te.put ok hr0 hz hall tk (ks:=(nms r.b).map λi=>(kvs.at_ i).getD .none) (by rw[Qb]) kk;have pl:=put.ok.len
        ac_rfl
        refine⟨?_,hz,?_,?_⟩
        .exact zkv (a:=(j:Nat)) λk hk=>by
          obtain⟨i,hi⟩:=kk k hk
          exact(tk.ok.nt _ (KD.mem hi)).lk.flat
        .rw[Qi,QH] at pl;lia
        .ac_rfl
         refine nx _ ⟨ext ++ [(r.n,zam (j:Nat) ((nms r.b).map λi=>(kvs.at_ i).getD .none))],some (.im (.int (j:Nat))),some (.im (.int r.n)),some (.im (.tuple (r.b.map zan))),?_,?_⟩
         .rw[<- QZ];exact put
         .rw[<- QZ,Qi];rw[show decide (0<ext.length + [(r.n,zam (j:Nat) ((nms r.b).map λi=>(kvs.at_ i).getD .none))].length)=true from Gq (by rw[QH];lia)];rfl
end
section
variable {P:VO}{w:VR}{K:Qa}{mg:Str->Option VJ}{base:Heap}{k:Nat}
abbrev zin:Stmt:=top 20
theorem zn6:FnScope ["_law_deal_here", "_law_grammar_here", "_law_trees", "_law_name", "_law_deep", "_law_some", "_law_at", "_law_one", "_law_body", "_law_inner_here"] ["_law_deal_here", "_law_grammar_here", "_law_trees", "_law_name", "_law_deep"] (zad zin):=⟨rfl,rfl,rfl,by decide +kernel,rfl,by decide +kernel,by decide +kernel⟩
theorem zhd(B:Blt mg)(d_law_draw:zgx P w K mg base)(zat:Def3 P w K mg base 1 "_law_inner" ["_law_body"] (spO K (λ_=>True) 1 zdc))(T:Top3 K mg "_law_tree" zin):∀m,Def3 P w K mg base (1+m) "_law_tree" ["_law_deal_here", "_law_grammar_here", "_law_trees", "_law_name", "_law_deep"] (spG K IsDeal 5 (zgl m))
 | 0=>by
   obtain⟨f,fd,Fu,m⟩:=T.ex;refine⟨f,fd,Fu.ok zn6 (zoq rfl) (λcdv A outer s H vs Q E hr h=>?_),m,Fu.kp,Fu.binds (λ_ _ _ _ _ _ us hl=>len5 hl λ_ _ _ _ _=>rfl)⟩;obtain⟨O,ds,Qr,ok,hφ,p,hl,is,q,kk⟩:=h;exact(zl1 q).elim
 | m+1=>by
   have zcy:=zhd B d_law_draw zat T m;refine mk_G (k:=1+m) T zn6 (λ_ _ _ _ _ _ us hl=>len5 hl λ_ _ _ _ _=>rfl) rfl λf cdv A outer s H E O hφ C=>(have hO:∀j:Unit,IsDeal ((λ_:Unit=>O) j):=λ_=>hφ;⟨_,(zah (za7 5 (zg0 zae)) (zah (zbh C (zbx (zgi C B (zal C (zaa 1) zag))) (zrh (h:=1000) C 6 (zax 7 (zax 8 zcg))) (zaj (s_if (t_w (zoy (t_eq C (zaa 7) (zaa 3)) (zl4 (zcj (zpc C B (zab (zb4 1 ["_law_other", "_law_deal_here", "_law_grammar_here", "_law_trees", "_law_name", "_law_deep", "_law_some", "_law_at", "_law_one", "_law_body", "_law_inner_here"] C (λ_=>.of rfl (by kernel_rfl)) (zco C (zbn C zat (hk:=Q3 (by decide) (Ja 1 m)) (λ_=>trivial) (zab (zaa 8) zae))) (za2 0) zde (zlz 3 (C.comp _ _) (zaa 0))) zae)))))) (zaj (zk8 5 C (zaa 6))) zbu))) (zah (s_if (t_eq C (zaa 4) zag) (zaj (zbb (zji 2 C (zaa 3)))) zbu) (zah (za7 6 (zal C (zaa 5) (zbl 0 C d_law_draw (hk:=Q3 (by decide) (Ja 1 m)) hO (zab (zb1 C B (zab (zaa 5) zae)) zae)))) (zah (za7 9 (zbn C zat (hk:=Q3 (by decide) (Ja 1 m)) (λ_=>trivial) (zab (zal C (zal C (zal C (zaa 1) zag) (zaa 6)) zag) zae))) (zaj (zbb (zbw (zab (zaa 6) (zab (ze7 C B (zab (zb4 1 ["_law_one", "_law_deal_here", "_law_grammar_here", "_law_trees", "_law_name", "_law_deep", "_law_some", "_law_at", "._law_one", "_law_body", "_law_inner_here"] C (λ_=>.of rfl (by kernel_rfl)) (zco C (zaa 9)) (za2 0) zde (zg1 (C.comp _ _) zcy (hk:=Qe _) (upD hO) (g_ob 1 (g_im (zaa 2) (zid 3 (g_im (zaa 0) (g_im (z1b (zaa 5) zag) zie))))))) zae)) zae)))))))))),λds Qr hn q=>?_⟩);obtain⟨g,kvs,x,j,rfl,ok,tk,hx,jm,m5,q⟩:=q;have sz:=VP;have many:=ok.many
   ac_rfl
   refine⟨zbc zcl g.rs,rfl,?_⟩;rw[zhx];refine zaq (λi ρ=>∃(as:List Nat) (x6 x7 x8:Option DV),(∀a∈as,thB (a:Nat) g.rs.length=true/\∀i∈nms (g.at_ (a:Nat)).b,(kvs.at_ i).isSome=true)/\(∀a r,a<i->g.rs[a]? = some r->r.n=x->(∀i∈nms r.b,(kvs.at_ i).isSome=true)->a∈as)/\as.length<=i/\ρ = [some .ob,some (.im (zao g)),some (.thr (DctN kvs)),some (.im (.int x)),some (.im (.int (j:Nat))),some (.own (as.map λa=>.int (a:Nat))),x6,x7,x8,none]) ⟨[],none,none,none,(λ_ h=>by cases h),(λ_ _ h=>by lia),Qe _,rfl⟩ (λρ hρ=>?_) λi d ρ N hd nx hρ=>?_
   .obtain⟨as,x6,x7,x8,ga,ca,la,rfl⟩:=hρ;rw[Qb,JX,Qb] at la ca;obtain⟨d0,hd0⟩:=Zk.mp hx;have md:=KD.mem hd0
    have pos:0<as.length:=by
     obtain⟨r,hr,e1,e2⟩:=tk.ok.rule _ md;obtain⟨a,ha,e⟩:=Y6.mp hr;exact Jy (ca a r ha (by rw[Qu ha,e]) e1 e2)
    ac_rfl
    match j,jm,q with
    | 0,_,q=>
      ac_rfl
      refine⟨kvs,.inr rfl,?_⟩
      ac_rfl
      exact⟨x,d0,rfl,hd0,q d0 ((tk.gd _ md).more (by have:=tk.ok.len;lia))⟩
    | j+1,jm,q=>
      ac_rfl
      refine dr (by rw[Qb];lia) (by rw[Qb];lia) λk hk=>?_;rw[Qb] at hk;have hk:k<as.length:=by lia
      obtain⟨gk,nk⟩:=ga as[k] (ZG hk);have er:=ok.each _ (zcf gk).2.1;refine⟨_,zgr (i:=k) (by rw[Qj,Qu hk];rfl),rfl,?_⟩
      ac_rfl
      refine⟨_,zla gk,?_⟩
      ac_rfl
      refine⟨by lia,?_⟩;rw[zew];refine⟨zbc (λ_=>rfl) _,?_⟩
      ac_rfl
      refine zrm (α:=Int) (β:=VI) (enc:=.int) (enc2:=λd=>d) (good:=Gd g (j+3)) (λi hi Py hP=>?_) (by lia) λbs hb hl=>?_
      .have e1:(((j+1:Nat):Int)-1)=((j:Nat):Int):=by lia
       ac_rfl
       refine⟨DctN kvs,.inr rfl,?_⟩
       ac_rfl
       exact⟨g,kvs,i,j,by rw[<- e1];rfl,ok,tk,nk i hi,by lia,by lia,λd hd=>hP d hd⟩
      .ac_rfl
       rw[List.map_id'];exact q (zam (as[k]:Nat) bs) ⟨_,bs,rfl,by rw[hl];have:=er.2.2.1;lia,gk,hl.symm,hb⟩
   .obtain⟨as,x6,x7,x8,ga,ca,la,rfl⟩:=hρ;rw[Qj] at hd;obtain⟨⟨y,l⟩,hy,rfl⟩:=Qf.mp hd;rw[ZB,Qj,Option.map_map] at hy;obtain⟨r,hr,e⟩:=Qf.mp hy;obtain⟨rfl,rfl⟩:zbd r=y/\0+i=l:=⟨Gr Prod.fst e,Gr Ve e⟩;rw[JN];have hm:=Qw hr;have er:=ok.each r hm;have li:=(Qx.mp hr).1
    have go:∀(b:Bool),(b=true->r.n=x/\∀i∈nms r.b,(kvs.at_ i).isSome=true)->(b=false->¬(r.n=x/\∀i∈nms r.b,(kvs.at_ i).isSome=true))->N [some .ob,some (.im (zao g)),some (.thr (DctN kvs)),some (.im (.int x)),some (.im (.int (j:Nat))),some (.own ((if b=true then as ++ [i] else as).map λa=>.int (a:Nat))),some (.im (.int (i:Nat))),some (.im (.int r.n)),some (.im (.tuple (r.b.map zan))),none]:=λb h1 h2=>by
     refine nx _ ⟨if b=true then as ++ [i] else as,_,_,_,λa ha=>?_,λa r' h3 h4 h5 h6=>?_,?_,rfl⟩
     .cases b with
      | false=>exact ga a ha
      | true=>
        rcases Q9.mp ha with ha|ha
        .exact ga a ha
        .rw[Qn.mp ha]
         have e:g.at_ (i:Nat)=r:=by
          unfold GraZ.at_;rw[ZS,Z4,hr];rfl
         rw[e];refine⟨?_,(h1 rfl).2⟩;unfold thB;rw[Gq (show(0:Int)<=(i:Nat) by lia),Gq (show((i:Nat):Int)<(g.rs.length:Nat) by lia)];rfl
     .by_cases z:a<i
      .have:=ca a r' z h4 h5 h6
       cases b with
       | false=>exact this
       | true=>exact ZU _ this
      .have z:a=i:=by lia
       subst z;rw[hr] at h4;cases h4
       cases b with
       | false=>exact absurd ⟨h5,h6⟩ (h2 rfl)
       | true=>exact QF _ (by simp)
     .cases b with
      | false=>show as.length<=i+1;lia
      | true=>show(as ++ [i]).length<=i+1;rw[Qi,QH];lia
    refine⟨by show(true && (flat (zbd r) && true))=true;rw[zcl];rfl,?_⟩
    ac_rfl
    by_cases hxx:r.n=x
    .rw[Gq hxx]
     ac_rfl
     refine⟨by lia,?_⟩;rw[zew];refine⟨_,rfl,?_⟩;refine zgw (α:=Int) (enc:=.int) (e:=λi=>.bool (kvs.at_ i).isSome) (λi hi P hP=>?_) (by lia) ?_
     .refine⟨kvs,.inr rfl,?_⟩
      ac_rfl
      exact hP _ rfl
     refine⟨(nms r.b).map λi=>(kvs.at_ i).isSome,by rw[QN];rfl,?_⟩
     ac_rfl
     cases ha:((nms r.b).map λi=>(kvs.at_ i).isSome).all id with
     | false=>
       ac_rfl
       refine go false (λz=>by cases z) λ_ zz=>?_;obtain⟨_,z⟩:=zz;rw[List.all_eq_false] at ha;obtain⟨b,hb,nb⟩:=ha;obtain⟨i,hi,rfl⟩:=Q8.mp hb;exact nb (z i hi)
     | true=>
       ac_rfl
       refine⟨by rw[Qb];lia,?_⟩;have z:=go true (λ_=>⟨hxx,λi hi=>ZX.mp ha _ (Q8.mpr ⟨i,hi,rfl⟩)⟩) λz=>by cases z
       rw[Gm rfl,Q6] at z;exact z
    .rw[Gp hxx]
     ac_rfl
     exact go false (λz=>by cases z) λ_ ⟨z,_⟩=>hxx z
theorem zcy(B:Blt mg)(d_law_draw:zgx P w K mg base)(zat:Def3 P w K mg base 1 "_law_inner" ["_law_body"] (spO K (λ_=>True) 1 zdc))(T:Top3 K mg "_law_tree" zin):Def3 P w K mg base 6 "_law_tree" ["_law_deal_here", "_law_grammar_here", "_law_trees", "_law_name", "_law_deep"] (spG K IsDeal 5 (zgl 5)):=zhd B d_law_draw zat T 5
end
section
variable {P:VO}{w:VR}{K:Qa}{mg:Str->Option VJ}{base:Heap}{k:Nat}
abbrev ziy:Stmt:=top 21
theorem zur:FnScope ["_law_grammar_here", "_law_word_here", "_law_tree_here", "_law_size_here"] ["_law_grammar_here", "_law_word_here"] (zad ziy):=⟨rfl,rfl,rfl,by decide +kernel,rfl,by decide +kernel,by decide +kernel⟩
theorem zeo(B:Blt mg)(zea:Def3 P w K mg base 4 "tree_above" ["grammar", "word"] (spO K (λ_=>True) 2 zqu))(zem:Def3 P w K mg base 1 "_law_under" ["_law_less", "_law_more"] (spO K (λ_=>True) 2 zoc))(zeq:Def3 P w K mg base 2 "_law_sizes" ["_law_grammar_here", "_law_word_here"] (spV K (λ_=>True) 2 zoa))(zb3:Def3 P w K mg base 23 "_law_is_tree" ["_law_grammar_here", "_law_name", "_law_tree_here"] (spO K (λ_=>True) 3 (ze6 22)))(zbm:Def3 P w K mg base 23 "_law_word_of" ["_law_grammar_here", "_law_tree_here"] (spO K (λ_=>True) 2 (zer 22)))(zc0:Def3 P w K mg base 23 "_law_size" ["_law_tree_here"] (spO K (λ_=>True) 1 (zgm 22)))(T:Top3 K mg "_law_right" ziy):Def3 P w K mg base 24 "_law_right" ["_law_grammar_here", "_law_word_here"] (spO K (λ_=>True) 2 zlo):=by
 refine mk_O T zur (λ_ _ _ _ _ _ us hl=>len2 hl λ_ _=>rfl) rfl λf cdv A outer s H E O hφ C=>⟨_,(zah (za7 2 (zbn C zea (λ_=>trivial) (zab (zaa 0) (zab (zaa 1) zae)))) (zah (za7 3 (zyz C zeq (λ_=>trivial) (zab (zaa 0) (zab (zaa 1) zae)) (zc1 (zab zag (zab zag (zab (zb1 C B (zab (zaa 1) zae)) zae)))) zgq)) (zah (s_if (t_w (w_or (t_is (zaa 2) zgq) (zgp (t_is (zaa 3) zgq)))) (zaj (zbb (zvx (e_is (zaa 2) zgq) (zu1 (e_is (zaa 3) zgq))))) zbu) (zah (s_if (t_w (w_or (zef (zcj (zbn C zb3 (λ_=>trivial) (zab (zaa 0) (zab zag (zab (zaa 2) zae)))))) (zgp (zef (zcj (zbn C zem (λ_=>trivial) (zab (zaa 1) (zab (zbn C zbm (λ_=>trivial) (zab (zaa 0) (zab (zaa 2) zae))) zae)))))))) (zaj (zbb e_bl)) zbu) (zaj (zbb (e_eq C (zbn C zc0 (λ_=>trivial) (zab (zaa 2) zae)) (zaa 3)))))))),λds Qr hn q=>?_⟩;obtain⟨g,u,rfl,hg,hw,h6,q⟩:=q;have sz:=VP;have ll:=zd2 (w:=u) (by lia)
 ac_rfl
 refine⟨hg,hw,λB oB rB fB=>?_⟩;rw[zru hg oB fB]
 cases h1:B.at_ (0,0,u.length) with
 | none=>
   refine⟨rfl,?_⟩
   ac_rfl
   refine⟨hg,hw,λL oL rL fL=>?_⟩;rw[ziu hg oL fL];have bs:=zj3 hg h6 rB fB rL fL;rw[h1] at bs;rcases bs with ⟨_,e⟩|⟨s,d,z,e,_⟩
   ·(repeat first|refine⟨_,ll,?_⟩|refine⟨ll,?_⟩|infer_instance)
    refine⟨prtK (0,0,u.length),rfl,?_⟩
    ac_rfl
    rw[zbr,e]
    ac_rfl
    exact q
   .cases e
 | some v=>
   refine⟨oB.fl _ (AL.at_mem h1),?_⟩
   ac_rfl
   refine⟨hg,hw,λL oL rL fL=>?_⟩;rw[ziu hg oL fL];have bs:=zj3 hg h6 rB fB rL fL;rw[h1] at bs;rcases bs with ⟨e,_⟩|⟨s,d,z,e1,e2,tr⟩
   .cases e
   .cases e1;have tr:=tr.more (show 21<=22 by decide);obtain⟨t1,t2,t3,t4⟩:=zoo hg tr;obtain⟨a,ks,rfl,_⟩:=id t1
    (repeat first|refine⟨_,ll,?_⟩|refine⟨ll,?_⟩|infer_instance)
    refine⟨prtK (0,0,u.length),rfl,?_⟩
    ac_rfl
    rw[zbr,e2]
    ac_rfl
    refine⟨hg,t1.lk,_,rfl,?_⟩;show if(!(g.isT 22 0 (zam a ks)))=true then _ else _;rw[t2]
    ac_rfl
    refine⟨hg,Qe _,t1,?_⟩
    ac_rfl
    refine⟨hw,?_,zft hg t1,?_⟩
    .have h3:=zeg hg t1;have h4:(2:Nat) ^ (22+1)=8388608:=by decide
     show(g.wordT 22 (zam a ks)).length<=_;lia
    refine⟨_,rfl,?_⟩;show if(!(decide (metN u (g.wordT 22 (zam a ks)) 0=u.length)))=true then _ else _;rw[t4,Gq rfl]
    ac_rfl
    refine⟨g,_,rfl,Qe _,t1,?_⟩
    ac_rfl
    show Qr (.o (.bool (decide ((((cntT 22 (zam a ks):Nat):Int))=((s:Nat):Int)))));rw[t3,Gq rfl];exact q
end
section
variable {P:VO}{w:VR}{K:Qa}{mg:Str->Option VJ}{base:Heap}{k:Nat}
abbrev sLaw:Stmt:=top 22
theorem z1g:FnScope ["_law_script", "_law_deal_here", "_law_letters_here", "_law_grammar_here", "_law_trees", "_law_words", "_law_k", "_law_whole_here", "_law_less", "_law_word_here", "_law_some"] ["_law_script"] (zad sLaw):=⟨rfl,rfl,rfl,by decide +kernel,rfl,by decide +kernel,by decide +kernel⟩
theorem zy6(B:Blt mg)(d_law_deal:Def3 P w K mg base 1 "_law_deal" ["_law_script", "_law_base"] (zh0 K))(d_law_draw:zgx P w K mg base)(zdn:Def3 P w K mg base 2 "_law_letters" ["_law_deal_here"] (spD K IsDeal 0 zej))(zdp:Def3 P w K mg base 2 "_law_grammar" ["_law_deal_here", "_law_letters_here"] (spD K IsDeal 1 (zlx 7)))(zfa:Def3 P w K mg base 2 "_law_word" ["_law_deal_here", "_law_letters_here", "_law_most"] (spD K IsDeal 2 zqf))(zbm:Def3 P w K mg base 23 "_law_word_of" ["_law_grammar_here", "_law_tree_here"] (spO K (λ_=>True) 2 (zer 22)))(zcm:Def3 P w K mg base 2 "_law_least_trees" ["_law_grammar_here"] (spK K (λ_=>True) 1 zmr))(zcy:Def3 P w K mg base 6 "_law_tree" ["_law_deal_here", "_law_grammar_here", "_law_trees", "_law_name", "_law_deep"] (spG K IsDeal 5 (zgl 5)))(zeo:Def3 P w K mg base 24 "_law_right" ["_law_grammar_here", "_law_word_here"] (spO K (λ_=>True) 2 zlo))(Fu:Fun K "law" "law" sLaw f₁ fd₁):FnOk P w K mg base CX0 25 f₁ fd₁ ["_law_script"] (zif K):=by
 refine zw8 (k:=24) Fu z1g rfl (λf cdv A outer s H E C=>?_) (λf cdv A outer s H E C=>?_)
 .obtain⟨fP,fdP,G,mP,kpP,bnP⟩:=d_law_deal.ex;exact zbi (i:=1) (Go (by kernel_rfl)) rfl (by first|exact Or.inl rfl|exact Or.inr rfl) (zb7 (k:=24) (G.mono (by decide)) (C.room ()) rfl mP kpP bnP .nil zdg (zas (zai (i:=0) rfl (by first|exact Or.inl rfl|exact Or.inr (Or.inl rfl)|exact Or.inr (Or.inr rfl))) (zas za0 zbj)))
 .have hO:∀j:Addr×Addr,IsDeal ((λj:Addr×Addr=>zh2 j.1 j.2) j):=λj=>zqp _ _;refine⟨_,(zah (za7 2 (zbl 1 C zdn hO zae)) (zah (za7 3 (zbl 1 C zdp hO (zab (zaa 2) zae))) (zah (z0p 4 C zcm (λ_=>trivial) (zab (zaa 3) zae)) (zah (zmb 5 1 ["_law_k", "_law_script", "_law_deal_here", "_law_letters_here", "_law_grammar_here", "_law_trees", "_law_words", "._law_k", "_law_whole_here", "_law_less", "_law_word_here", "_law_some"] C (λ_=>.of rfl (by kernel_rfl)) (i_r1 C B (zab zag zae)) (za2 0) zde (zbl 2 (C.comp _ _) zfa (upD hO) (zab (zaa 3) (zab zag zae)))) (zah (zbh C (zbx (i_r1 C B (zab (zy3 C zag (zmv C B (zab (zlz 4 C zag) zae))) zae))) (za2 (h:=1000) 6) (zah (za7 7 (zbn C zbm (λ_=>trivial) (zab (zaa 3) (zab (zg1 C zcy hO (g_ob 1 (g_im (zaa 3) (zid 4 (g_im zag (g_im zag zie)))))) zae)))) (zaj (zk8 5 C (zcx C (zr0 C zov (zb4 1 ["_law_letter", "_law_script", "_law_deal_here", "_law_letters_here", "_law_grammar_here", "_law_trees", "_law_words", "_law_k", "_law_whole_here", "_law_less", "_law_word_here", "_law_some"] C (λ_=>.of rfl (by kernel_rfl)) (zu7 (zcx C (zaa 7) zga (zcc zag))) (za2 0) (zis (t_eq (C.comp _ _) (zbl 2 (C.comp _ _) d_law_draw (upD hO) (zab zag zae)) zag)) (zaa 0))) zga (zcc zag)))))) (zah (za7 8 (zbw (zab (zal C (zaa 3) zag) (zab (zcx C (zal C (zaa 3) zag) (zcc zag) zga) zae)))) (zah (zbh C (zbx (zco C (zbg C (zaa 5) (zcx C (zaa 5) zga (zcc zag))))) (za2 (h:=1000) 9) (zaj (zbh C (zbx (zco C (zg0 (zab (zaa 3) (zab (zaa 8) (zab (zaa 3) zae)))))) (za2 (h:=1000) 10) (zaj (s_if (zef (zcj (zbn C zeo (λ_=>trivial) (zab (zaa 10) (zab (zaa 9) zae))))) (zaj (zbb e_bl)) zbu))))) (zaj (zbb e_bl))))))))),?_⟩;have sz:=VP
  ac_rfl
  intro w w1 w3 wl _;refine⟨zbc (λ_=>rfl) _,?_⟩
  ac_rfl
  refine⟨w1,by lia,wl,λg g1 g3 gr hg=>⟨zd0 g,?_⟩⟩
  have ok:GTOk g:=⟨g1,g3,by lia,λr hr=>by
   obtain⟨a1,a2,a3,a4,a5⟩:=hg r hr;refine⟨⟨a1,a2⟩,a3,by unfold nms;rw[Qb];exact a4,λt ht=>?_⟩;have:=a5 t ht
   cases t with
   | nm i=>exact⟨this.1,by have:=this.2;lia⟩
   | lt v=>obtain⟨c,hc,rfl⟩:=this;exact⟨c,wl c hc,rfl⟩⟩
  ac_rfl
  refine⟨ok,λkvs tk=>?_⟩
  ac_rfl
  refine⟨by decide,by decide,?_⟩;refine zui (enc2:=λv=>.str (tx v)) (good:=λv:List Nat=>WdOk v/\v.length<=6) (λc hc Py hPy=>?_) (by decide) λws hws hlen=>?_
  .ac_rfl
   refine⟨w1,by lia,by decide,λv hv l6=>hPy v ⟨⟨by have l6:v.length<=6:=l6;lia,λc hc=>by have:97<=c/\c<123:=wl c (hv c hc);lia⟩,l6⟩⟩
  rw[Zx] at hlen;refine⟨zbc (λ_=>rfl) _,?_⟩
  ac_rfl
  refine⟨kvs,.inl rfl,?_⟩
  ac_rfl
  obtain⟨v,hv,v1,v0⟩:∃v:Nat,(if(if false=true then !(kvs.at_ 0).isSome else(kvs.at_ 0).isSome)=true then(1:Int) else 0)=(v:Nat)/\v<=1/\(0<v->(kvs.at_ 0).isSome=true):=by
   rw[Gn Qo]
   cases h:(kvs.at_ 0).isSome with
   | true=>exact⟨1,rfl,Qe _,λ_=>rfl⟩
   | false=>exact⟨0,rfl,QC _,λz=>absurd z (QY _)⟩
  rw[hv];refine⟨by lia,by lia,?_,?_⟩
  .exact .inl ⟨by decide,by decide⟩
  ac_rfl
  refine⟨by lia,by lia,rfl,?_⟩;refine zaq (λj ρ=>∃(ws:List (List Nat)) (x6 x7:Option DV),(∀v∈ws,WdOk v/\v.length<=6)/\ws.length=3+j/\ρ = [none,some .ob,some (.own (w.map λc=>.str (sg c))),some (.im (zao g)),some (.thg (DctN kvs)),some (.own (ws.map λv=>.str (tx v))),x6,x7,none,none,none]) ⟨ws,none,none,hws,hlen,rfl⟩ (λρ hρ=>?_) λj d ρ N hd nx hρ=>?_
  .obtain⟨ws,x6,x7,hws,hlen,rfl⟩:=hρ;rw[zdm] at hlen;have ok2:GTOk ⟨g.n,g.rs.drop 1⟩:=⟨g1,g3,by show(g.rs.drop 1).length<=6;rw[Zh];lia,λr hr=>ok.each r (ZW hr)⟩
   have eg:Vf [.int g.n,.tuple (cutL (g.rs.map zbd) (some 1) none)]=zao ⟨g.n,g.rs.drop 1⟩:=by
    have:cutL (g.rs.map zbd) (some 1) none=(g.rs.drop 1).map zbd:=by
     rw[V9];exact zs6 _ 1
    rw[this];rfl
   ac_rfl
   rw[show(R.o (Vf [(R.o (Jo g.n)).d,(R.o (Vf (cutL (VH zbd g.rs) (some 1) none))).d]))=R.o (zao ⟨g.n,g.rs.drop 1⟩) from Gr R.o eg];refine⟨zd0 _,?_⟩;have fg:=zd0 g;have fg2:=zd0 ⟨g.n,g.rs.drop 1⟩
   have hsl:slcF none (some 1) (.list (ws.map λv=>Yq (tx v)))=some (.n ((ws.take 1).map λv=>.str (tx v))):=by
    show some (R.n (cutL _ none (some ((1:Nat):Int))))=_;rw[zf2,V8]
   have hadd:addF (.list (ws.map λv=>Yq (tx v))) (.list ((ws.take 1).map λv=>.str (tx v)))=some (.n ((ws++ws.take 1).map λv=>.str (tx v))):=by
    rw[Q6];exact zxo (by rw[Qb,Qb,QT];lia)
   (repeat first|refine⟨_,hsl,?_⟩|refine⟨hsl,?_⟩|refine⟨_,hadd,?_⟩|refine⟨hadd,?_⟩|infer_instance)
   have good:∀v∈ws++ws.take 1,WdOk v/\v.length<=6:=λv hv=>by
    rcases Q9.mp hv with h|h
    .exact hws v h
    .exact hws v (Zv h)
   refine zaq (λi ρ=>∃(y9 y10:Option DV),ρ = [none,some .ob,some (.own (w.map λc=>.str (sg c))),some (.im (zao g)),some (.thg (DctN kvs)),some (.own (ws.map λv=>.str (tx v))),x6,x7,some (.im (zao ⟨g.n,g.rs.drop 1⟩)),y9,y10]) ⟨_,_,rfl⟩ (λρ hρ=>?_) λi d ρ N hd nx hρ=>?_
   .obtain⟨y9,y10,rfl⟩:=hρ;rfl
   .obtain⟨y9,y10,rfl⟩:=hρ;rw[Qj] at hd;obtain⟨v,hv,rfl⟩:=Qf.mp hd;obtain⟨gv,g6⟩:=good v (Qw hv);refine⟨rfl,?_⟩
    ac_rfl
    refine zaq (λi ρ=>∃(y10:Option DV),ρ = [none,some .ob,some (.own (w.map λc=>.str (sg c))),some (.im (zao g)),some (.thg (DctN kvs)),some (.own (ws.map λv=>.str (tx v))),x6,x7,some (.im (zao ⟨g.n,g.rs.drop 1⟩)),some (.im (.str (tx v))),y10]) ⟨_,rfl⟩ (λρ hρ=>?_) λi d ρ N hd nx2 hρ=>?_
    .obtain⟨y10,rfl⟩:=hρ;exact nx _ ⟨_,_,rfl⟩
    .obtain⟨y10,rfl⟩:=hρ
     obtain⟨g',ok',rfl⟩:∃g',GTOk g'/\d=zao g':=by
      have h:=Qw hd;rcases Q1.mp h with rfl|h
      .exact⟨_,ok,rfl⟩
      .rcases Q1.mp h with rfl|h
       .exact⟨_,ok2,rfl⟩
       .exact⟨_,ok,Qn.mp h⟩
     refine⟨zd0 g',?_⟩
     ac_rfl
     refine⟨ok',gv,g6,?_⟩
     ac_rfl
     exact nx2 _ ⟨_,rfl⟩
  .obtain⟨ws,x6,x7,hws,hlen,rfl⟩:=hρ;obtain⟨hj,rfl⟩:=zcv hd;refine⟨rfl,?_⟩
   ac_rfl
   refine⟨DctN kvs,.inl rfl,?_⟩
   ac_rfl
   refine⟨g,kvs,0,4,rfl,ok,tk,v0 (by lia),by decide,Qe _,λd gd=>?_⟩
   ac_rfl
   have gd:=gd.more (show 4+3<=22 by decide);refine⟨ok,Qe _,gd,rfl,?_⟩;have low:=zft ok gd;have wl2:=zeg ok gd;have h4:(2:Nat) ^ (22+1)=8388608:=by decide
   have s12:slcF none (some (12:Int)) (.str (tx (g.wordT 22 d)))=some (.o (.str (tx ((g.wordT 22 d).take 12)))):=by
    rw[zh1 (by lia)];exact Gr (λx=>some (R.o (.str (tx x)))) (zf2 (g.wordT 22 d) 12)
   ac_rfl
   refine⟨_,s12,?_⟩
   ac_rfl
   refine zmg (enc:=λc=>.str (sg c)) (as:=(g.wordT 22 d).take 12) (enc2:=λc=>.str (tx [c])) (good:=λc=>c<128) (λc hc Pn Py hPn hPy=>?_) (by rw[QT];lia) λv hv hlp=>?_
   .ac_rfl
    refine dr (by decide) (by decide) λk hk=>?_
    ac_rfl
    by_cases hk0:((k:Nat):Int)=0
    .rw[Gq hk0];exact⟨_,_,rfl,rfl,hPy c (low c (Zv hc))⟩
    .rw[Gp hk0];exact hPn
   .rw[QT] at hlp;obtain⟨ys,e1,e2,e3⟩:=znw v (by lia);refine⟨ys,e1,e2,?_⟩;rw[e3]
    have s6:slcF none (some (6:Int)) (.str (tx v))=some (.o (.str (tx (v.take 6)))):=by
     rw[zh1 (by lia)];exact Gr (λx=>some (R.o (.str (tx x)))) (zf2 v 6)
    (repeat first|refine⟨_,s6,?_⟩|refine⟨s6,?_⟩|infer_instance)
    refine⟨by rw[Qb];lia,?_⟩;refine nx _ ⟨ws ++ [v.take 6],_,_,λx hx=>?_,by rw[Qi,hlen];rfl,by rw[Q6];rfl⟩;rcases Q9.mp hx with hx|hx
    .exact hws x hx
    .rw[Qn.mp hx];have l6:(v.take 6).length<=6:=by rw[QT];exact Nat.min_le_left _ _
     exact⟨⟨by lia,λc hc=>hv c (Zv hc)⟩,l6⟩
end
def DIn(K:Qa)(x:Str)(st:Stmt):Prop:=∃(f:Addr) (od an:Option Addr) (sl:Array (Option VJ)) (oc kV dc pm cd ct:VJ),QB K mainGlobals x=some (some (.ref f))/\K.lookup f=some ⟨oc,od,.func (Zb x x (zbk st) (zay st) (zad st) .none kV dc pm an cd ct),sl⟩/\Ju K cd x=true/\ZV K (.ref f)=true
theorem din_mk{K:Qa}{x:Str}{st:Stmt}{f:Addr}{od an:Option Addr}{sl:Array (Option VJ)}{oc kV dc pm cd ct:VJ}(a:QB K mainGlobals x=some (some (.ref f)))(l:K.lookup f=some ⟨oc,od,.func (Zb x x (zbk st) (zay st) (zad st) .none kV dc pm an cd ct),sl⟩)(c:Ju K cd x=true)(k:ZV K (.ref f)=true):DIn K x st:=⟨f,od,an,sl,oc,kV,dc,pm,cd,ct,a,l,c,k⟩
theorem za3{K:Qa}{x:Str}{st:Stmt}{h:Heap}{mg:Str->Option VJ}(X:K.In h)(G:h.Ns mainGlobals mg)(D:DIn K x st):Top3 K mg x st:=by obtain⟨f,_,_,_,_,_,_,_,_,_,a,l,c,k⟩:=D;exact⟨f,_,zqj (st:=st) l c k,VB X G a⟩
theorem all_mk{l:Yv}{w:VR}{K:Qa}{h:Heap}{mg:Str->Option VJ}{fa:Addr}(X:K.In h)(G:h.Ns mainGlobals mg)(hfa:mg "law" = some (.ref fa))
 (D1:DIn K "ways_of_thing" zd9)
 (D2:DIn K "ways_of_body" zen)
 (D3:DIn K "find_better" zep)
 (D4:DIn K "tree_above" zfg)
 (D5:DIn K "_law_deal" zpe)
 (D6:DIn K "_law_draw" zpx)
 (D7:DIn K "_law_whole" zjg)
 (D8:DIn K "_law_letters" zhi)
 (D9:DIn K "_law_grammar" zf9)
 (D10:DIn K "_law_inner" zi0)
 (D11:DIn K "_law_word" zln)
 (D12:DIn K "_law_under" zix)
 (D13:DIn K "_law_ends" zmq)
 (D14:DIn K "_law_sizes" zjr)
 (D15:DIn K "_law_is_tree" zez)
 (D16:DIn K "_law_word_of" zfh)
 (D17:DIn K "_law_size" zib)
 (D18:DIn K "_law_least_trees" zd7)
 (D19:DIn K "_law_tree" zin)
 (D20:DIn K "_law_right" ziy)
 (D21:DIn K "law" sLaw)
 (z1:QB K mainGlobals "len" = some none)
 (z2:QB K mainGlobals "all" = some none)
 (z3:QB K mainGlobals "any" = some none)
 (z4:QB K mainGlobals "sorted" = some none)
 (z5:QB K mainGlobals "min" = some none)
 (z6:QB K mainGlobals "max" = some none)
 (z7:QB K mainGlobals "repr" = some none)
 (z8:QB K mainGlobals "int" = some none)
 (z9:QB K mainGlobals "list" = some none)
 (z10:QB K mainGlobals "tuple" = some none)
 (z11:QB K mainGlobals "range" = some none)
 (z12:QB K mainGlobals "set" = some none)
 (z13:QB K mainGlobals "isinstance" = some none)
 (z14:QB K mainGlobals "enumerate" = some none)
 (z15:QB K mainGlobals "zip" = some none)
 (z16:QB K mainGlobals "reversed" = some none)
 (z17:QB K mainGlobals "str" = some none)
 (z18:QB K mainGlobals "sum" = some none)
 (z19:QB K mainGlobals "dict" = some none)
 (z20:QB K mainGlobals "bool" = some none)
 : ∃fd:Us,(∀(s:VN) (v:VJ),US s fd ⟨[v],[]⟩ [("_law_script",v)])/\∀base:Heap,K.In base->base.Ns mainGlobals mg->FnOk l.prog w K mg base CX0 25 fa fd ["_law_script"] (zif K):=by
 have T1:=za3 X G D1;have T2:=za3 X G D2;have T3:=za3 X G D3;have T4:=za3 X G D4;have T5:=za3 X G D5;have T6:=za3 X G D6;have T7:=za3 X G D7;have T8:=za3 X G D8;have T9:=za3 X G D9;have T10:=za3 X G D10;have T11:=za3 X G D11;have T12:=za3 X G D12;have T13:=za3 X G D13;have T14:=za3 X G D14;have T15:=za3 X G D15;have T16:=za3 X G D16;have T17:=za3 X G D17;have T18:=za3 X G D18;have T19:=za3 X G D19;have T20:=za3 X G D20;have T21:=za3 X G D21;have B:Blt mg:=⟨Qz X G z1,Qz X G z2,Qz X G z3,Qz X G z4,Qz X G z5,Qz X G z6,Qz X G z7,Qz X G z8,Qz X G z9,Qz X G z10,Qz X G z11,Qz X G z12,Qz X G z13,Qz X G z14,Qz X G z15,Qz X G z16,Qz X G z17,Qz X G z18,Qz X G z19,Qz X G z20⟩;obtain⟨f21,od21,an21,sl21,oc21,kV21,dc21,pm21,cd21,ct21,a21,l21,c21,k21⟩:=D21;have e:=hfa.symm.trans (VB X G a21);cases e;refine⟨Zb "law" "law" (zbk sLaw) (zay sLaw) (zad sLaw) .none kV21 dc21 pm21 an21 cd21 ct21,λs v=>.of_eq rfl,λbase _ _=>?_⟩;have e1:=zc5 (P:=l.prog) (w:=w) (base:=base) B T1;have e2:=zda B e1 T2;have e3:=zdo B e2 T3;have e4:=zea B e3 T4;have e5:=d_law_deal (P:=l.prog) (w:=w) (base:=base) B T5;have e6:=d_law_draw (P:=l.prog) (w:=w) (base:=base) B T6;have e7:=zb6 (P:=l.prog) (w:=w) (base:=base) B T7;have e8:=zdn B e6 T8;have e9:=zdp B e6 T9;have e10:=zat (P:=l.prog) (w:=w) (base:=base) B T10;have e11:=zfa B e6 T11;have e12:=zem (P:=l.prog) (w:=w) (base:=base) B T12;have e13:=zfj (P:=l.prog) (w:=w) (base:=base) B T13;have e14:=zeq B e13 T14;have e15:=zb3 B e7 e10 T15;have e16:=zbm (P:=l.prog) (w:=w) (base:=base) B T16;have e17:=zc0 (P:=l.prog) (w:=w) (base:=base) B T17;have e18:=zcm B e10 T18;have e19:=zcy B e6 e10 T19;have e20:=zeo B e4 e12 e14 e15 e16 e17 T20;exact zy6 B e5 e6 e8 e9 e11 e16 e18 e19 e20 (zqj (st:=sLaw) l21 c21 k21)
theorem walk{l:Yv}{q:VO}{loose:List Str}{XP:(Str->Option VJ)->Heap->Prop}{YP:VR->Heap->Prop}{d:DefRec}{K:Params->Qa}(hn:l.most=some 63)(hdf:d.params.defaults = [])
 (hY:∀(w:VR) (h:Heap),YP w h->(K w.params).In h)
 (F:∀(w:VR) (mg:Str->Option VJ) (fa:Addr) (h:Heap),(K w.params).In h->h.Ns mainGlobals mg->mg d.name=some (.ref fa) ->
  ∃fd:Us,(∀(s:VN) (u:VJ),US s fd ⟨[u],[]⟩ [("_law_script",u)])/\∀base:Heap,(K w.params).In base->base.Ns mainGlobals mg->FnOk l.prog w (K w.params) mg base CX0 25 fa fd ["_law_script"] (zif (K w.params))) :
 V6 q loose XP YP l.row.toRowW d [] (λf vs=>V0 f vs) :=
 L2.walk_of (n:=63) (k:=25) (x := "_law_script") (CX:=λ_=>CX0) (sp:=λw=>zif (K w.params)) hn (by decide) hdf ⟨rfl,by decide,by decide,rfl⟩ hY F (λ_ _ a ns hl _ hS=>⟨a,ns,rfl,hS,hl,λ_=>rfl⟩) λ_ _ _ _ _ z=>z
end L56
open PySem PySem.W PyProof.Rows
set_option maxRecDepth 100000 in
set_option maxHeartbeats 0 in
theorem PySem.Challenge.cw_lostpost_k56_trees_of_least_size_holds : PySem.Challenge.rw_lostpost_k56_trees_of_least_size.Holds := by
 w_on;o_law;k_head;(case hw=>w_witness2)
 k_fill
 refine L56.walk (l:=PySem.Challenge.rw_lostpost_k56_trees_of_least_size) rfl rfl (λw h Y=>PySem.W.kIn_of Y) ?F
 case F=>
  intro w mg fa h KX G hmg;refine' L56.all_mk KX G hmg (L56.din_mk ?a1 ?l1 ?c1 ?k1) (L56.din_mk ?a2 ?l2 ?c2 ?k2) (L56.din_mk ?a3 ?l3 ?c3 ?k3) (L56.din_mk ?a4 ?l4 ?c4 ?k4) (L56.din_mk ?a5 ?l5 ?c5 ?k5) (L56.din_mk ?a6 ?l6 ?c6 ?k6) (L56.din_mk ?a7 ?l7 ?c7 ?k7) (L56.din_mk ?a8 ?l8 ?c8 ?k8) (L56.din_mk ?a9 ?l9 ?c9 ?k9) (L56.din_mk ?a10 ?l10 ?c10 ?k10) (L56.din_mk ?a11 ?l11 ?c11 ?k11) (L56.din_mk ?a12 ?l12 ?c12 ?k12) (L56.din_mk ?a13 ?l13 ?c13 ?k13) (L56.din_mk ?a14 ?l14 ?c14 ?k14) (L56.din_mk ?a15 ?l15 ?c15 ?k15) (L56.din_mk ?a16 ?l16 ?c16 ?k16) (L56.din_mk ?a17 ?l17 ?c17 ?k17) (L56.din_mk ?a18 ?l18 ?c18 ?k18) (L56.din_mk ?a19 ?l19 ?c19 ?k19) (L56.din_mk ?a20 ?l20 ?c20 ?k20) (L56.din_mk ?a21 ?l21 ?c21 ?k21) ?z1 ?z2 ?z3 ?z4 ?z5 ?z6 ?z7 ?z8 ?z9 ?z10 ?z11 ?z12 ?z13 ?z14 ?z15 ?z16 ?z17 ?z18 ?z19 ?z20
  (case a1=>k_is);(case l1=>k_is);(case c1=>k_is);(case k1=>k_is)
  (case a2=>k_is);(case l2=>k_is);(case c2=>k_is);(case k2=>k_is)
  (case a3=>k_is);(case l3=>k_is);(case c3=>k_is);(case k3=>k_is)
  (case a4=>k_is);(case l4=>k_is);(case c4=>k_is);(case k4=>k_is)
  (case a5=>k_is);(case l5=>k_is);(case c5=>k_is);(case k5=>k_is)
  (case a6=>k_is);(case l6=>k_is);(case c6=>k_is);(case k6=>k_is)
  (case a7=>k_is);(case l7=>k_is);(case c7=>k_is);(case k7=>k_is)
  (case a8=>k_is);(case l8=>k_is);(case c8=>k_is);(case k8=>k_is)
  (case a9=>k_is);(case l9=>k_is);(case c9=>k_is);(case k9=>k_is)
  (case a10=>k_is);(case l10=>k_is);(case c10=>k_is);(case k10=>k_is)
  (case a11=>k_is);(case l11=>k_is);(case c11=>k_is);(case k11=>k_is)
  (case a12=>k_is);(case l12=>k_is);(case c12=>k_is);(case k12=>k_is)
  (case a13=>k_is);(case l13=>k_is);(case c13=>k_is);(case k13=>k_is)
  (case a14=>k_is);(case l14=>k_is);(case c14=>k_is);(case k14=>k_is)
  (case a15=>k_is);(case l15=>k_is);(case c15=>k_is);(case k15=>k_is)
  (case a16=>k_is);(case l16=>k_is);(case c16=>k_is);(case k16=>k_is)
  (case a17=>k_is);(case l17=>k_is);(case c17=>k_is);(case k17=>k_is)
  (case a18=>k_is);(case l18=>k_is);(case c18=>k_is);(case k18=>k_is)
  (case a19=>k_is);(case l19=>k_is);(case c19=>k_is);(case k19=>k_is)
  (case a20=>k_is);(case l20=>k_is);(case c20=>k_is);(case k20=>k_is)
  (case a21=>k_is);(case l21=>k_is);(case c21=>k_is);(case k21=>k_is)
  (case z1=>k_is)
  (case z2=>k_is)
  (case z3=>k_is)
  (case z4=>k_is)
  (case z5=>k_is)
  (case z6=>k_is)
  (case z7=>k_is)
  (case z8=>k_is)
  (case z9=>k_is)
  (case z10=>k_is)
  (case z11=>k_is)
  (case z12=>k_is)
  (case z13=>k_is)
  (case z14=>k_is)
  (case z15=>k_is)
  (case z16=>k_is)
  (case z17=>k_is)
  (case z18=>k_is)
  (case z19=>k_is)
  (case z20=>k_is)

