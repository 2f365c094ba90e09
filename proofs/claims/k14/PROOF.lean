import PyProof.Rows.All
import Wide.All
import OpenK.AllK
import Wide.FinOn
import Lean
import PyProof.EqAt
import PyProof.EqKinds
import PyProof.TupleCall
import PyProof.StationsW
import PyProof.ExcClass2
import PyProof.ExcBaseAll.ValueError
import PyProof.InstStoreFacts
import PyProof.RulesAs
import PyProof.NsDelKeeps
import PyProof.P3Eq
import PyProof.P3In
import PyProof.ReprRoads
import PyProof.StrWalks
import PyProof.ListRange
import PyProof.ListStr
import PyProof.ConsumeWalk
import PyProof.MinMaxWalk
import PyProof.NeData
import PyProof.SliceStr2
import PyProof.Rows.SortStr
import PyProof.Rows.StrJoin2
import PyProof.Rows.SeqMore
import PyProof.SeqI3
import PyProof.StrLawsIn
import PyProof.ReprBulk
import PyProof.ListMulRoad
import PyProof.StrOps2
import PySem.Challenge.RW_lostpost_k14_words_above_both
import PyProof.Rows.SortShellK
import KE.KSortTup
import PyProof.Rows.SetFrom
import PyProof.CollectIter
import PyProof.CollectStr
import PyProof.FactsAll.set
import KE.KDictOf
import PyProof.AttrMissHeap
import PyProof.DictWalks
import KE.KDictLaws
import PyProof.Draws
import KE.BitLaws
import KE.KRevIter
import PyProof.EnumStmt
import PyProof.JoinWalk
import PyProof.Rows.SortRuns
import PySem.SetTable
import PyProof.SetScanFacts
import PyProof.TupleKey
import PyProof.IsRules
import PyProof.TupleOfSeq
import PyProof.DictRoadsH
import PyProof.ZipIter
import PyProof.EnumIter
import KE.KItemsList
import PyProof.Rows.Range3
open PyProof.Rows renaming wpS_bind → Vh, wpS_pure → Vi, wpS_forRange → Vq, SortSt → Vt, Keyed → Vu, wpS_mono → VC, SortKind → VE, failedOf → VF, wpS_modify → VM, listUpdate_at → VW, wpS_get → Ub, get?_update_seq → Uf, size_push' → Uh, wpS_lift → UC, AllBare → UE, StrsAre → UO, envOfC → US, listItems_at → UU, sortedS → UV, subscriptTail_builtinR → UW, entry_list_sort → Gd, seqEpoch_at → Go, slot_list_sort → Gq, wpS_reverse → Gv, subscriptTail → G0, sortedHeap → G4, entry_sorted → G9, plain_sorted → GA, kat_kind_eq → GD, kind_sorted → GE, IntsAre → GG, oneType' → GN
open PySem renaming wpAny_bind → Va, Value → Vb, Shared → Vc, wpAny_pure → Vd, PyData → Ve, Program → Vf, starEach → Vg, sizeLine_eq → Vj, World → Vk, Around → Vl, wpAny_newObj_type → Vm, wpAny_call_entry → Vn, builtinLookup_eq_fast → Vo, assignEach → Vp, wpAny_holding → Vr, wpAny_setField_rec → Vs, bootBuiltins → Vv, typeLookup_type → Vw, wpAny_callSpecial?_slot → Vx, isSubtype_type → Vy, wpAny_Call_Name_kw → Vz, wpAny_mono → V0, wpAny_rule → V1, SetTable → V2, attributeBase → V3, codeAny_builtin → V4, wpAny_field → V5, plainId_quiet → V6, foldedSetIterable → V7, sysModules → V8, wpAny_typeOf → V9, cellsFrom → VA, FuncData → VB, wpAny_attempt → VD, compareOp → VG, swapsWith → VH, wpAny_truthy_bool → VI, call_meets → VJ, wpAny_specialOf → VL, wpAny_isInstance → VN, NameKind → VO, Scope → VP, wpAny_passesOwn → VQ, codeAny_extend_loopS → VR, behindInMarks → VS, wpAny_typeNameOfWhole_itemiter → VT, backTo → VU, wpAny_pyIter_slot → VX, firstArgMember → VY, wpAny_of_eq → VZ, Keyword → Ua, wpAny_typeNameOf_itemiter → Uc, ReadsAll → Ud, bindArgs → Ue, IsItemIter → Ug, tupleKind_room_in1 → Ui, typeLookup → Uj, keywordEach → Uk, pickOrder → Ul, sliceBounds → Um, assign → Uo, codeAny_mono → Uq, fits_of_scanBound → Ur, wpAny_isOneOf_itemiter → Us, wpAny_pyIter_list → Ut, entryFor_of_tree → Uu, rawInt → Uv, codeAny → Uw, getItem → Ux, signature?_of → Uy, wpAny_newList → Uz, Reads → U0, letOwnedTupleGo → U1, pyIter → U2, pyNext → U3, wpAny_execs_nil → U4, wpAny_ite_false → U5, seqIndex? → U6, dictSetDefault → U7, entryFor → U8, entryFor_alias → U9, wpAny_newTuple → UA, wpAny_setField → UB, wpAny_binaryOp_repeat_ref → UD, spliced → UF, wpAny_dictEntries → UG, wpAny_comprehension_free → UH, backToKw → UI, noFill_tuple_add → UJ, relayAll → UK, wpAny_Call_method0_late → UL, wpAny_askSetting → UM, IsPart → UN, argsOk → UP, codeAny_compStart_list → UQ, entryOfKey → UR, hashStr → UT, typeIs_int → UX, typeIs_str → UY, wpAny_Call_method_late → UZ, wpAny_pyIter_rangeiter → Ga, wpAny_pyNext_range_end → Gb, atKey → Gc, pushCells_keeps → Ge, wpAny_loadPart' → Gf, wpAny_isTrue_Compare1 → Gg, wpAny_notOrdered_dict → Gh, GenState → Gi, IsRangeIter → Gj, callType_codes → Gk, codeAny_call_builtin → Gm, isSubtype_stop → Gn, slicePicked → Gp, storedH_new → Gr, wpAny_fieldsOf → Gs, wpAny_runValue → Gu, isSubtype → Gw, valueAt → Gx, Model → Gy, seq_tuple_add → Gz, wpAny_handled → G1, Paired → G2, wpAny_call → G5, wpAny_load → G6, BindsTo → G7, concat_meets → G8, DictEntry → GB, typeOf → GC, wpAny_throw → GF, collect → GH, setNext → GI, bindC → GJ, bindL → GK, compPost → GL, newExc → GM, raiseNew → GO, table → GP
abbrev GQ:=@if_pos
abbrev GT:=@if_neg
abbrev GU:=@decide_eq_false
abbrev GV:=@of_decide_eq_true
abbrev GW:=@decide_eq_true
abbrev GX:=@if_false
abbrev GY:=@decide_eq_true_eq
abbrev GZ:=@beq_self_eq_true
abbrev Ta:=@if_true
abbrev Tb:=@congrArg
abbrev Tc:=@map_eq_pure_bind
abbrev Td:=@or_congr
abbrev Te:=@beq_iff_eq
open Array renaming getElem?_eq_getElem → Q1, getElem?_toList → QA, length_toList → QE, getElem?_eq_none → Zy, toList_inj → ZP, toList_push → ZW, getD_eq_getD_getElem? → JB, getElem?_eq_some_iff → JD, toList_setIfInBounds → JI, toList_append → Y3, all_eq_true' → YE
open Bool renaming false_ne_true → Ql, and_eq_true → Q5, false_eq_true → Q8, not_eq_true' → Zv, eq_iff_iff → ZI, not_true → JU, not_eq_false' → YG, or_eq_true → jn, and_false → jp, or_false → jv
open Char renaming toNat → Yi
open False renaming elim → Z4
open ForInStep renaming yield → Jl
open Iff renaming rfl → YU
open Int renaming emod_lt_of_pos → ZG, emod_nonneg → ZU, toNat_natCast → Js, lt_of_lt_of_le → YF, natCast_mul → jm
open List renaming getElem?_eq_getElem → Qa, mem_cons_of_mem → Qb, length_map → Qe, length_cons → Qf, mem_singleton → Qg, replicate → Qh, getElem?_eq_some_iff → Qi, length_append → Qj, getElem?_map → Qk, map_cons → Qn, size_toArray → Qo, mem_map → Qp, getD_eq_getElem?_getD → Qq, mem_cons → Qs, mem_cons_self → Qt, getElem?_eq_none → Qu, mem_append → Qv, range → Qx, map_append → Qy, getElem?_append_left → Qz, mem_append_right → Q2, append_assoc → Q3, getElem?_append_right → Q4, mem_of_getElem? → Q6, length_drop → Q9, getElem?_set_self → QB, drop_eq_getElem_cons → QC, append_nil → QD, length_range → QF, map_map → QG, length_take → QJ, mem_range → QK, getElem?_set_ne → QL, eq_nil_of_length_eq_zero → QM, length_replicate → QN, length_singleton → QO, take_length → QP, pairwise_iff_getElem → QR, getElem?_replicate → QV, eraseIdx_cons_succ → QW, getD → QX, getElem?_drop → QY, drop_eq_nil_of_le → QZ, find?_cons_of_pos → Za, length_set → Zb, getElem_mem → Zc, cons_append → Zd, not_mem_nil → Ze, replicate_succ → Zf, lookup_cons_self → Zg, take_add_one → Zh, nodup_cons → Zi, cons_sublist_cons → Zk, take_append_drop → Zm, length_nil → Zn, getElem_range → Zo, mem_append_left → Zp, lookup_cons → Zq, nil_sublist → Zr, flatten_cons → Zt, pairwise_map → Zw, nodup_append → Zx, mem_filter → Z0, foldl_cons → Z1, find?_cons → Z2, getElem?_eq_none_iff → Z3, drop_length → Z6, mem_of_mem_drop → Z9, mem_of_mem_take → ZA, ext_getElem? → ZB, take_of_length_le → ZD, find?_cons_of_neg → ZE, sum_cons → ZF, pairwise_cons → ZH, nil_append → ZJ, length_eraseIdx → ZL, mergeSort_perm → ZM, all_eq_true → ZN, getElem?_cons_succ → ZO, eraseIdx_cons_zero → ZQ, drop_drop → ZR, take_zero → ZS, mem_iff_getElem? → ZV, mapM_toArray → ZX, drop_zero → ZZ, lt_irrefl → Ja, getElem?_range → Jf, map_congr_left → Jg, length_reverse → Jh, getElem_of_mem → Ji, reverse_append → Jj, mem_of_mem_eraseIdx → Jk, zip_cons_cons → Jm, pairwise_singleton → Jo, take_succ_eq_append_getElem → Jq, sublist_cons_self → Jr, find?_append → Jt, eraseIdxIfInBounds_toArray → Ju, length_filter_le → Jv, contains_iff_mem → Jw, foldl → Jy, filter_cons → Jz, suffix_cons → J1, lt_trans → J2, not_lt → J4, drop_eq_nil_iff → J5, of_mem_zip → J7, filterMap_cons → J8, mem_map_of_mem → J9, filter_append → JE, getElem?_take → JH, find?_eq_none → JJ, getElem?_zip_eq_some → JK, mem_of_find?_eq_some → JL, exists_mem_of_ne_nil → JM, map_take → JP, map_drop → JQ, zipIdxLE → JS, length_erase_of_mem → JT, sublist_append_left → JV, mem_reverse → JX, ext_getElem → JY, map → JZ, pairwise_mergeSort → Ya, length_eq_zero_iff → Yc, perm_middle → Yd, suffix_iff_eq_drop → Ye, length_pos_of_mem → Yk, sum_append → Yn, getElem?_toArray → Yo, take_eq_take_min → Yp, getElem?_reverse → Yq, length_mergeSort → Ys, length → Yu, mem_iff_getElem → Yv, mem_erase_of_ne → Yx, pairwise_append → Yy, reverse_reverse → Yz, drop_set_of_lt → Y2, perm_iff_count → Y4, lt_of_le_of_lt → Y5, take_succ_cons → Y6, length_take_le → Y7, any_cons → Y8, take_nil → Y9, take_add → YA, mem_filterMap → YB, zip_nil_right → YH, map_inj_right → YI, take_sublist → YJ, reverse_cons → YL, map_nil → YN, zip_nil_left → YS, all_map → YT, foldl_append → YV, map_reverse → YZ, le_antisymm → jd, nodup_range → je, all_toArray → jf, getElem_map → jg, sublist_nil → jh, suffix_refl → ji, forIn_cons → jl, forIn_nil → jq, take_succ → jt
open List.Pairwise renaming nil → Jp, map → JN
open List.Perm renaming eq_of_pairwise → JR, append_left → Yr, swap → jr
open Nat renaming le_refl → Qc, ne_of_lt → Qm, zero_le → Qw, lt_of_lt_of_le → Q7, le_trans → QH, lt_succ_of_lt → QI, lt_irrefl → QQ, ne_of_gt → Zs, lt_or_ge → Zu, lt_succ_self → Z5, le_succ → Z8, le_of_succ_le → ZK, lt_trans → ZT, pow_le_pow_right → Jb, le_of_lt → Jc, le_of_not_lt → Jd, zero_add → Je, le_add_right → J0, sub_self → JC, not_lt → JF, add_sub_cancel → JG, lt_of_succ_lt → JO, min_eq_right → JW, mul_comm → Yg, sub_zero → Yh, toDigits → Yj, min_eq_left → Yl, not_lt_zero → Ym, mul_le_mul_right → Yw, lt_of_le_of_ne → YD, succ_mul → YM, le_of_eq → YQ, add_zero → YR
open Ne renaming symm → Zj
open Option renaming map_eq_some_iff → Q0, none → Zl, map_eq_none_iff → Zz, isSome_iff_exists → Z7, map_some → ZC, none_or → Y0, isSome_some → YC, isSome_map → YO, getD_none → YX, getD_some → YY
open Option.some renaming inj → QS
open Prod renaming ext → YK
open PyProof renaming noPylong_small → Yf
open PyProof.Rows renaming callWith_type1 → QT, slot_tuple_getitem → QU, callWith_builtin1 → Jx
open PyProof.Rows.F renaming plain_set_update_loop → Jn, entry_set_update_loop → Yb
open PyProof.Rows.IsTup renaming new → YW
open PyProof.Rows.SortSt renaming mk' → ju
open StateT renaming run_pure → jo
open String renaming ofList → jw
open Sum renaming inr → JA, inl → Y1
open Sum.inl renaming inj → jj
open Sum.inr renaming inj → Yt
open True renaming intro → ZY
set_option Elab.async false
set_option linter.all false
set_option maxRecDepth 100000
local macro_rules | `(tactic| omega) => `(tactic| lia)
namespace L2
open PySem PySem.Spec PyProof.Rows
abbrev Key:=Sum Int Str
def zdw:Key->Vb->Bool
 | .inl k,v=>Value.isInt k v
 | .inr x,v=>Value.isStrOf x v
def keyH(w:Vk):Key->Int
 | .inl k=>hashInt k
 | .inr x=>UT w x
theorem zaw:∀ {k:Key} {v:Vb},zdw k v=true->(∃ i t,k=Y1 i/\v=Value.int i t)\/(∃ x t,k=JA x/\v=Value.str x t)
 | .inl i,v,h=>by
   obtain⟨t,e⟩:=Value.isInt_shape (k:=i) (v:=v) h;exact .inl ⟨i,t,rfl,e⟩
 | .inr x,v,h=>by
   obtain⟨t,e⟩:=Value.isStrOf_shape (x:=x) (v:=v) h;exact .inr ⟨x,t,rfl,e⟩
theorem zru(i:Int)(t:Tok):zdw (.inl i) (.int i t)=true:=by simp[zdw,Value.isInt]
theorem zql(x:Str)(t:Tok):zdw (.inr x) (.str x t)=true:=by simp[zdw,Value.isStrOf]
theorem zzp(a b:Int):decide ((Y1 a:Key)=Y1 b)=(a == b):=by
 by_cases e:a=b
 ·subst e;simp
 ·have h:¬ (Y1 a:Key)=Y1 b:=λq=>e (jj q);rw[GU h];exact(beq_eq_false_iff_ne.mpr e).symm
theorem zz2(a b:Str):decide ((JA a:Key)=JA b)=decide (a=b):=by
 by_cases e:a=b
 ·subst e;simp
 ·have h:¬ (JA a:Key)=JA b:=λq=>e (Yt q);rw[GU h,GU e]
theorem z1h(a:Int)(b:Str):decide ((Y1 a:Key)=JA b)=false:=GU (λq=>nomatch q)
theorem z1u(a:Str)(b:Int):decide ((JA a:Key)=Y1 b)=false:=GU (λq=>nomatch q)
def mixKind(prog:Vf)(w:Vk):PySem.KeyKind prog w Key where
 is:=zdw
 hash:=keyH w
 inj:=λv a b ha hb=>by
  rcases zaw ha with ⟨i,t,rfl,rfl⟩|⟨x,t,rfl,rfl⟩
  ·rcases zaw hb with ⟨j,u,rfl,e⟩|⟨y,u,rfl,e⟩
   ·injection e with e1 _;rw[e1]
   ·exact nomatch e
  ·rcases zaw hb with ⟨j,u,rfl,e⟩|⟨y,u,rfl,e⟩
   ·exact nomatch e
   ·injection e with e1 _;rw[e1]
 byValue:=λk v h=>by
  rcases zaw h with ⟨i,t,rfl,rfl⟩|⟨x,t,rfl,rfl⟩ <;> rfl
 pyHash:=λhv h=>by
  rcases zaw hv with ⟨i,t,rfl,rfl⟩|⟨x,t,rfl,rfl⟩
  ·exact wpAny_pyHash_int h
  ·exact wpAny_pyHash_str h
 eqBool:=λhu hv h=>by
  rcases zaw hu with ⟨i,t,rfl,rfl⟩|⟨x,t,rfl,rfl⟩
  ·rcases zaw hv with ⟨j,u,rfl,rfl⟩|⟨y,u,rfl,rfl⟩
   ·rw[zzp] at h;exact wpAny_eqBool_int h
   ·rw[z1h] at h;exact SeqAt.EqAt.int_str i t y u _ _ _ _ h
  ·rcases zaw hv with ⟨j,u,rfl,rfl⟩|⟨y,u,rfl,rfl⟩
   ·rw[z1u] at h;exact SeqAt.EqAt.str_int x t j u _ _ _ _ h
   ·rw[zz2] at h;exact wpAny_eqBool_str h
 «strs»:=λk x t v h=>by
  rcases zaw h with ⟨i,u,rfl,e⟩|⟨y,u,rfl,e⟩
  ·exact nomatch e
  ·injection e with e1 _;subst e1;cases v <;> rfl
theorem zm2(prog:Vf)(w:Vk)(i:Int)(t:Tok):(mixKind prog w).is (.inl i) (.int i t)=true:=zru i t
theorem zm7(prog:Vf)(w:Vk)(x:Str)(t:Tok):(mixKind prog w).is (.inr x) (.str x t)=true:=zql x t
inductive V where
 | non|bl (b:Bool)|int (i:Int)|str (x:Str)|byt (b:Array UInt8)|flt (b:UInt64)|ref (a:Addr)|ty (n:String)
 deriving DecidableEq
def RelV:V->Vb->Prop
 | .non,u=>u=Value.none
 | .bl b,u=>u=Value.bool b
 | .int i,u=>∃ t,u=Value.int i t
 | .str x,u=>∃ t,u=Value.str x t
 | .byt b,u=>∃ t,u=Value.bytes b t
 | .flt b,u=>∃ t,u=Value.float b t
 | .ref a,u=>u=Value.ref a
 | .ty n,u=>u=Value.type n
abbrev Vals:List V->List Vb->Prop:=G2 RelV
theorem Vals.length{xs:List V}{us:List Vb}(r:Vals xs us):xs.length=us.length:=Paired.length r
theorem Vals.get:∀ {xs:List V} {us:List Vb} {i:Nat} {x:V},Vals xs us->xs[i]? = some x->∃ u,us[i]? = some u/\RelV x u
 | _,_,_,_,.nil,e=>by simp at e
 | _,_,0,_,.cons r _,e=>by simp at e;subst e;exact⟨_,rfl,r⟩
 | _,_,i+1,x,.cons _ t,e=>by
   obtain⟨u,h1,h2⟩:=Vals.get (i:=i) (x:=x) t (by simpa using e);exact⟨u,by simpa using h1,h2⟩
theorem Vals.append:∀ {xs ys:List V} {us ws:List Vb},Vals xs us->Vals ys ws->Vals (xs++ys) (us++ws)
 | _,_,_,_,.nil,s=>s
 | _,_,_,_,.cons r t,s => .cons r (Vals.append t s)
theorem Vals.take:∀ {xs:List V} {us:List Vb} (n:Nat),Vals xs us->Vals (xs.take n) (us.take n)
 | _,_,0,_ => .nil
 | _,_,_+1,.nil => .nil
 | _,_,n+1,.cons r t => .cons r (Vals.take n t)
theorem Vals.drop:∀ {xs:List V} {us:List Vb} (n:Nat),Vals xs us->Vals (xs.drop n) (us.drop n)
 | _,_,0,r=>r
 | _,_,_+1,.nil => .nil
 | _,_,n+1,.cons _ t=>Vals.drop n t
def RelO:Option V->Option Vb->Prop
 | some v,some u=>RelV v u
 | none,none=>True
 | _,_=>False
def KV{κ:Type}:List (κ × V)->List (κ × Vb)->Prop:=G2 λ(p:κ × V) (q:κ × Vb)=>p.1=q.1/\RelV p.2 q.2
def kV:Key->V
 | .inl i => .int i
 | .inr x => .str x
inductive HO where
 | lst (xs:List V)
 | tup (xs:List V)
 | dK (kvs:List (Key × V))|dT (kvs:List (List Key × V))
 | set (S:Int->Bool) (n:Nat)
 | ins (C dx:Addr) (fs:List (Str × V))
 | own (x:Addr)
 | xd (fs:List (Str × V))
 | met (f x:Addr)
 | rng (lo hi:Int)
 | frz (o:Obj) (u:HO)
 | tbl (ps:Array Vb)
 | ext (φ:Heap->Prop)
abbrev Hp:=Addr->Option HO
def upd(H:Hp)(a:Addr)(o:HO):Hp:=λb=>if b=a then some o else H b
theorem zad{H:Hp}{a:Addr}{o:HO}:upd H a o a=some o:=by unfold upd;rw[GQ rfl]
theorem zaa{H:Hp}{a b:Addr}{o:HO}(h:b ≠ a):upd H a o b=H b:=by unfold upd;rw[GT h]
theorem zo7{H:Hp}{a b:Addr}{o u:HO}(h:H a=some o)(h':H b=some u)(d:o ≠ u):a ≠ b:=by
 intro e;subst e;rw[h] at h';exact d (QS h')
theorem zbp{H:Hp}{a b:Addr}{o:HO}(h:H a=some o)(h':H b=none):a ≠ b:=by
 intro e;subst e;rw[h] at h';cases h'
section
variable (P : Vf) (w : Vk)
def ObjOk(H:Hp)(h:Heap)(a:Addr):HO->Prop
 | .lst xs=>xs.length<=sizeLine/\∃ (its:List Vb) (n:Nat),Vals xs its/\h.get? a=some { cls := .type "list", data := .seq its.toArray n }
 | .tup xs=>xs.length<=sizeLine/\∃ its:List Vb,Vals xs its/\IsTup h a its.toArray
 | .dK kvs=>kvs.length<=sizeLine/\(a == V8)=false/\∃ vs,KV kvs vs/\h.DictOf (mixKind P w) a vs
 | .dT kvs=>kvs.length<=sizeLine/\(a == V8)=false/\∃ xs:List (List Key × Addr × Vb),
  G2 (λ(p:List Key × V) (q:List Key × Addr × Vb)=>p.1=q.1/\H q.2.1=some (.tup (p.1.map kV))/\RelV p.2 q.2.2) kvs xs /\
  ∃ o es ep,h.get? a=some o/\o.ExactDict/\o.data = .dict es ep/\es.toList=xs.map (UR (tupleKind (mixKind P w)))/\(xs.map (·.1)).Nodup
 | .set S n=>h.SetOf (intKind P w) a S n
 | .ins C dx fs=>H dx=some (.own a)/\fs.length<=1000/\dx ≠ a/\h.get? a=some (PySem.W.instObj C dx) /\
  ∃ mA,h.Ns1 dx mA/\(∀ f,RelO (fs.lookup f) (mA f))/\PySem.Within mA (fs.map (·.1))
 | .own _=>∃ o,h.get? a=some o
 | .xd fs=>∃ mA,h.Ns1 a mA/\∀ f,RelO (fs.lookup f) (mA f)
 | .rng lo hi=>∃ t u v,h.get? a=some { cls := .type "range", data := .fields #[.int lo t,.int hi u,.int 1 v] }
 | .frz o u=>h.get? a=some o/\ObjOk H h a u
 | .tbl ps=>h.get? a=some { cls := .none,data := .fields ps }
 | .met f x=>h.get? a=some (PySem.W.methodObj (.ref f) (.ref x))
 | .ext φ=>φ h/\(∃ o,h.get? a=some o)/\∀ h1 h2:Heap,φ h1->(∀ o,h1.get? a=some o->h2.get? a=some o)->φ h2
def HOk(H:Hp)(h:Heap):Prop:=∀ a o,H a=some o->ObjOk P w H h a o
end
section
variable {P : Vf} {w : Vk} {H H' : Hp} {h h' : Heap} {a : Addr} {o : HO}
theorem ObjOk.lt(x:ObjOk P w H h a o):a<h.objs.size:=by
 cases o with
 | lst xs=>obtain⟨_,_,_,_,e⟩:=x;exact Heap.lt_size e
 | tup xs=>obtain⟨_,_,_,p⟩:=x;exact p.lt
 | dK kvs=>obtain⟨_,_,_,_,o,_,_,e,_⟩:=x;exact Heap.lt_size e
 | dT kvs=>obtain⟨_,_,_,_,o,_,_,e,_⟩:=x;exact Heap.lt_size e
 | set S n=>obtain⟨o,_,_,_,e,_⟩:=x;exact Heap.lt_size e
 | ins C dx fs=>obtain⟨_,_,_,e,_⟩:=x;exact Heap.lt_size e
 | own y=>obtain⟨_,e⟩:=x;exact Heap.lt_size e
 | xd fs=>obtain⟨_,⟨_,_,_,e,_⟩,_⟩:=x;exact Heap.lt_size e
 | rng lo hi=>obtain⟨_,_,_,e⟩:=x;exact Heap.lt_size e
 | frz ob u=>obtain⟨e,_⟩:=x;exact Heap.lt_size e
 | tbl ps=>exact Heap.lt_size (show h.get? a=some _ from x)
 | met f y=>exact Heap.lt_size (show h.get? a=some _ from x)
 | ext φ=>obtain⟨_,⟨_,e⟩,_⟩:=x;exact Heap.lt_size e
theorem Paired.mapP{α β:Type}{F G:α->β->Prop}:∀ {l₁:List α} {l₂:List β},G2 F l₁ l₂->(∀ a b,F a b->G a b)->G2 G l₁ l₂
 | _,_,.nil,_ => .nil
 | _,_,.cons r t,f => .cons (f _ _ r) (Paired.mapP t f)
theorem ObjOk.stay(x:ObjOk P w H h a o)(k:∀ b u,(b=a\/H b=some (.own a))->h.get? b=some u->h'.get? b=some u)
 (ho:∀ b,H b=some (.own a)->H' b=some (.own a)) (ht:∀ b xs,H b=some (.tup xs)->H' b=some (.tup xs)):ObjOk P w H' h' a o:=by
 induction o with
 | lst xs=>obtain⟨z,its,n,r,e⟩:=x;exact⟨z,its,n,r,k _ _ (.inl rfl) e⟩
 | tup xs=>obtain⟨z,its,r,ob,e,c⟩:=x;exact⟨z,its,r,ob,k _ _ (.inl rfl) e,c⟩
 | dK kvs=>obtain⟨z,y,vs,r,ob,es,ep,e,c⟩:=x;exact⟨z,y,vs,r,ob,es,ep,k _ _ (.inl rfl) e,c⟩
 | dT kvs =>
   obtain⟨z,y,xs,r,ob,es,ep,e,c⟩:=x;exact⟨z,y,xs,Paired.mapP r λp q z=>⟨z.1,ht _ _ z.2.1,z.2.2⟩,ob,es,ep,k _ _ (.inl rfl) e,c⟩
 | set S n=>obtain⟨ob,es,ep,t,e,c⟩:=x;exact⟨ob,es,ep,t,k _ _ (.inl rfl) e,c⟩
 | ins C dx fs =>
   obtain⟨d,z,ne,e,mA,⟨od,es,ep,e2,c⟩,r⟩:=x;exact⟨ho _ d,z,ne,k _ _ (.inl rfl) e,mA,⟨od,es,ep,k _ _ (.inr d) e2,c⟩,r⟩
 | own y=>obtain⟨ob,e⟩:=x;exact⟨ob,k _ _ (.inl rfl) e⟩
 | xd fs=>obtain⟨mA,⟨od,es,ep,e,c⟩,r⟩:=x;exact⟨mA,⟨od,es,ep,k _ _ (.inl rfl) e,c⟩,r⟩
 | rng lo hi=>obtain⟨t,u,v,e⟩:=x;exact⟨t,u,v,k _ _ (.inl rfl) e⟩
 | frz ob u ih=>obtain⟨e,q⟩:=x;exact⟨k _ _ (.inl rfl) e,ih q⟩
 | tbl ps =>
   have e:h.get? a=some { cls := .none,data := .fields ps }:=x;show h'.get? a=some { cls := .none,data := .fields ps };exact k a _ (.inl rfl) e
 | met f y =>
   have e:h.get? a=some (PySem.W.methodObj (.ref f) (.ref y)):=x;show h'.get? a=some (PySem.W.methodObj (.ref f) (.ref y));exact k a _ (.inl rfl) e
 | ext φ=>obtain⟨p,⟨o,e⟩,st⟩:=x;exact⟨st _ _ p λo q=>k _ _ (.inl rfl) q,⟨o,k _ _ (.inl rfl) e⟩,st⟩
theorem HOk.lt(x:HOk P w H h)(e:H a=some o):a<h.objs.size:=(x a o e).lt
theorem HOk.fresh(x:HOk P w H h)(e:h.objs.size<=a):H a=none:=by
 cases q:H a with
 | none=>rfl
 | some u=>exact absurd (Q7 (x.lt q) e) (QQ _)
theorem HOk.kept(x:HOk P w H h)(k:∀ b u,h.get? b=some u->h'.get? b=some u):HOk P w H h':=λa o e =>
 (x a o e).stay (λb u _ q=>k b u q) (λ_ q=>q) λ_ _ q=>q
theorem HOk.laid(x:HOk P w H h)(k:∀ b u,h.get? b=some u->h'.get? b=some u)(hp:h.objs.size<=a)(new:ObjOk P w (upd H a o) h' a o):HOk P w (upd H a o) h':=λb u e=>by
 have hn:=x.fresh hp
 by_cases hb:b=a
 ·subst hb;rw[zad] at e;cases e;exact new
 ·rw[zaa hb] at e;exact(x b u e).stay (λc v _ q=>k c v q) (λc q=>by rw[zaa (zbp q hn)];exact q) λc xs q=>by rw[zaa (zbp q hn)];exact q
end
def Rd(H:Hp)(a:Addr)(u:HO):Prop:=H a=some u\/∃ o,H a=some (.frz o u)
theorem Rd.ok{P:Vf}{w:Vk}{H:Hp}{h:Heap}{a:Addr}{u:HO}(r:Rd H a u)(x:HOk P w H h):ObjOk P w H h a u:=by
 rcases r with r|⟨o,r⟩
 ·exact x a u r
 ·obtain⟨_,q⟩:=x a _ r;exact q
def Mut:Option HO->Prop
 | some (.lst _)=>True
 | some (.dK _)=>True
 | some (.dT _)=>True
 | some (.set _ _)=>True
 | some (.ins _ _ _)=>True
 | some (.ext _)=>True
 | _=>False
section
variable {P : Vf} {w : Vk} {H : Hp} {h h' : Heap} {x e : Addr} {o' : HO}
theorem HOk.write(ok:HOk P w H h)(mu:Mut (H x))(he:e=x\/H e=some (.own x))(k:∀ b u,b ≠ e->h.get? b=some u->h'.get? b=some u)(heo:∃ u,h'.get? e=some u)
 (new:ObjOk P w (upd H x o') h' x o'):HOk P w (upd H x o') h':=λb u q=>by
 have nown:∀ c y,H c=some (.own y)->c ≠ x:=λc y r z=>by subst z;rw[r] at mu;exact mu
 have ntup:∀ c xs,H c=some (.tup xs)->c ≠ x:=λc xs r z=>by subst z;rw[r] at mu;exact mu
 by_cases hb:b=x
 ·subst hb;rw[zad] at q;cases q;exact new
 ·rw[zaa hb] at q
  by_cases hbe:b=e
  ·have q':H b=some (.own x):=by
    rcases he with z|z
    ·exact absurd (hbe.trans z) hb
    ·rw[hbe];exact z
   rw[q] at q';cases q';obtain⟨v,hv⟩:=heo;exact⟨v,by rw[hbe];exact hv⟩
  ·refine(ok b u q).stay (λc v hc r=>k c v ?_ r) (λc r=>by rw[zaa (nown c b r)];exact r) λc xs r=>by rw[zaa (ntup c xs r)];exact r
   rcases hc with rfl|hc
   ·exact hbe
   ·rintro rfl;rcases he with z|z
    ·exact nown c b hc z
    ·rw[hc] at z;cases z;exact hb rfl
end
structure Un (fs ex:List Addr) (H H':Hp) (h h':Heap):Prop where
 keep:∀ b o,h.get? b=some o->H b=none->b ∉ fs->b ∉ ex->h'.get? b=some o
 slot:∀ b o,h.get? b=some o->H b=none->b ∈ fs->b ∉ ex->∃ sl,h'.get? b=some { o with slots:=sl }
 free:∀ b o,h.get? b=some o->H b=none->b ∉ ex->H' b=none
 there:∀ b o,h.get? b=some o->b ∉ ex->∃ o',h'.get? b=some o'
 tups:∀ b xs,H b=some (.tup xs)->H' b=some (.tup xs)
 frzs:∀ b o u,H b=some (.frz o u)->H' b=some (.frz o u)
 tbls:∀ b ps,H b=some (.tbl ps)->∃ more,H' b=some (.tbl (ps++more))
section
variable {fs fs' ex ex' : List Addr} {H H1 H2 : Hp} {h h1 h2 h' : Heap} {a x e : Addr} {o : HO}
theorem Un.any(u:Un fs ex H H1 h h1){b:Addr}{ob:Obj}(q:h.get? b=some ob)(n:H b=none)(hx:b ∉ ex):∃ sl,h1.get? b=some { ob with slots:=sl }:=by
 by_cases hb:b ∈ fs
 ·exact u.slot b ob q n hb hx
 ·exact⟨ob.slots,u.keep b ob q n hb hx⟩
theorem Un.kept(k:∀ b u,h.get? b=some u->h'.get? b=some u):Un fs ex H H h h' :=
 ⟨λb ob q _ _ _=>k b ob q,λb ob q _ _ _=>⟨ob.slots,k b ob q⟩,λ_ _ _ n _=>n,λb ob q _=>⟨ob,k b ob q⟩,λ_ _ q=>q,λ_ _ _ q=>q,λ_ ps q=>⟨#[],by rw[q];simp⟩⟩
theorem Un.refl:Un fs ex H H h h:=Un.kept λ_ _ q=>q
theorem Un.laid(k:∀ b u,h.get? b=some u->h'.get? b=some u)(hp:h.objs.size<=a)(hn:H a=none):Un fs ex H (upd H a o) h h' where
 keep:=λb u q _ _ _=>k b u q
 slot:=λb u q _ _ _=>⟨u.slots,k b u q⟩
 free:=λb u q n _=>by rw[zaa (Qm (Q7 (Heap.lt_size q) hp))];exact n
 there:=λb u q _=>⟨u,k b u q⟩
 tups:=λb xs q=>by rw[zaa (zbp q hn)];exact q
 frzs:=λb u xs q=>by rw[zaa (zbp q hn)];exact q
 tbls:=λb ps q=>⟨#[],by rw[zaa (zbp q hn),q];simp⟩
theorem Un.write(mu:Mut (H x))(he:e=x\/H e=some (.own x))(k:∀ b u,b ≠ e->h.get? b=some u->h'.get? b=some u)(heo:∃ u,h'.get? e=some u):Un fs ex H (upd H x o) h h':=by
 have hx:∀ b,H b=none->b ≠ x:=λb n z=>by subst z;rw[n] at mu;exact mu
 have hb:∀ b,H b=none->b ≠ e:=λb n z=>by
  subst z;rcases he with r|r
  ·exact hx b n r
  ·rw[n] at r;cases r
 have hm:∀ b u,H b=some u->¬ Mut (some u)->b ≠ x:=λb u q nm z=>by subst z;rw[q] at mu;exact nm mu
 refine⟨λb u q n _ _=>k b u (hb b n) q,λb u q n _ _=>⟨u.slots,k b u (hb b n) q⟩,λb u q n _=>by rw[zaa (hx b n)];exact n,λb u q _=>?_,
  λb xs q=>by rw[zaa (hm b _ q λz=>z)];exact q,λb u xs q=>by rw[zaa (hm b _ q λz=>z)];exact q,λb ps q=>⟨#[],by rw[zaa (hm b _ q λz=>z),q];simp⟩⟩
 by_cases hbe:b=e
 ·subst hbe;exact heo
 ·exact⟨u,k b u hbe q⟩
end
def trk(h:Heap)(H:Hp):List Addr:=(Qx h.objs.size).filter λa=>(H a).isSome
def hidT(h:Heap)(H:Hp):Heap:=PySem.W.hideAll h (trk h H)
theorem zq8(h:Heap)(H:Hp):(hidT h H).objs.size=h.objs.size:=PySem.W.hideAll_size _ _
theorem zvb{h:Heap}{H:Hp}{b:Addr}{o:Obj}(e:h.get? b=some o)(n:H b=none):(hidT h H).get? b=some o :=
 PySem.W.hideAll_get _ e λhm=>by
  have q:(H b).isSome=true:=(Z0.mp hm).2;rw[n] at q;simp at q
theorem zy6{h:Heap}{H:Hp}{b:Addr}{o:Obj}(e:(hidT h H).get? b=some o):h.get? b=some o/\H b=none:=by
 have e':h.get? b=some o:=PySem.W.of_hideAll (trk h H) e;refine⟨e',?_⟩
 cases q:H b with
 | none=>rfl
 | some x =>
   have hm:b ∈ trk h H:=Z0.mpr ⟨QK.mpr (Heap.lt_size e'),by simp[q]⟩;have z:(hidT h H).get? b=none:=PySem.W.hideAll_none (trk h H) hm;rw[z] at e;cases e
structure Mod (K:PySem.W.Frag) (mg:Str->Option Vb) (base:Heap):Prop where
 kin:K.In base
 glob:base.Ns mainGlobals mg
 blt:∃ mb,base.Ns builtinsNs mb/\∀ x:Str,x ≠ "__name__" -> mb x=Vv x
 nolimit:base.NoLimit
structure Cx where
 prog:Vf
 w:Vk
 K:PySem.W.Frag
 mg:Str->Option Vb
 base:Heap
 A:Vl
 N:List Str
 s₀:Vc
 H₀:Hp
 env:Env
 outer:List Env
 stack:List Env
 ex:List Addr
 fn:Str->Bool
 calm:Bool
 pn:List (Addr × Obj)
 xe:Vb->Vc->Prop
def frs(l:List Env):List Addr:=l.filterMap (·.frame)
abbrev Cx.fs(X:Cx):List Addr:=frs X.outer
def Vis(sc:VP)(x:Str):Prop:=sc.names.lookup x=some .local\/sc.names.lookup x=some .cell\/sc.names.lookup x=some .free
def Loc(sc:VP)(x:Str):Prop:=sc.names.lookup x=some .local\/sc.names.lookup x=some .cell
def Look(env:Env)(h:Heap)(m:Str->Option Vb)(x:Str)(u:Vb):Prop :=
 (env.kindOf x=some .local/\m x=some u)\/((env.kindOf x=some .cell\/env.kindOf x=some .free)/\∃ c,env.cells.lookup x=some c/\h.IsCell c (some u))
structure Cx.Ok (X:Cx):Prop where
 mod:Mod X.K X.mg X.base
 kind:X.env.scope.kind = .function
 glob:X.env.globals=mainGlobals
 blt:X.env.builtins=builtinsNs
 above:X.s₀.heap.objs.size<=X.env.locals
 inj:∀ x y c,X.env.cells.lookup x=some c->X.env.cells.lookup y=some c->x=y
 has:∀ x,(X.env.kindOf x=some .cell\/X.env.kindOf x=some .free)->∃ c,X.env.cells.lookup x=some c
 cab:∀ x c,X.fn x=true->X.env.cells.lookup x=some c->X.s₀.heap.objs.size<=c
 hd:X.calm=true->X.A.handled=none
 frames:X.A.frames=some X.stack
 stk:X.stack=X.outer\/(X.stack=X.env::X.outer/\X.env.frame=some X.env.locals)
 exf:∀ b ∈ X.ex,b ≠ X.env.locals/\∀ x c,X.env.cells.lookup x=some c->c ≠ b
 bs:∀ b o,X.base.get? b=some o->X.s₀.heap.get? b=some o/\X.H₀ b=none
 bsz:X.base.objs.size<=X.s₀.heap.objs.size
 noex:∀ b o,X.base.get? b=some o->b ∉ X.ex
 exfs:∀ b ∈ X.ex,b ∉ X.fs
 funs:X.s₀.heap.FunFrames X.base X.outer
 frf:∀ b ∈ X.fs,X.H₀ b=none
structure Inv (X:Cx) (pins:List (Addr × Obj)) (σ:List (Option V)) (H:Hp) (s:Vc):Prop where
 ok:X.Ok
 os:s.os=X.s₀.os
 bare:UE s.gens
 base:Un X.fs X.ex X.H₀ H X.s₀.heap s.heap
 loc:∃ m,s.heap.Ns X.env.locals m/\∀ (i:Nat) (x:Str) (v:V),X.N[i]? = some x->σ[i]? = some (some v)->Vis X.env.scope x->∃ u,RelV v u/\Look X.env s.heap m x u
 cell:∀ x c,X.env.cells.lookup x=some c->∃ v,s.heap.IsCell c v
 free:H X.env.locals=none
 freeC:∀ x c,X.env.cells.lookup x=some c->H c=none
 pin:∀ p ∈ X.pn++pins,s.heap.get? p.1=some p.2/\H p.1=none/\p.1 ≠ X.env.locals/\p.1 ∉ X.fs/\∀ v,p.2.data ≠ .cell v
 hok:HOk X.prog X.w H s.heap
 len:σ.length=X.N.length
section
variable {X : Cx} {pins : List (Addr × Obj)} {σ : List (Option V)} {H H' : Hp} {s : Vc} {h' : Heap}
theorem Cx.Ok.nofr(ok:X.Ok){b:Addr}{o:Obj}(e:X.base.get? b=some o):b ∉ X.fs:=λhb=>by
 have:=(ok.funs.mem hb).1;rw[e] at this;cases this
theorem Inv.bs(I:Inv X pins σ H s):∀ b o,X.base.get? b=some o->s.heap.get? b=some o/\H b=none:=λb o e =>
 ⟨I.base.keep b o (I.ok.bs b o e).1 (I.ok.bs b o e).2 (I.ok.nofr e) (I.ok.noex b o e),I.base.free b o (I.ok.bs b o e).1 (I.ok.bs b o e).2 (I.ok.noex b o e)⟩
theorem Inv.bk(I:Inv X pins σ H s):∀ b o,X.base.get? b=some o->s.heap.get? b=some o:=λb o e=>(I.bs b o e).1
theorem Inv.mod(I:Inv X pins σ H s):Mod X.K X.mg X.base:=I.ok.mod
theorem Inv.kIn(I:Inv X pins σ H s):X.K.In s.heap:=I.ok.mod.kin.keeps I.bk
theorem Inv.lt(I:Inv X pins σ H s):X.env.locals<s.heap.objs.size:=let ⟨_,hn,_⟩:=I.loc;hn.lt
theorem Inv.sz(I:Inv X pins σ H s):X.s₀.heap.objs.size<=s.heap.objs.size:=QH I.ok.above (Jc I.lt)
theorem Inv.nofs(I:Inv X pins σ H s){a:Addr}(h:s.heap.objs.size<=a):a ∉ X.fs:=λhb=>by
 obtain⟨_,o,ho,_⟩:=I.ok.funs.mem hb;exact absurd (Q7 (Heap.lt_size ho) (QH I.sz h)) (QQ _)
theorem Inv.cne(I:Inv X pins σ H s):∀ x c,X.env.cells.lookup x=some c->c ≠ X.env.locals:=λx c e z=>by
 obtain⟨v,o,ho,hd⟩:=I.cell x c e;obtain⟨m,⟨o',es,ep,ho',hd',_⟩,_⟩:=I.loc;rw[z,ho'] at ho;cases ho;rw[hd'] at hd;cases hd
theorem Inv.funs(I:Inv X pins σ H s):s.heap.FunFrames X.base X.outer:=by
 have all:∀ (l:List Env),(∀ b ∈ frs l,b ∈ X.fs)->X.s₀.heap.FunFrames X.base l->s.heap.FunFrames X.base l:=by
  intro l
  induction l with
  | nil=>intro _ _;trivial
  | cons env r ih =>
    intro hs hl;obtain⟨hk,⟨L,o,hf,hn,ho,hd⟩,hr⟩:=hl;have hL:L ∈ X.fs:=hs L (by unfold frs;rw[J8,hf];exact Qt);obtain⟨sl,e⟩:=I.base.slot L o ho (I.ok.frf L hL) hL λz=>I.ok.exfs L z hL;exact⟨hk,⟨L,_,hf,hn,e,hd⟩,ih (λb hb=>hs b (by unfold frs;rw[J8,hf];exact Qb _ hb)) hr⟩
 exact all X.outer (λ_ hb=>hb) I.ok.funs
theorem Inv.stack(I:Inv X pins σ H s):s.heap.FunFrames X.base X.stack:=by
 rcases I.ok.stk with e|⟨e,hf⟩
 ·rw[e];exact I.funs
 ·rw[e];obtain⟨m,hn,_⟩:=I.loc;refine .cons (by rw[I.ok.kind];decide) hf hn ?_ I.funs;exact Heap.get?_none_of_le (QH I.ok.bsz I.ok.above)
theorem Inv.stkSub(I:Inv X pins σ H s):∀ b ∈ frs X.stack,b ∈ X.env.locals::X.fs:=λb hb=>by
 rcases I.ok.stk with e|⟨e,hf⟩
 ·rw[e] at hb;exact Qb _ hb
 ·rw[e] at hb;unfold frs at hb;rw[J8,hf] at hb;exact hb
theorem Inv.stkFree(I:Inv X pins σ H s):∀ b ∈ frs X.stack,H b=none:=λb hb=>by
 rcases Qs.mp (I.stkSub b hb) with e|hb
 ·rw[e];exact I.free
 ·obtain⟨_,o,ho,_⟩:=I.ok.funs.mem hb;exact I.base.free b o ho (I.ok.frf b hb) λz=>I.ok.exfs b z hb
theorem Inv.step{g':Array Gi}{t':Nat}{d':Drawn}{ch:List Addr}(I:Inv X pins σ H s)
 (hch:∀ b ∈ ch,(b ∈ X.ex\/X.s₀.heap.objs.size<=b)/\b ≠ X.env.locals/\(∀ x c,X.env.cells.lookup x=some c->c ≠ b)/\∀ p ∈ X.pn++pins,p.1 ≠ b)
 (keep:∀ b o,b ≠ X.env.locals->b ∉ X.fs->b ∉ ch->s.heap.get? b=some o->H b=none->h'.get? b=some o)
 (slot:∀ b o,b ≠ X.env.locals->b ∈ X.fs->b ∉ ch->s.heap.get? b=some o->H b=none->∃ sl,h'.get? b=some { o with slots:=sl }) (free:∀ b o,b ∉ ch->s.heap.get? b=some o->H b=none->H' b=none)
 (there:∀ b o,b ∉ ch->s.heap.get? b=some o->∃ o',h'.get? b=some o')
 (tups:∀ b xs,H b=some (.tup xs)->H' b=some (.tup xs)) (frzs:∀ b o u,H b=some (.frz o u)->H' b=some (.frz o u)) (tbls:∀ b ps,H b=some (.tbl ps)->∃ more,H' b=some (.tbl (ps++more)))
 (ns:∀ m,s.heap.Ns X.env.locals m->h'.Ns X.env.locals m) (hok:HOk X.prog X.w H' h') (hg:UE g') :
 Inv X pins σ H' { s with heap:=h',gens:=g',drawn:=d',toks:=t' }:=by
 have neL:∀ b o,X.s₀.heap.get? b=some o->b ≠ X.env.locals:=λb o e=>Qm (Q7 (Heap.lt_size e) I.ok.above)
 have neC:∀ b o,X.s₀.heap.get? b=some o->b ∉ X.ex->b ∉ ch:=λb o e hx hb=>by
  rcases(hch b hb).1 with z|z
  ·exact hx z
  ·exact absurd (Q7 (Heap.lt_size e) z) (QQ _)
 have cellK:∀ x c,X.env.cells.lookup x=some c->∀ v,s.heap.IsCell c v->h'.IsCell c v:=λx c e v ⟨o,ho,hd⟩=>by
  have nch:c ∉ ch:=λz=>(hch c z).2.2.1 x c e rfl
  by_cases hc:c ∈ X.fs
  ·obtain⟨sl,q⟩:=slot c o (I.cne x c e) hc nch ho (I.freeC x c e);exact⟨_,q,hd⟩
  ·exact⟨o,keep c o (I.cne x c e) hc nch ho (I.freeC x c e),hd⟩
 refine⟨I.ok,I.os,hg,⟨λb o e n hb hx=>?_,λb o e n hb hx=>?_,λb o e n hx=>?_,λb o e hx=>?_,λb xs e=>tups b xs (I.base.tups b xs e),λb o xs e=>frzs b o xs (I.base.frzs b o xs e),λb ps e=>?_⟩,?_,λx c e=>?_,?_,λx c e=>?_,λp hp=>?_,hok,I.len⟩
 ·exact keep b o (neL b o e) hb (neC b o e hx) (I.base.keep b o e n hb hx) (I.base.free b o e n hx)
 ·obtain⟨sl,e1⟩:=I.base.slot b o e n hb hx;obtain⟨sl',e2⟩:=slot b _ (neL b o e) hb (neC b o e hx) e1 (I.base.free b o e n hx);exact⟨sl',e2⟩
 ·obtain⟨o',e1⟩:=I.base.there b o e hx;exact free b o' (neC b o e hx) e1 (I.base.free b o e n hx)
 ·obtain⟨o',e1⟩:=I.base.there b o e hx;exact there b o' (neC b o e hx) e1
 ·obtain⟨m1,e1⟩:=I.base.tbls b ps e;obtain⟨m2,e2⟩:=tbls b _ e1;exact⟨m1++m2,by rw[e2,Array.append_assoc]⟩
 ·obtain⟨m,hn,hl⟩:=I.loc;refine⟨m,ns m hn,λi x v e1 e2 e3=>?_⟩;obtain⟨u,r,l⟩:=hl i x v e1 e2 e3;refine⟨u,r,?_⟩;rcases l with l|⟨k,c,e,z⟩
  ·exact .inl l
  ·exact .inr ⟨k,c,e,cellK x c e _ z⟩
 ·obtain⟨v,z⟩:=I.cell x c e;exact⟨v,cellK x c e v z⟩
 ·obtain⟨m,⟨o,_,_,ho,_⟩,_⟩:=I.loc;exact free _ o (λz=>(hch _ z).2.1 rfl) ho I.free
 ·obtain⟨v,o,ho,hd⟩:=I.cell x c e;exact free c o (λz=>(hch c z).2.2.1 x c e rfl) ho (I.freeC x c e)
 ·obtain⟨e,n,ne,nf,d⟩:=I.pin p hp;have nch:p.1 ∉ ch:=λz=>(hch p.1 z).2.2.2 p hp rfl;exact⟨keep p.1 p.2 ne nf nch e n,free p.1 p.2 nch e n,ne,nf,d⟩
theorem Inv.un{t':Nat}(I:Inv X pins σ H s)(u:Un X.fs [] H H' s.heap h')(hok:HOk X.prog X.w H' h'):Inv X pins σ H' { s with heap:=h',toks:=t' }:=by
 obtain⟨m,⟨o,es,ep,ho,r⟩,_⟩:=id I.loc;obtain⟨sl,hL⟩:=u.any ho I.free (by simp)
 exact I.step (g':=s.gens) (d':=s.drawn) (ch := []) (λ_ z=>nomatch z) (λb o _ hb _ e n=>u.keep b o e n hb (by simp)) (λb o _ hb _ e n=>u.slot b o e n hb (by simp)) (λb o _ e n=>u.free b o e n (by simp)) (λb o _ e=>u.there b o e (by simp)) u.tups u.frzs u.tbls (λm' hm=>by
  obtain⟨o',es',ep',ho',r'⟩:=hm;rw[ho] at ho';cases ho'
  exact⟨_,es',ep',hL,r'⟩) hok I.bare
theorem Inv.call{g':Array Gi}{t':Nat}{d':Drawn}{ch:List Addr}(I:Inv X pins σ H s)(u:Un (frs X.stack) ch H H' s.heap h')(hok:HOk X.prog X.w H' h')(hg:UE g')
 (hch:∀ b ∈ ch,(b ∈ X.ex\/X.s₀.heap.objs.size<=b)/\b ≠ X.env.locals/\(∀ x c,X.env.cells.lookup x=some c->c ≠ b)/\∀ p ∈ X.pn++pins,p.1 ≠ b) :
 Inv X pins σ H' { s with heap:=h',gens:=g',drawn:=d',toks:=t' }:=by
 obtain⟨m,⟨o,es,ep,ho,r⟩,_⟩:=id I.loc;obtain⟨sl,hL⟩:=u.any ho I.free λz=>(hch _ z).2.1 rfl
 exact I.step (ch:=ch) hch (λb o hL hb hc e n=>u.keep b o e n (λz=>(Qs.mp (I.stkSub b z)).elim hL hb) hc) (λb o _ _ hc e n=>u.any e n hc) (λb o hc e n=>u.free b o e n hc) (λb o hc e=>u.there b o e hc) u.tups u.frzs u.tbls (λm' hm=>by
  obtain⟨o',es',ep',ho',r'⟩:=hm;rw[ho] at ho';cases ho'
  exact⟨_,es',ep',hL,r'⟩) hok hg
theorem Inv.turned{t':Nat}{it:Addr}(I:Inv X pins σ H s)(k:∀ b o,b ≠ it->s.heap.get? b=some o->h'.get? b=some o)(hn:H it=none)(hL:it ≠ X.env.locals)
 (h1:it ∈ X.ex\/X.s₀.heap.objs.size<=it) (h2:∀ x c,X.env.cells.lookup x=some c->c ≠ it) (h3:∀ p ∈ X.pn++pins,p.1 ≠ it):Inv X pins σ H { s with heap:=h',toks:=t' }:=by
 have nit:∀ b u,H b=some u->b ≠ it:=λb u e z=>by rw[z,hn] at e;cases e
 refine I.step (g':=s.gens) (d':=s.drawn) (ch := [it]) (λb hb=>?_) (λb o _ _ hc e _=>k b o (λz=>hc (by simp[z])) e) (λb o _ _ hc e _=>⟨o.slots,k b o (λz=>hc (by simp[z])) e⟩) (λ_ _ _ _ n=>n)
  (λb o hc e=>⟨o,k b o (λz=>hc (by simp[z])) e⟩) (λ_ _ e=>e) (λ_ _ _ e=>e) (λb ps e=>⟨#[],by rw[e];simp⟩) (λm hm=>?_) (λb u e=>?_) I.bare
 ·have e:b=it:=by simpa using hb
  subst e;exact⟨h1,hL,h2,h3⟩
 ·obtain⟨o,es,ep,ho,r⟩:=hm;exact⟨o,es,ep,k _ o (Zj hL) ho,r⟩
 ·refine(I.hok b u e).stay (λc v hc q=>k c v ?_ q) (λ_ q=>q) λ_ _ q=>q;rcases hc with z|z
  ·rw[z];exact nit b u e
  ·exact nit c _ z
theorem Inv.tok(I:Inv X pins σ H s)(t:Nat):Inv X pins σ H { s with toks:=t }:=I.un (h':=s.heap) (t':=t) Un.refl I.hok
theorem Inv.kept{t':Nat}(I:Inv X pins σ H s)(k:∀ b u,s.heap.get? b=some u->h'.get? b=some u):Inv X pins σ H { s with heap:=h',toks:=t' }:=I.un (Un.kept k) (I.hok.kept k)
theorem Inv.laid{a:Addr}{o:HO}{t':Nat}(I:Inv X pins σ H s)(k:∀ b u,s.heap.get? b=some u->h'.get? b=some u)(hp:s.heap.objs.size<=a)(new:ObjOk X.prog X.w (upd H a o) h' a o) :
 Inv X pins σ (upd H a o) { s with heap:=h',toks:=t' }:=I.un (Un.laid k hp (I.hok.fresh hp)) (I.hok.laid k hp new)
theorem Inv.write{x e:Addr}{o:HO}{t':Nat}(I:Inv X pins σ H s)(mu:Mut (H x))(he:e=x\/H e=some (.own x))(k:∀ b u,b ≠ e->s.heap.get? b=some u->h'.get? b=some u)(heo:∃ u,h'.get? e=some u)
 (new:ObjOk X.prog X.w (upd H x o) h' x o):Inv X pins σ (upd H x o) { s with heap:=h',toks:=t' }:=I.un (Un.write mu he k heo) (I.hok.write mu he k heo new)
theorem Inv.weak{σ':List (Option V)}(I:Inv X pins σ H s)(hl:σ'.length=σ.length)(w:∀ (i:Nat) v,σ'[i]? = some (some v)->σ[i]? = some (some v)):Inv X pins σ' H s :=
 ⟨I.ok,I.os,I.bare,I.base,let ⟨m,hn,hl'⟩:=I.loc; ⟨m,hn,λi x v e1 e2 e3=>hl' i x v e1 (w i v e2) e3⟩,I.cell,I.free,I.freeC,I.pin,I.hok,hl.trans I.len⟩
theorem Inv.pins_of{pins':List (Addr × Obj)}(I:Inv X pins σ H s)(h:∀ p ∈ pins',s.heap.get? p.1=some p.2/\H p.1=none/\p.1 ≠ X.env.locals/\p.1 ∉ X.fs/\∀ v,p.2.data ≠ .cell v):Inv X pins' σ H s :=
 ⟨I.ok,I.os,I.bare,I.base,I.loc,I.cell,I.free,I.freeC,λp hp=>(Qv.mp hp).elim (λz=>I.pin p (Zp _ z)) (h p),I.hok,I.len⟩
theorem zmm{N:List Str}(hN:N.Nodup){i j:Nat}{x:Str}(a:N[i]? = some x)(b:N[j]? = some x):i=j:=by
 obtain⟨h1,e1⟩:=Qi.mp a;obtain⟨h2,e2⟩:=Qi.mp b;exact(List.getElem_inj hN).mp (e1.trans e2.symm)
theorem zju{M:Gy}{A:Vl}{E:Vb->Vc->Prop}{i:Nat}{x:Str}{v:V}{u:Vb}{Q:Unit->Vc->Prop}(I:Inv X pins σ H s)(hN:X.N.Nodup)(hi:X.N[i]? = some x)(hx:Loc X.env.scope x)(r:RelV v u)
 (h:∀ s',Inv X pins (σ.set i (some v)) H s'->(∃ a,Heap.SameBut a s.heap s'.heap/\(a=X.env.locals\/X.env.cells.lookup x=some a))->Q () s') (hf:X.fn x=true\/X.env.scope.names.lookup x=some .local:=by first|exact .inl rfl|exact .inr rfl|assumption):wpAny M A (storeName X.env x u) Q E s:=by
 obtain⟨m,hn,hl⟩:=id I.loc;have hcls:(X.env.scope.kind == .class || (X.env.scope.kind == .module && X.env.locals != X.env.globals))=false:=by rw[I.ok.kind];rfl
 have hiσ:i<σ.length:=by rw[I.len];exact(Qi.mp hi).1
 have cne:=I.cne
 have tracked:∀ {a:Addr} {h':Heap},(∃ o,s.heap.get? a=some o/\H a=none)->Heap.SameBut a s.heap h'->HOk X.prog X.w H h':=λ{a h'} ha hs b ob e=>by
  obtain⟨_,_,hfree⟩:=ha;refine(I.hok b ob e).stay (λc w' hc q=>(hs.2 c ?_).trans q) (λ_ q=>q) λ_ _ q=>q;rintro rfl;rcases hc with rfl|hc
  ·rw[hfree] at e;cases e
  ·rw[hfree] at hc;cases hc
 rcases hx with hk|hk
 ·refine wpAny_storeName_local hk hn (λh' hn' hs=>?_) hcls;obtain⟨oL,_,_,hoL,_⟩:=id hn;refine h _ ⟨I.ok,I.os,I.bare,⟨λb o e n hb hx=>?_,λb o e n hb hx=>?_,I.base.free,λb o e hx=>?_,I.base.tups,I.base.frzs,I.base.tbls⟩,⟨_,hn',λj y v' e1 e2 e3=>?_⟩,λy c e=>?_,I.free,I.freeC,λp hp=>?_,tracked ⟨oL,hoL,I.free⟩ hs,by simpa using I.len⟩ ⟨_,hs,.inl rfl⟩
  ·exact(hs.2 b (Qm (Q7 (Heap.lt_size e) I.ok.above))).trans (I.base.keep b o e n hb hx)
  ·obtain⟨sl,e1⟩:=I.base.slot b o e n hb hx;exact⟨sl,(hs.2 b (Qm (Q7 (Heap.lt_size e) I.ok.above))).trans e1⟩
  ·obtain⟨o',e1⟩:=I.base.there b o e hx;exact⟨o',(hs.2 b (Qm (Q7 (Heap.lt_size e) I.ok.above))).trans e1⟩
  ·by_cases hj:j=i
   ·subst hj;rw[hi] at e1;cases e1;rw[QB hiσ] at e2;cases e2;exact⟨u,r,.inl ⟨hk,by simp⟩⟩
   ·rw[QL (Zj hj)] at e2;obtain⟨u',r',q⟩:=hl j y v' e1 e2 e3;refine⟨u',r',?_⟩;rcases q with ⟨k,e⟩|⟨k,c,e,z⟩
    ·refine .inl ⟨k,?_⟩;have:y ≠ x:=λe=>hj (zmm hN e1 (e ▸ hi));simp[this,e]
    ·exact .inr ⟨k,c,e,z.sameBut hs (cne y c e)⟩
  ·obtain⟨w',z⟩:=I.cell y c e;exact⟨w',z.sameBut hs (cne y c e)⟩
  ·obtain⟨e,n,ne,nf,d⟩:=I.pin p hp;exact⟨(hs.2 p.1 ne).trans e,n,ne,nf,d⟩
 ·have hfn:X.fn x=true:=by
   rcases hf with z|z
   ·exact z
   ·rw[z] at hk;cases hk
  obtain⟨c,hc⟩:=I.ok.has x (.inl hk);obtain⟨w',z⟩:=I.cell x c hc;refine wpAny_storeName_cell I.ok.kind hk hc z (λh' hc' hs=>?_);obtain⟨oc,hoc,hocd⟩:=id z;refine h { s with heap:=h' } ⟨I.ok,I.os,I.bare,⟨λb o e n hb hx=>?_,λb o e n hb hx=>?_,I.base.free,λb o e hx=>?_,I.base.tups,I.base.frzs,I.base.tbls⟩,⟨m,hn.sameBut hs (Zj (cne x c hc)),λj y v' e1 e2 e3=>?_⟩,λy c' e=>?_,I.free,I.freeC,λp hp=>?_,tracked ⟨oc,hoc,I.freeC x c hc⟩ hs,by simpa using I.len⟩ ⟨c,hs,.inr hc⟩
  ·exact(hs.2 b (Qm (Q7 (Heap.lt_size e) (I.ok.cab x c hfn hc)))).trans (I.base.keep b o e n hb hx)
  ·obtain⟨sl,e1⟩:=I.base.slot b o e n hb hx;exact⟨sl,(hs.2 b (Qm (Q7 (Heap.lt_size e) (I.ok.cab x c hfn hc)))).trans e1⟩
  ·obtain⟨o',e1⟩:=I.base.there b o e hx;exact⟨o',(hs.2 b (Qm (Q7 (Heap.lt_size e) (I.ok.cab x c hfn hc)))).trans e1⟩
  ·by_cases hj:j=i
   ·subst hj;rw[hi] at e1;cases e1;rw[QB hiσ] at e2;cases e2;exact⟨u,r,.inr ⟨.inl hk,c,hc,hc'⟩⟩
   ·rw[QL (Zj hj)] at e2;obtain⟨u',r',q⟩:=hl j y v' e1 e2 e3;refine⟨u',r',?_⟩;rcases q with q|⟨k,c',e,z'⟩
    ·exact .inl q
    ·refine .inr ⟨k,c',e,z'.sameBut hs ?_⟩;rintro rfl;exact hj (zmm hN e1 (I.ok.inj _ _ _ e hc ▸ hi))
  ·by_cases hcc:c'=c
   ·subst hcc;exact⟨_,hc'⟩
   ·obtain⟨w2,z2⟩:=I.cell y c' e;exact⟨w2,z2.sameBut hs hcc⟩
  ·obtain⟨e,n,ne,nf,d⟩:=I.pin p hp;refine⟨(hs.2 p.1 ?_).trans e,n,ne,nf,d⟩;intro q;rw[q,hoc] at e;have q':oc=p.2:=QS e;exact d w' (by rw[<- q'];exact hocd)
theorem zlz{M:Gy}{A:Vl}{E:Vb->Vc->Prop}{i:Nat}{x:Str}{v:V}{u:Vb}{Q:Unit->Vc->Prop}(I:Inv X pins σ H s)(hN:X.N.Nodup)(hi:X.N[i]? = some x)(hx:Loc X.env.scope x)(r:RelV v u)
 (h:∀ s',Inv X pins (σ.set i (some v)) H s'->Q () s') (hf:X.fn x=true\/X.env.scope.names.lookup x=some .local:=by first|exact .inl rfl|exact .inr rfl|assumption):wpAny M A (storeName X.env x u) Q E s :=
 zju I hN hi hx r (λs' I' _=>h s' I') hf
theorem Inv.call'{s':Vc}{ch:List Addr}(I:Inv X pins σ H s)(ho:s'.os=s.os)(u:Un (frs X.stack) ch H H' s.heap s'.heap)(hok:HOk X.prog X.w H' s'.heap)(hg:UE s'.gens)
 (hch:∀ b ∈ ch,(b ∈ X.ex\/X.s₀.heap.objs.size<=b)/\b ≠ X.env.locals/\(∀ x c,X.env.cells.lookup x=some c->c ≠ b)/\∀ p ∈ X.pn++pins,p.1 ≠ b):Inv X pins σ H' s':=by
 obtain⟨h',g',d',t',o'⟩:=s';have e:o'=s.os:=ho;subst e;exact I.call (g':=g') (t':=t') (d':=d') u hok hg hch
end
abbrev XK:=Vb->Option Addr->Hp->Prop
abbrev St:=List (Option V)
abbrev VK:=V->Hp->Prop
abbrev TE:=St->Hp->VK->Prop
abbrev TT:=St->Hp->(Bool->Hp->Prop)->Prop
abbrev TA:=St->Hp->(List V->Hp->Prop)->Prop
structure Ends where
 nx:St->Hp->Prop
 rt:VK
 bk:St->Hp->Prop:=λ_ _=>False
 ct:St->Hp->Prop:=λ_ _=>False
abbrev TS:=Ends->St->Hp->Prop
def EP(X:Cx)(pins:List (Addr × Obj))(σ:St)(Q:VK)(u:Vb)(s':Vc):Prop:=∃ v H',Inv X pins σ H' s'/\RelV v u/\Q v H'
def TP(X:Cx)(pins:List (Addr × Obj))(σ:St)(Q:Bool->Hp->Prop)(b:Bool)(s':Vc):Prop:=∃ H',Inv X pins σ H' s'/\Q b H'
def AP(X:Cx)(pins:List (Addr × Obj))(σ:St)(Q:List V->Hp->Prop)(us:List Vb)(s':Vc):Prop:=∃ vs H',Inv X pins σ H' s'/\Vals vs us/\Q vs H'
def SP(X:Cx)(pins:List (Addr × Obj))(D:Ends)(f:Flow)(s':Vc):Prop :=
 match f with
 | .next=>∃ σ' H',Inv X pins σ' H' s'/\D.nx σ' H'
 | .brk=>∃ σ' H',Inv X pins σ' H' s'/\D.bk σ' H'
 | .cont=>∃ σ' H',Inv X pins σ' H' s'/\D.ct σ' H'
 | .ret u=>∃ v σ' H',Inv X pins σ' H' s'/\RelV v u/\D.rt v H'
def PE(X:Cx)(e:Expr)(t:TE):Prop :=
 ∀ (pins:List (Addr × Obj)) (s:Vc) (σ:St) (H:Hp) (Q:VK),Inv X pins σ H s->t σ H Q->wpAny (model X.prog X.w) X.A (eval e X.env) (EP X pins σ Q) X.xe s
def PT(X:Cx)(e:Expr)(t:TT):Prop :=
 ∀ (pins:List (Addr × Obj)) (s:Vc) (σ:St) (H:Hp) (Q:Bool->Hp->Prop),Inv X pins σ H s->t σ H Q->wpAny (model X.prog X.w) X.A (isTrue e X.env (eval e X.env)) (TP X pins σ Q) X.xe s
def PW(X:Cx)(e:Expr)(t:TT):Prop :=
 ∀ (whole:Sem Vb) (pins:List (Addr × Obj)) (s:Vc) (σ:St) (H:Hp) (Q:Bool->Hp->Prop),Inv X pins σ H s->t σ H Q->wpAny (model X.prog X.w) X.A (isTrue e X.env whole) (TP X pins σ Q) X.xe s
theorem PW.pt{X:Cx}{e:Expr}{t:TT}(h:PW X e t):PT X e t:=h _
def PA(X:Cx)(es:List Expr)(t:TA):Prop :=
 ∀ (pos:Pos) (pins:List (Addr × Obj)) (s:Vc) (σ:St) (H:Hp) (Q:List V->Hp->Prop),Inv X pins σ H s->t σ H Q->wpAny (model X.prog X.w) X.A (UF (VU pos (Vg es X.env))) (AP X pins σ Q) X.xe s
def PS(X:Cx)(st:Stmt)(t:TS):Prop :=
 ∀ (pins:List (Addr × Obj)) (s:Vc) (σ:St) (H:Hp) (D:Ends),Inv X pins σ H s->t D σ H->wpAny (model X.prog X.w) X.A (exec st X.env) (SP X pins D) X.xe s
def PSs(X:Cx)(st:List Stmt)(t:TS):Prop :=
 ∀ (pins:List (Addr × Obj)) (s:Vc) (σ:St) (H:Hp) (D:Ends),Inv X pins σ H s->t D σ H->wpAny (model X.prog X.w) X.A (execs st X.env) (SP X pins D) X.xe s
theorem thn{α:Type}{t:Sem α}{Q Q':α->Vc->Prop}{M:Gy}{A:Vl}{E:Vb->Vc->Prop}{s:Vc}(h:wpAny M A t Q E s)(hQ:∀ a s,Q a s->Q' a s):wpAny M A t Q' E s:=V0 h hQ λ_ _ x=>x
section
variable {X : Cx}
def tVar(i:Nat):TE:=λσ H Q=>∃ v,σ[i]? = some (some v)/\Q v H
def tC(v:V):TE:=λ_ H Q=>Q v H
theorem zag{i:Nat}{x:Str}{pos:Pos}(hN:X.N[i]? = some x)(hv:Vis X.env.scope x)(hd:(x == ("__debug__" : Str))=false:=by decide)(hcd:(x == ("__classdict__" : Str))=false:=by decide):PE X (.Name x pos) (tVar i):=by
 intro pins s σ H Q I h;obtain⟨v,e,h⟩:=h;obtain⟨m,hn,hl⟩:=I.loc;obtain⟨u,r,l⟩:=hl i x v hN e hv;have fin:EP X pins σ Q u s:=⟨v,H,I,r,h⟩;rcases l with ⟨hk,hm⟩|⟨hk,c,hc,hcell⟩
 ·exact wpAny_Name (wpAny_loadName_local I.ok.kind hk hn hm fin) hd
 ·rcases hk with hk|hk
  ·exact wpAny_Name (wpAny_loadName_cell I.ok.kind hk hc hcell fin) hd
  ·exact wpAny_Name (wpAny_loadName_free I.ok.kind hk hc hcell fin hcd) hd
theorem zar{i j pos}:PE X (.Constant (.int i) j pos) (tC (.int i)):=λ_ _ _ H _ I h=>wpAny_Constant_int ⟨.int i,H,I.tok _,⟨_,rfl⟩,h⟩
theorem zwo{b j pos}:PE X (.Constant (.bool b) j pos) (tC (.bl b)):=λ_ _ _ H _ I h=>Constant_bool ⟨.bl b,H,I,rfl,h⟩
theorem za6{x j pos}:PE X (.Constant (.str x) j pos) (tC (.str x)):=λ_ _ _ H _ I h=>Calls.Constant_str ⟨.str x,H,I.tok _,⟨_,rfl⟩,h⟩
def Gl(X:Cx)(x:Str):Prop:=X.env.kindOf x=some .globalImplicit
theorem zno{E:Vb->Vc->Prop}{pins:List (Addr × Obj)}{s:Vc}{σ:St}{H:Hp}{x:Str}{u:Vb}{pos:Pos}{Q:Vb->Vc->Prop}(I:Inv X pins σ H s)(hg:Gl X x)(hm:X.mg x=some u)(h:Q u s)
 (hd:(x == ("__debug__" : Str))=false:=by decide):wpAny (model X.prog X.w) X.A (eval (.Name x pos) X.env) Q E s :=
 Calls.Name_function_global I.ok.kind hg (Calls.loadGlobal_global (by rw[I.ok.glob];exact I.mod.glob.keeps I.bk) hm h) hd
theorem zb6{E:Vb->Vc->Prop}{pins:List (Addr × Obj)}{s:Vc}{σ:St}{H:Hp}{x:Str}{u:Vb}{pos:Pos}{Q:Vb->Vc->Prop}(I:Inv X pins σ H s)(hg:Gl X x)(hm:X.mg x=none)(hv:Vv x=some u)(h:Q u s)
 (hn:x ≠ "__name__" := by decide) (hd:(x == ("__debug__" : Str))=false:=by decide):wpAny (model X.prog X.w) X.A (eval (.Name x pos) X.env) Q E s:=by
 obtain⟨mb,h1,h2⟩:=I.mod.blt;exact Calls.Name_function_global I.ok.kind hg (Calls.loadGlobal_builtin (by rw[I.ok.glob];exact I.mod.glob.keeps I.bk) hm (by rw[I.ok.blt];exact h1.keeps I.bk) ((h2 x hn).trans hv) h) hd
variable {a b : Expr} {ta tb : TE} {pos : Pos}
def PC(X:Cx)(op:CmpOp)(a b:Expr)(t:TE):Prop :=
 ∀ (pins:List (Addr × Obj)) (s:Vc) (σ:St) (H:Hp) (Q:VK),Inv X pins σ H s->t σ H Q ->
   wpAny (model X.prog X.w) X.A (eval a X.env) (λv s₁=>wpAny (model X.prog X.w) X.A (eval b X.env) (λu s₂=>wpAny (model X.prog X.w) X.A (VG op v u) (EP X pins σ Q) X.xe s₂) X.xe s₁) X.xe s
def tB(t:TE):TT:=λσ H Q=>t σ H λx H1=>∃ c,x = .bl c/\Q c H1
theorem z1n{op:CmpOp}{t:TE}(h:PC X op a b t)(h1:VS op b=false:=by first|exact nobehind _ (by decide) (by decide)|rfl):PT X (.Compare a [op] [b] pos) (tB t):=by
 intro pins s σ H Q I hw;refine Gg (thn (h pins s σ H _ I hw) λv s1 h1=>thn h1 λu s2 h2=>thn h2 λc s3 ⟨x,H1,I1,r1,q1⟩=>?_) h1;obtain⟨d,rfl,q⟩:=q1;cases r1;exact VI ⟨H1,I1,q⟩
theorem z1e{e:Expr}{t:TE}(h:PE X e t)(he:∀ whole,isTrue e X.env whole=(do let v <- whole;standAt e.pos;holding [v] (truthy v)):=by intro _;rfl):PT X e (tB t):=by
 intro pins s σ H Q I hw;refine isTrue_plain (thn (h pins s σ H _ I hw) λv s1 ⟨x,H1,I1,r1,q1⟩=>?_) (he _);obtain⟨d,rfl,q⟩:=q1;cases r1;exact VI ⟨H1,I1,q⟩
variable {tA tB' : TT} {rest : List Expr}
def tAnd(t u:TT):TT:=λσ H Q=>t σ H λc H1=>if c=true then u σ H1 Q else Q false H1
def tOr(t u:TT):TT:=λσ H Q=>t σ H λc H1=>if c=true then Q true H1 else u σ H1 Q
theorem zop(ha:PT X a tA):PW X (.BoolOp .And [a] pos) tA:=by
 intro wh pins s σ H Q I h;refine isTrue_and (thn (ha pins s σ H Q I h) λc s1 e=>?_)
 cases c with
 | true=>exact isTrue_and_nil e
 | false=>exact e
theorem z0e(ha:PT X a tA):PW X (.BoolOp .Or [a] pos) tA:=by
 intro wh pins s σ H Q I h;refine isTrue_or (thn (ha pins s σ H Q I h) λc s1 e=>?_)
 cases c with
 | false=>exact isTrue_or_nil e
 | true=>exact e
theorem zrg(ha:PT X a tA)(hb:PW X (.BoolOp .And (b::rest) pos) tB'):PW X (.BoolOp .And (a::b::rest) pos) (tAnd tA tB'):=by
 intro wh pins s σ H Q I h;refine isTrue_and (thn (ha pins s σ H _ I h) λc s1 ⟨H1,I1,q1⟩=>?_)
 cases c with
 | true=>exact hb wh pins s1 σ H1 Q I1 q1
 | false=>exact⟨H1,I1,q1⟩
theorem z2k(ha:PT X a tA)(hb:PW X (.BoolOp .Or (b::rest) pos) tB'):PW X (.BoolOp .Or (a::b::rest) pos) (tOr tA tB'):=by
 intro wh pins s σ H Q I h;refine isTrue_or (thn (ha pins s σ H _ I h) λc s1 ⟨H1,I1,q1⟩=>?_)
 cases c with
 | true=>exact⟨H1,I1,q1⟩
 | false=>exact hb wh pins s1 σ H1 Q I1 q1
def zvq(ta tb:TE):TE:=λσ H Q=>ta σ H λx H1=>∃ c,x = .bl c/\if c=true then tb σ H1 Q else Q (.bl false) H1
def tOrV(ta tb:TE):TE:=λσ H Q=>ta σ H λx H1=>∃ c,x = .bl c/\if c=true then Q (.bl true) H1 else tb σ H1 Q
theorem zzr{op}{t:TE}(h:PE X a t):PE X (.BoolOp op [a] pos) t:=λpins s σ H Q I hw=>BoolOp_one (h pins s σ H Q I hw)
theorem z1v(ha:PE X a ta)(hb:PE X (.BoolOp .And (b::rest) pos) tb):PE X (.BoolOp .And (a::b::rest) pos) (zvq ta tb):=by
 intro pins s σ H Q I h;refine BoolOp_and (thn (ha pins s σ H _ I h) λv s1 ⟨x,H1,I1,r1,q1⟩=>?_);obtain⟨c,rfl,q1⟩:=q1;cases r1;refine VI ?_
 cases c with
 | true=>exact hb pins s1 σ H1 Q I1 q1
 | false=>exact⟨.bl false,H1,I1,rfl,q1⟩
theorem z3d(ha:PE X a ta)(hb:PE X (.BoolOp .Or (b::rest) pos) tb):PE X (.BoolOp .Or (a::b::rest) pos) (tOrV ta tb):=by
 intro pins s σ H Q I h;refine BoolOp_or (thn (ha pins s σ H _ I h) λv s1 ⟨x,H1,I1,r1,q1⟩=>?_);obtain⟨c,rfl,q1⟩:=q1;cases r1;refine VI ?_
 cases c with
 | false=>exact hb pins s1 σ H1 Q I1 q1
 | true=>exact⟨.bl true,H1,I1,rfl,q1⟩
end
def SqL(K:PySem.W.Frag)(H:Hp)(a:Addr)(xs:List V):Prop :=
 Rd H a (.lst xs) \/
  ∃ (o:Obj) (its:Array Vb) (n:Nat),K.lookup a=some o/\o.cls = .type "list" /\ o.dict=none/\o.data = .seq its n/\its.size<=sizeLine/\Vals xs its.toList
def SqT(K:PySem.W.Frag)(H:Hp)(a:Addr)(xs:List V):Prop :=
 Rd H a (.tup xs) \/
  ∃ (o:Obj) (its:Array Vb) (n:Nat),K.lookup a=some o/\o.cls = .type "tuple" /\ o.data = .seq its n/\its.size<=sizeLine/\Vals xs its.toList
def absV:Vb->Option V
 | .none=>some .non
 | .bool b=>some (.bl b)
 | .int i _=>some (.int i)
 | .str x _=>some (.str x)
 | .bytes b _=>some (.byt b)
 | .float b _=>some (.flt b)
 | .ref a=>some (.ref a)
 | .type n=>some (.ty n)
 | _=>none
theorem RelV.abs{x:V}{u:Vb}(r:RelV x u):absV u=some x:=by
 cases x with
 | non=>cases r;rfl
 | bl _=>cases r;rfl
 | int _=>obtain⟨t,rfl⟩:=r;rfl
 | str _=>obtain⟨t,rfl⟩:=r;rfl
 | byt _=>obtain⟨t,rfl⟩:=r;rfl
 | flt _=>obtain⟨t,rfl⟩:=r;rfl
 | ref _=>cases r;rfl
 | ty _=>cases r;rfl
theorem RelV.inj{x y:V}{u:Vb}(r:RelV x u)(q:RelV y u):x=y:=QS (r.abs.symm.trans q.abs)
theorem Vals.inj:∀ {xs ys:List V} {us:List Vb},Vals xs us->Vals ys us->xs=ys
 | _,_,_,.nil,.nil=>rfl
 | _,_,_,.cons r t,.cons r' t'=>by rw[r.inj r',Vals.inj t t']
section
variable {X : Cx} {pins : List (Addr × Obj)} {σ : St} {H : Hp} {s : Vc} {a : Addr} {xs ys : List V}
theorem SqL.of{K:PySem.W.Frag}(h:H a=some (.lst xs)):SqL K H a xs := .inl (.inl h)
theorem SqT.of{K:PySem.W.Frag}(h:H a=some (.tup xs)):SqT K H a xs := .inl (.inl h)
theorem Inv.list(I:Inv X pins σ H s)(h:SqL X.K H a xs):∃ its:List Vb,Vals xs its/\PlainL s.heap a its.toArray/\xs.length<=sizeLine:=by
 rcases h with h|⟨o,its,n,hk,hc,hd,hs,hz,r⟩
 ·obtain⟨z,its,n,r,e⟩:=h.ok I.hok;exact⟨its,r,⟨_,n,e,rfl,rfl,rfl⟩,z⟩
 ·refine⟨its.toList,r,⟨o,n,I.kIn a o hk,hc,hd,by simpa using hs⟩,?_⟩;have e:=r.length;simp only[QE] at e;omega
theorem Inv.tuple(I:Inv X pins σ H s)(h:SqT X.K H a xs):∃ its:List Vb,Vals xs its/\IsTup s.heap a its.toArray/\xs.length<=sizeLine:=by
 rcases h with h|⟨o,its,n,hk,hc,hs,hz,r⟩
 ·obtain⟨z,its,r,p⟩:=h.ok I.hok;exact⟨its,r,p,z⟩
 ·refine⟨its.toList,r,⟨o,I.kIn a o hk,hc,n,by simpa using hs⟩,?_⟩;have e:=r.length;simp only[QE] at e;omega
theorem Inv.list_inj(I:Inv X pins σ H s)(h:SqL X.K H a xs)(h':SqL X.K H a ys):xs=ys:=by
 obtain⟨its,r,⟨o,n,e,_,_,d⟩,_⟩:=I.list h;obtain⟨its',r',⟨o',n',e',_,_,d'⟩,_⟩:=I.list h';rw[e] at e';cases e';rw[d] at d';injection d' with d1 _;have:its=its':=by simpa using Tb Array.toList d1
 subst this;exact r.inj r'
end
abbrev Cx.wish(X:Cx)(E:Vb->Vc->Prop):Cx:={ X with xe:=E }
abbrev Cx.nox(X:Cx):Cx:=X.wish λ_ _=>False
theorem Cx.Ok.wish{X:Cx}(ok:X.Ok)(E:Vb->Vc->Prop):(X.wish E).Ok :=
 ⟨ok.mod,ok.kind,ok.glob,ok.blt,ok.above,ok.inj,ok.has,ok.cab,ok.hd,ok.frames,ok.stk,ok.exf,ok.bs,ok.bsz,ok.noex,ok.exfs,ok.funs,ok.frf⟩
theorem Cx.Ok.unwish{X:Cx}{E:Vb->Vc->Prop}(ok:(X.wish E).Ok):X.Ok :=
 ⟨ok.mod,ok.kind,ok.glob,ok.blt,ok.above,ok.inj,ok.has,ok.cab,ok.hd,ok.frames,ok.stk,ok.exf,ok.bs,ok.bsz,ok.noex,ok.exfs,ok.funs,ok.frf⟩
section
variable {X : Cx} {pins : List (Addr × Obj)} {σ : St} {H : Hp} {s : Vc} {E : Vb → Vc → Prop}
theorem Inv.wish(I:Inv X pins σ H s)(E:Vb->Vc->Prop):Inv (X.wish E) pins σ H s:=⟨I.ok.wish E,I.os,I.bare,I.base,I.loc,I.cell,I.free,I.freeC,I.pin,I.hok,I.len⟩
theorem Inv.unwish(I:Inv (X.wish E) pins σ H s):Inv X pins σ H s:=⟨I.ok.unwish,I.os,I.bare,I.base,I.loc,I.cell,I.free,I.freeC,I.pin,I.hok,I.len⟩
theorem SP.unwish{D:Ends}{f:Flow}{s':Vc}(h:SP (X.wish E) pins D f s'):SP X pins D f s':=by
 cases f with
 | next=>obtain⟨σ',H',I,q⟩:=h;exact⟨σ',H',I.unwish,q⟩
 | brk=>obtain⟨σ',H',I,q⟩:=h;exact⟨σ',H',I.unwish,q⟩
 | cont=>obtain⟨σ',H',I,q⟩:=h;exact⟨σ',H',I.unwish,q⟩
 | ret u=>obtain⟨v,σ',H',I,r,q⟩:=h;exact⟨v,σ',H',I.unwish,r,q⟩
theorem PSs.nox{st:List Stmt}{t:TS}(h:PSs X.nox st t):PSs X st t:=λpins s σ H D I hw =>
 V0 (h pins s σ H D (I.wish _) hw) (λ_ _ q=>q.unwish) λ_ _ z=>Z4 z
end
section
variable {X : Cx} {st : Stmt} {rest : List Stmt} {t u : TS} {e : Expr} {te : TE} {pos : Pos}
def zpc:TS:=λD σ H=>D.nx σ H
def tSeq(t u:TS):TS:=λD σ H=>t { D with nx:=u D } σ H
theorem zni:PSs X [] zpc:=λ_ _ σ H _ I h=>U4 ⟨σ,H,I,h⟩
theorem za1(h1:PS X st t)(h2:PSs X rest u):PSs X (st::rest) (tSeq t u):=by
 intro pins s σ H D I h;refine wpAny_execs_cons (thn (h1 pins s σ H { D with nx:=u D } I h) λf s1 q=>?_)
 cases f with
 | next =>
   obtain⟨σ',H',I',q⟩:=q;exact h2 pins s1 σ' H' D I' q
 | ret v=>exact q
 | brk=>exact q
 | cont=>exact q
theorem zcn(h1:PS X st t):PSs X [st] t:=by
 intro pins s σ H D I h;refine wpAny_execs_cons (thn (h1 pins s σ H D I h) λf s1 q=>?_)
 cases f with
 | next=>exact U4 q
 | ret v=>exact q
 | brk=>exact q
 | cont=>exact q
theorem Inv.quiet{pins:List (Addr × Obj)}{σ:St}{H:Hp}{s:Vc}(I:Inv X pins σ H s):interactive X.env=false:=by simp[interactive,I.ok.kind]
def zev(te:TE):TS:=λD σ H=>te σ H λ_ H1=>D.nx σ H1
theorem zjh(he:PE X e te)(hs:VH e none pos.line X.env=pure false:=by rfl):PS X (.Expr e pos) (zev te):=by
 intro pins s σ H D I h;exact wpAny_Expr_any (thn (he pins s σ H _ I h) λv s1 ⟨x,H1,I1,r1,q1⟩=>⟨σ,H1,I1,q1⟩) I.quiet hs
def tRet(te:TE):TS:=λD σ H=>te σ H D.rt
theorem zei(he:PE X e te):PS X (.Return (some e) pos) (tRet te):=by
 intro pins s σ H D I h;exact wpAny_Return_some (thn (he pins s σ H _ I h) λv s1 ⟨x,H1,I1,r1,q1⟩=>⟨x,σ,H1,I1,r1,q1⟩)
def tIfS(c:TT)(t u:TS):TS:=λD σ H=>c σ H λb H1=>if b=true then t D σ H1 else u D σ H1
theorem zwt{c:Expr}{a b:List Stmt}{tc:TT}(hc:PT X c tc)(ha:PSs X a t)(hb:PSs X b u):PS X (.If c a b pos) (tIfS tc t u):=by
 intro pins s σ H D I h;refine wpAny_If (thn (hc pins s σ H _ I h) λd s1 ⟨H1,I1,q1⟩=>?_)
 cases d with
 | true=>exact ha pins s1 σ H1 D I1 q1
 | false=>exact hb pins s1 σ H1 D I1 q1
end
abbrev TG:=V->St->Hp->(St->Hp->Prop)->Prop
abbrev TGs:=List V->St->Hp->(St->Hp->Prop)->Prop
def PG(X:Cx)(target:Expr)(t:TG):Prop :=
 ∀ (pins:List (Addr × Obj)) (s:Vc) (σ:St) (H:Hp) (v:V) (u:Vb) (Q:St->Hp->Prop),Inv X pins σ H s->RelV v u->t v σ H Q ->
   wpAny (model X.prog X.w) X.A (Uo target X.env u) (λ_ s'=>∃ σ' H',Inv X pins σ' H' s'/\Q σ' H') X.xe s
def PGs(X:Cx)(ts:List Expr)(t:TGs):Prop :=
 ∀ (pins:List (Addr × Obj)) (s:Vc) (σ:St) (H:Hp) (vs:List V) (us:List Vb) (Q:St->Hp->Prop),Inv X pins σ H s->Vals vs us->t vs σ H Q ->
   wpAny (model X.prog X.w) X.A (assignInOrder ((Vp ts X.env).map (·.2)) us) (λ_ s'=>∃ σ' H',Inv X pins σ' H' s'/\Q σ' H') X.xe s
section
variable {X : Cx} {pos : Pos}
def zao(i:Nat):TG:=λv σ H Q=>Q (σ.set i (some v)) H
theorem zbm{i:Nat}{x:Str}(hN:X.N.Nodup)(hi:X.N[i]? = some x)(hx:Loc X.env.scope x)(hf:X.fn x=true\/X.env.scope.names.lookup x=some .local:=by first|exact .inl rfl|exact .inr rfl|assumption):PG X (.Name x pos) (zao i):=by
 intro pins s σ H v u Q I r h;exact wpAny_assign_Name (zlz I hN hi hx r (λs' I'=>⟨_,H,I',h⟩) hf)
def gNil:TGs:=λvs σ H Q=>vs = []/\Q σ H
def zcl(t:TG)(u:TGs):TGs:=λvs σ H Q=>∃ v r,vs=v::r/\t v σ H λσ' H'=>u r σ' H' Q
theorem zf0:PGs X [] gNil:=by
 intro pins s σ H vs us Q I r h;obtain⟨e,h⟩:=h;subst e;cases r;exact assignInOrder_nil ⟨σ,H,I,h⟩
theorem zca{e:Expr}{es:List Expr}{t:TG}{u:TGs}(h1:PG X e t)(h2:PGs X es u)
 (hs:(Vp (e::es) X.env).map (·.2)=Uo e X.env::(Vp es X.env).map (·.2):=by rfl):PGs X (e::es) (zcl t u):=by
 intro pins s σ H vs us Q I r h;obtain⟨v,vr,e1,h⟩:=h;subst e1
 cases r with
 | cons r rr =>
   rw[hs];refine assignInOrder_cons (thn (h1 pins s σ H _ _ _ I r h) λ_ s1 ⟨σ1,H1,I1,q1⟩=>?_);exact h2 pins s1 σ1 H1 _ _ Q I1 rr q1
def gTup(K:PySem.W.Frag)(n:Nat)(t:TGs):TG:=λv σ H Q=>∃ a xs,v = .ref a/\SqT K H a xs/\xs.length=n/\t xs σ H Q
theorem zg9{es:List Expr}{k:Nat}{t:TGs}{n:Nat}(hc:X.calm=true)(h:PGs X es t)
 (hn:(Vp es X.env).length=n:=by rfl) (hst:(Vp es X.env).findIdx? (·.1)=none:=by rfl):PG X (.Tuple es k pos) (gTup X.K n t):=by
 intro pins s σ H v u Q I r hw;obtain⟨a,xs,e1,hq,hl,hw⟩:=hw;subst e1;cases r;obtain⟨its,rv,ht,hz⟩:=I.tuple hq;refine assign_Tuple_tuple (I.ok.hd hc) ht (by simp[hn,<- hl,rv.length]) hst λh' hx=>?_;have I1:Inv X pins σ H { s with heap:=h' }:=I.kept (t':=s.toks) λb o e=>hx b o (Qm (Heap.lt_size e)) e;exact h pins _ σ H xs _ Q I1 (by simpa using rv) hw
def tAsg(te:TE)(g:TG):TS:=λD σ H=>te σ H λx H1=>g x σ H1 D.nx
theorem zbt{i:Nat}{x:Str}{e:Expr}{te:TE}{pos':Pos}(hN:X.N.Nodup)(hi:X.N[i]? = some x)(hx:Loc X.env.scope x)(he:PE X e te)(hs:VH e (some (.Name x pos')) pos.line X.env=pure false:=by rfl)(hf:X.fn x=true\/X.env.scope.names.lookup x=some .local:=by first|exact .inl rfl|exact .inr rfl|assumption) :
 PS X (.Assign [.Name x pos'] e pos) (tAsg te (zao i)):=by
 intro pins s σ H D I h;refine wpAny_Assign_Name (thn (he pins s σ H _ I h) λv s1 ⟨y,H1,I1,r1,q1⟩=>?_) hs;exact zlz I1 hN hi hx r1 (λs2 I2=>⟨_,H1,I2,q1⟩) hf
end
section
variable {X : Cx} {pos : Pos}
def zqm(c:TT)(tb:TS):TS:=λD σ H=>∃ W:Nat->St->Hp->Prop,(∃ m,W m σ H)/\∀ m σ H,W m σ H ->
 c σ H λb H1=>if b=true then ∃ N:St->Hp->Prop,(∀ σ' H',N σ' H'->∃ m',m'<m/\W m' σ' H')/\tb { D with nx:=N,ct:=N,bk:=D.nx } σ H1 else D.nx σ H1
theorem zu7{c:Expr}{body:List Stmt}{tc:TT}{tb:TS}(hp:PassesOwn (model X.prog X.w) X.A X.env X.xe)(hc:PT X c tc)(hb:PSs X body tb):PS X (.While c body [] pos) (zqm tc tb):=by
 intro pins s σ H D I h;obtain⟨W,⟨m0,w0⟩,turn⟩:=h;refine wpAny_While (codeAny_whileLoop (λn s'=>∃ σ' H',Inv X pins σ' H' s'/\W n σ' H') ?_ m0 ⟨σ,H,I,w0⟩);rintro n s1 ⟨σ1,H1,I1,w1⟩;refine VQ hp (thn (hc pins s1 σ1 H1 _ I1 (turn n σ1 H1 w1)) λb s2 ⟨H2,I2,q2⟩=>?_)
 cases b with
 | true =>
   obtain⟨N,hN,q2⟩:=q2;rw[GQ rfl];refine VQ hp (thn (hb pins s2 σ1 H2 _ I2 q2) λf s3 q3=>?_)
   cases f with
   | next =>
     obtain⟨σ3,H3,I3,n3⟩:=q3;obtain⟨m',hm,w3⟩:=hN σ3 H3 n3;exact⟨m',hm,σ3,H3,I3,w3⟩
   | cont =>
     obtain⟨σ3,H3,I3,n3⟩:=q3;obtain⟨m',hm,w3⟩:=hN σ3 H3 n3;exact⟨m',hm,σ3,H3,I3,w3⟩
   | brk=>exact q3
   | ret v=>exact q3
 | false =>
   rw[GT Ql];exact U4 ⟨σ1,H2,I2,q2⟩
end
structure It where
 go:Nat->Hp->Prop
 yld:Nat->Hp->V->Hp->Prop
 stop:Nat->Hp->Prop
def FpOk(X:Cx)(pins:List (Addr × Obj))(H:Hp)(b:Addr):Prop :=
 H b=none/\b ≠ X.env.locals/\b ∉ X.fs/\(b ∈ X.ex\/X.s₀.heap.objs.size<=b)/\(∀ x c,X.env.cells.lookup x=some c->c ≠ b)/\∀ p ∈ X.pn++pins,p.1 ≠ b
theorem Inv.fpOk{X:Cx}{pins:List (Addr × Obj)}{σ:St}{H H':Hp}{s:Vc}{b:Addr}(I:Inv X pins σ H s)(hb:s.heap.objs.size<=b)(hn:H' b=none):FpOk X pins H' b:=by
 refine⟨hn,Zs (Q7 I.lt hb),I.nofs hb,.inr (QH I.sz hb),λx c e z=>?_,λp hp z=>?_⟩
 ·obtain⟨v,q⟩:=I.cell x c e;exact absurd (Q7 q.lt (by rw[z];exact hb)) (QQ _)
 ·exact absurd (Q7 (Heap.lt_size (I.pin p hp).1) (by rw[z];exact hb)) (QQ _)
structure Turn (P:Vf) (w:Vk) (K:PySem.W.Frag) (tg:Expr) (J:It) (fp:List Addr) (it:Addr) (tn:Nat->Heap->Prop):Prop where
 mem:it ∈ fp
 obj:∀ i h,tn i h->∀ b ∈ fp,∃ o,h.get? b=some o/\∀ v,o.data ≠ .cell v
 keep:∀ i h h',tn i h->(∀ b ∈ fp,∀ o,h.get? b=some o->h'.get? b=some o)->tn i h'
 item:∀ (X:Cx),X.prog=P->X.w=w->X.K=K->X.calm=true->∀ (i:Nat) (pins:List (Addr × Obj)) (s:Vc) (σ:St) (H:Hp) (E:Vb->Vc->Prop),Inv X pins σ H s->(∀ b ∈ fp,FpOk X pins H b)->tn i s.heap->J.go i H ->
  wpAny (model P w) X.A (U3 (.ref it)) (λr s1=>∃ u,r=some u /\
   wpAny (model P w) X.A (U1 tg (.ref it) u) (λ_ s2=>∃ x H',Inv X pins σ H' s2/\RelV x u/\J.yld i H x H'/\tn (i+1) s2.heap/\∀ b ∈ fp,H' b=none) E s1) E s
 done:∀ (X:Cx),X.prog=P->X.w=w->X.K=K->X.calm=true->∀ (i:Nat) (pins:List (Addr × Obj)) (s:Vc) (σ:St) (H:Hp) (E:Vb->Vc->Prop),Inv X pins σ H s->(∀ b ∈ fp,FpOk X pins H b)->tn i s.heap->J.stop i H ->
  wpAny (model P w) X.A (U3 (.ref it)) (λr s1=>r=none/\Inv X pins σ H s1) E s
 self:∀ (A:Vl) (i:Nat) (s:Vc) (Q:Vb->Vc->Prop) (E:Vb->Vc->Prop),tn i s.heap->Q (.ref it) s->wpAny (model P w) A (U2 (.ref it)) Q E s
abbrev TI:=St->Hp->(It->Hp->Prop)->Prop
def PIE(X:Cx)(pins:List (Addr × Obj))(σ:St)(tg:Expr)(R:It->Hp->Prop)(itv:Vb)(s2:Vc):Prop :=
 ∃ (it:Addr) (fp:List Addr) (tn:Nat->Heap->Prop) (J:It) (H':Hp),itv = .ref it/\Inv X pins σ H' s2/\Turn X.prog X.w X.K tg J fp it tn/\tn 0 s2.heap/\(∀ b ∈ fp,FpOk X pins H' b)/\R J H'
def PI(X:Cx)(tg iter:Expr)(wi:TI):Prop :=
 ∀ (pins:List (Addr × Obj)) (s:Vc) (σ:St) (H:Hp) (R:It->Hp->Prop),Inv X pins σ H s->wi σ H R ->
   wpAny (model X.prog X.w) X.A (eval iter X.env) (λv s1=>wpAny (model X.prog X.w) X.A (U2 v) (PIE X pins σ tg R) X.xe s1) X.xe s
theorem zkr{M:Gy}{A:Vl}{E:Vb->Vc->Prop}{s:Vc}{tg:Expr}{it:Addr}{u:Vb}{o:Obj}{n:String}{vs:Array Vb}{Q:Unit->Vc->Prop}(ho:s.heap.get? it=some o)(hc:o.cls = .type n)(hd:o.data = .fields vs)
 (hn:["enumerate", "zip", "dict_itemiterator", "dict_reverseitemiterator", "odict_iterator", "itertools.zip_longest", "itertools.pairwise"].contains n=false) (hQ:Q () s):wpAny M A (U1 tg (.ref it) u) Q E s:=by
 unfold U1
 cases tg <;> first
  | exact Vd hQ
  | (cases u <;> first
   | exact Vd hQ
   | (refine Va (G6 ho ?_)
      rw[hc,hd];show wpAny M A (if(["enumerate", "zip", "dict_itemiterator", "dict_reverseitemiterator", "odict_iterator", "itertools.zip_longest", "itertools.pairwise"].contains n && vs[0]? == some (Uv _))=true then _ else _) Q E s;rw[GT (by intro h;rw[hn,Bool.false_and] at h;cases h)]
      exact Vd hQ))
def Itl(K:PySem.W.Frag)(a:Addr):It :=
 ⟨λi H=>∃ xs x,SqL K H a xs/\xs[i]? = some x,λi H x H'=>H'=H/\∀ xs,SqL K H a xs->xs[i]? = some x,λi H=>∃ xs,SqL K H a xs/\xs.length<=i⟩
def Itr(lo:Int)(n:Nat):It:=⟨λi _=>i<n,λi H x H'=>H'=H/\x = .int (lo+i),λi _=>n<=i⟩
theorem zq9{P:Vf}{w:Vk}{K:PySem.W.Frag}{tg:Expr}(a it:Addr):Turn P w K tg (Itl K a) [it] it (λi h=>h.IsListIter it a i) where
 mem:=by simp
 obj:=λi h st b hb=>by
  have e:b=it:=by simpa using hb
  subst e;obtain⟨o,e,c,d⟩:=st;exact⟨o,e,λv z=>by rw[d] at z;cases z⟩
 keep:=λi h h' st k=>st.at λo e=>k it (by simp) o e
 item:=by
  intro X hP hw hK hc i pins s σ H E I hf st hg;subst hP hw hK;obtain⟨xs,x,hq,hx⟩:=hg;obtain⟨its,rv,p,hz⟩:=I.list hq;obtain⟨u,hu,ru⟩:=rv.get hx;obtain⟨f0,f1,f2,f3,f4,f5⟩:=hf it (by simp);refine wpAny_pyNext_list_item st p.isList (x:=u) (by simpa using hu) λh' st' sb=>?_;have I1:Inv X pins σ H { s with heap:=h' }:=I.turned (t':=s.toks) (λb o hb e=>(sb.2 b hb).trans e) f0 f1 f3 f4 f5;obtain⟨o,e,c,d⟩:=id st';exact⟨u,rfl,zkr (s:={ s with heap:=h' }) e c d (by decide) ⟨x,H,I1,ru,⟨rfl,λys hy=>by rw[I.list_inj hy hq];exact hx⟩,st',λb hb=>(hf b hb).1⟩⟩
 done:=by
  intro X hP hw hK hc i pins s σ H E I hf st hg;subst hP hw hK;obtain⟨xs,hq,hx⟩:=hg;obtain⟨its,rv,p,hz⟩:=I.list hq;obtain⟨f0,f1,f2,f3,f4,f5⟩:=hf it (by simp);have hl:=rv.length;exact wpAny_pyNext_list_end (I.ok.hd hc) st p.isList (by simp;omega) λh' eb=>⟨rfl,I.turned (t':=s.toks) (λb o hb e=>eb b o hb e) f0 f1 f3 f4 f5⟩
 self:=λ_ _ _ _ _ st h=>wpAny_pyIter_listiter st h
theorem zpb{P:Vf}{w:Vk}{K:PySem.W.Frag}{tg:Expr}(it:Addr)(lo:Int)(n:Nat):Turn P w K tg (Itr lo n) [it] it (λi h=>Gj h it (lo+(i:Nat) * 1) ((n:Int) - (i:Nat)) 1) where
 mem:=by simp
 obj:=λi h st b hb=>by
  have e:b=it:=by simpa using hb
  subst e
  exact⟨_,st,λv z=>by
   have z':Data.fields _=Data.cell v:=z
   cases z'⟩
 keep:=λi h h' st k=>k it (by simp) _ st
 item:=by
  intro X hP hw hK hc i pins s σ H E I hf st hg;subst hP hw hK;obtain⟨f0,f1,f2,f3,f4,f5⟩:=hf it (by simp);have W:=Walks.range (prog:=X.prog) (w:=X.w) (I.ok.hd hc) it lo 1 n;refine W.item i s _ _ hg st λv h' tk hv st' kk=>?_;obtain⟨t,rfl⟩:=hv;have I1:Inv X pins σ H { s with heap:=h',toks:=tk }:=I.turned (λb o hb e=>kk b o (by simpa using hb) e) f0 f1 f3 f4 f5;refine⟨_,rfl,zkr (s:={ s with heap:=h',toks:=tk }) (n := "range_iterator") st' rfl rfl (by decide) ⟨.int (lo+i),H,I1,⟨t,?_⟩,⟨rfl,rfl⟩,st',λb hb=>(hf b hb).1⟩⟩;rw[Int.mul_one]
 done:=by
  intro X hP hw hK hc i pins s σ H E I hf st hg;subst hP hw hK;obtain⟨f0,f1,f2,f3,f4,f5⟩:=hf it (by simp);exact Gb (I.ok.hd hc) st (by have:n<=i:=hg;omega) λh' eb=>⟨rfl,I.turned (t':=s.toks) (λb o hb e=>eb b o hb e) f0 f1 f3 f4 f5⟩
 self:=λ_ _ _ _ _ st h=>Ga st h
section
variable {X : Cx} {tg : Expr}
def zgi(K:PySem.W.Frag)(tl:TE):TI:=λσ H R=>tl σ H λx H1=>∃ a,x = .ref a/\(∃ xs,SqL K H1 a xs)/\R (Itl K a) H1
theorem zf6{l:Expr}{tl:TE}(hl:PE X l tl):PI X tg l (zgi X.K tl):=by
 intro pins s σ H R I h;refine thn (hl pins s σ H _ I h) λv s1 ⟨x,H1,I1,r1,q1⟩=>?_;obtain⟨a,e,⟨xs,hq⟩,q⟩:=q1;subst e;cases r1;obtain⟨its,rv,p,hz⟩:=I1.list hq;refine Ut p.isList ?_;refine⟨s1.heap.objs.size,[s1.heap.objs.size],_,_,H1,rfl,I1.kept (t':=s1.toks) λb o e=>Heap.get?_push_of_some _ e,zq9 a _,⟨_,Heap.get?_push_size _ rfl,rfl,rfl⟩,λb hb=>?_,q⟩;have e:b=s1.heap.objs.size:=by simpa using hb
 subst e;exact I1.fpOk (Qc _) (I1.hok.fresh (Qc _))
theorem zuh{pins:List (Addr × Obj)}{σ:St}{H:Hp}{s:Vc}{R:It->Hp->Prop}{E:Vb->Vc->Prop}{lo hi:Int}{t u v:Tok}{tk:Nat}(I:Inv X pins σ H s)(h1:-(2 ^ 62)<=lo)(h2:lo<2 ^ 62)(h3:-(2 ^ 62)<=hi)(h4:hi<2 ^ 62)
 (q:R (Itr lo (hi - lo).toNat) H):wpAny (model X.prog X.w) X.A (U2 (.ref s.heap.objs.size)) (PIE X pins σ tg R) E { s with heap:=s.heap.push { cls := .type "range", data := .fields #[.int lo t,.int hi u,.int 1 v] },toks:=tk }:=by
 refine wpAny_pyIter_range (IsRange.new ..) (small_one h1 h2 h3 h4) ?_;have I1:Inv X pins σ H { s with heap:=s.heap.push { cls := .type "range", data := .fields #[.int lo t,.int hi u,.int 1 v] },toks:=tk }:=I.kept λb o e=>Heap.get?_push_of_some _ e
 refine⟨(s.heap.push { cls := .type "range", data := .fields #[.int lo t,.int hi u,.int 1 v] }).objs.size,[(s.heap.push { cls := .type "range", data := .fields #[.int lo t,.int hi u,.int 1 v] }).objs.size],_,_,H,rfl,
  I1.kept (t':=tk) λb o e=>Heap.get?_push_of_some _ e,zpb _ lo (hi - lo).toNat,?_,λb hb=>?_,q⟩
 ·have e1:lo+((0:Nat):Int) * 1=lo:=by simp
  have e2:(((hi - lo).toNat:Nat):Int) - ((0:Nat):Int)=Builtin.Range.rangeSize lo hi 1:=by rw[rangeSize_one];split <;> omega
  show Gj _ _ (lo+((0:Nat):Int) * 1) ((((hi - lo).toNat:Nat):Int) - ((0:Nat):Int)) 1;rw[e1,e2];exact Heap.get?_push_size _ rfl
 ·have e:b=(s.heap.push { cls := .type "range", data := .fields #[.int lo t,.int hi u,.int 1 v] }).objs.size:=by simpa using hb
  subst e;exact I1.fpOk (Qc _) (I1.hok.fresh (Qc _))
def zo5(ta:TA):TI:=λσ H R=>ta σ H λvs H1=>∃ j:Int,vs = [.int j]/\-(2 ^ 62)<=j/\j<2 ^ 62/\R (Itr 0 j.toNat) H1
theorem zka{a:Expr}{ta:TA}{p pos:Pos}(hg:Gl X "range")(hm:X.mg "range" = none)(ha:PA X [a] ta)(hs:Vg [a] X.env = [(false,eval a X.env)]:=by rfl):PI X tg (.Call (.Name "range" p) [a] [] pos) (zo5 ta):=by
 intro pins s σ H R I h;refine Call_ (zb6 I hg hm boot_range (QT (thn (ha pos pins s σ H _ I h) λus s1 ⟨vs,H1,I1,r1,q1⟩=>?_) hs rfl));obtain⟨j,e,q1,q2,q⟩:=q1;subst e
 cases r1 with
 | cons r rr =>
   cases rr;obtain⟨t,rfl⟩:=r;exact call_range_1 (zuh I1 (by omega) (by omega) q1 q2 (by simpa using q))
def tFor(wi:TI)(g:TG)(tb:TS):TS:=λD σ H=>wi σ H λJ H1=>∃ W:Nat->Nat->St->Hp->Prop,(∃ m,W 0 m σ H1)/\∀ i m σ H,W i m σ H ->
 (J.stop i H/\D.nx σ H)\/(J.go i H/\∃ N:St->Hp->Prop,(∀ σ' H',N σ' H'->∃ m',m'<m/\W (i+1) m' σ' H')/\∀ x H',J.yld i H x H'->g x σ H' λσ2 H2=>tb { D with nx:=N,ct:=N,bk:=D.nx } σ2 H2)
def zec(fp:List Addr)(h:Heap):List (Addr × Obj):=fp.filterMap λb=>(h.get? b).map λo=>(b,o)
theorem zb3{fp:List Addr}{h:Heap}{b:Addr}{o:Obj}(hb:b ∈ fp)(e:h.get? b=some o):(b,o) ∈ zec fp h:=YB.mpr ⟨b,hb,by rw[e];rfl⟩
theorem zsu{fp:List Addr}{h:Heap}{p:Addr × Obj}(hp:p ∈ zec fp h):p.1 ∈ fp/\h.get? p.1=some p.2:=by
 obtain⟨b,hb,e⟩:=YB.mp hp
 cases q:h.get? b with
 | none=>rw[q] at e;cases e
 | some o =>
   rw[q] at e;have e':(b,o)=p:=QS e;subst e';exact⟨hb,q⟩
theorem Inv.pinned{pins:List (Addr × Obj)}{σ:St}{H:Hp}{s:Vc}{fp:List Addr}(I:Inv X pins σ H s)(hf:∀ b ∈ fp,FpOk X pins H b)(ho:∀ b ∈ fp,∃ o,s.heap.get? b=some o/\∀ v,o.data ≠ .cell v):Inv X (pins++zec fp s.heap) σ H s :=
 I.pins_of λp hp=>(Qv.mp hp).elim (λz=>I.pin p (Q2 _ z)) λz=>by
  obtain⟨hb,e⟩:=zsu z;obtain⟨f0,f1,f2,_⟩:=hf p.1 hb;obtain⟨o,e',d⟩:=ho p.1 hb;rw[e] at e';cases e';exact⟨e,f0,f1,f2,d⟩
theorem Inv.unpinned{pins pl:List (Addr × Obj)}{σ:St}{H:Hp}{s:Vc}(I:Inv X (pins++pl) σ H s):Inv X pins σ H s:=I.pins_of λp hp=>I.pin p (Q2 _ (Zp _ hp))
theorem zla{iter:Expr}{body:List Stmt}{wi:TI}{g:TG}{tb:TS}{pos:Pos}(hp:PassesOwn (model X.prog X.w) X.A X.env X.xe)(hc:X.calm=true)(hi:PI X tg iter wi)(hg:PG X tg g)(hb:PSs X body tb)
 (hs:∀ x,V7 iter X.env x=pure x:=by intro _;rfl):PS X (.For tg iter body [] pos) (tFor wi g tb):=by
 intro pins s σ H D I h;refine wpAny_For (thn (hi pins s σ H _ I h) λv s1 h1=>thn h1 λitv s2 h2=>?_) hs;obtain⟨it,fp,tn,J,H2,e,I2,T,st2,f2,W,⟨m0,w0⟩,turn⟩:=h2;subst e
 -- what stays true of the iterator's objects through the loop
 have stat:∀ {H':Hp},(∀ b ∈ fp,H' b=none)->∀ b ∈ fp,FpOk X pins H' b:=λhn b hb=>⟨hn b hb,(f2 b hb).2⟩;refine codeAny_forLoop_any (λn s'=>∃ i σ' H',Inv X pins σ' H' s'/\tn i s'.heap/\(∀ b ∈ fp,H' b=none)/\W i n σ' H') ?_ m0 ⟨0,σ,H2,I2,st2,λb hb=>(f2 b hb).1,w0⟩;rintro n s3 ⟨i,σ3,H3,I3,st3,fr3,w3⟩;rcases turn i n σ3 H3 w3 with ⟨stop,qn⟩|⟨go,N,hN,step⟩
 ·refine VQ hp (thn (T.done X rfl rfl rfl hc i pins s3 σ3 H3 X.xe I3 (stat fr3) st3 stop) λr s4 ⟨hr,I4⟩=>?_);subst hr;exact U4 ⟨σ3,H3,I4,qn⟩
 ·refine VQ hp (thn (T.item X rfl rfl rfl hc i pins s3 σ3 H3 X.xe I3 (stat fr3) st3 go) λr s4 ⟨u,hr,h4⟩=>?_);subst hr;refine VQ hp (thn h4 λ_ s5 ⟨x,H5,I5,r5,y5,st5,fr5⟩=>?_);have I5':=I5.pinned (stat fr5) (T.obj _ _ st5);refine VQ hp (thn (hg _ s5 σ3 H5 x u _ I5' r5 (step x H5 y5)) λ_ s6 ⟨σ6,H6,I6,q6⟩=>?_);refine VQ hp (thn (hb _ s6 σ6 H6 _ I6 q6) λf s7 q7=>?_)
  have again:∀ {σ7:St} {H7:Hp},Inv X (pins++zec fp s5.heap) σ7 H7 s7->N σ7 H7->∃ m,m<n/\∃ i σ' H',Inv X pins σ' H' s7/\tn i s7.heap/\(∀ b ∈ fp,H' b=none)/\W i m σ' H':=λ{σ7 H7} I7 n7=>by
   obtain⟨m',hm,w7⟩:=hN σ7 H7 n7;refine⟨m',hm,i+1,σ7,H7,I7.unpinned,T.keep _ _ _ st5 λb hb o e=>(I7.pin (b,o) (Q2 _ (Q2 _ (zb3 hb e)))).1,λb hb=>?_,w7⟩;obtain⟨o,e,d⟩:=T.obj _ _ st5 b hb;exact(I7.pin (b,o) (Q2 _ (Q2 _ (zb3 hb e)))).2.1
  cases f with
  | next=>obtain⟨σ7,H7,I7,n7⟩:=q7;exact again I7 n7
  | cont=>obtain⟨σ7,H7,I7,n7⟩:=q7;exact again I7 n7
  | brk=>obtain⟨σ7,H7,I7,q7⟩:=q7;exact⟨σ7,H7,I7.unpinned,q7⟩
  | ret v=>obtain⟨x7,σ7,H7,I7,r7,q7⟩:=q7;exact⟨x7,σ7,H7,I7.unpinned,r7,q7⟩
end
theorem zvd{K:PySem.W.Frag}{a:Addr}{xs:List V}{g:TG}{tb:TS}{D:Ends}{σ:St}{H:Hp}(Pv:Nat->St->Hp->Prop)(h0:Pv 0 σ H)(hl:∀ i σ H,i<=xs.length->Pv i σ H->SqL K H a xs)
 (hs:∀ i x σ H,xs[i]? = some x->Pv i σ H->g x σ H λσ2 H2=>tb { D with nx:=Pv (i+1),ct:=Pv (i+1),bk:=D.nx } σ2 H2) (hd:∀ σ H,Pv xs.length σ H->D.nx σ H) :
 ∃ W:Nat->Nat->St->Hp->Prop,(∃ m,W 0 m σ H)/\∀ i m σ H,W i m σ H ->
   ((Itl K a).stop i H/\D.nx σ H)\/((Itl K a).go i H/\∃ N:St->Hp->Prop,(∀ σ' H',N σ' H'->∃ m',m'<m/\W (i+1) m' σ' H')/\∀ x H',(Itl K a).yld i H x H'->g x σ H' λσ2 H2=>tb { D with nx:=N,ct:=N,bk:=D.nx } σ2 H2):=by
 refine⟨λi m σ H=>m=xs.length - i/\i<=xs.length/\Pv i σ H,⟨xs.length,by simp,Qw _,h0⟩,?_⟩;rintro i m σ H ⟨rfl,hi,p⟩;have q:=hl i σ H hi p
 by_cases hlt:i<xs.length
 ·refine .inr ⟨⟨xs,xs[i],q,by simp[hlt]⟩,Pv (i+1),λσ' H' p'=>⟨xs.length - (i+1),by omega,rfl,hlt,p'⟩,λx H' y=>?_⟩;obtain⟨e,y⟩:=y;subst e;exact hs i x σ _ (y xs q) p
 ·have e:i=xs.length:=by omega
  subst e;exact .inl ⟨⟨xs,q,Qc _⟩,hd σ H p⟩
abbrev R2:=V->V->Hp->VK->Prop
def OpR(X:Cx)(f:Vb->Vb->Sem Vb)(r:R2):Prop :=
 ∀ (pins:List (Addr × Obj)) (s:Vc) (σ:St) (H:Hp) (x y:V) (v u:Vb) (Q:VK),Inv X pins σ H s->RelV x v->RelV y u->r x y H Q ->
   wpAny (model X.prog X.w) X.A (f v u) (EP X pins σ Q) X.xe s
def UnR(X:Cx)(f:Vb->Sem Vb)(r:V->Hp->VK->Prop):Prop :=
 ∀ (pins:List (Addr × Obj)) (s:Vc) (σ:St) (H:Hp) (x:V) (v:Vb) (Q:VK),Inv X pins σ H s->RelV x v->r x H Q ->
   wpAny (model X.prog X.w) X.A (f v) (EP X pins σ Q) X.xe s
def CallR(X:Cx)(f:Vb)(r:List V->Hp->VK->Prop):Prop :=
 ∀ (pins:List (Addr × Obj)) (s:Vc) (σ:St) (H:Hp) (xs:List V) (us:List Vb) (Q:VK),Inv X pins σ H s->Vals xs us->r xs H Q ->
   wpAny (model X.prog X.w) X.A (call f us) (EP X pins σ Q) X.xe s
def tOp(r:R2)(ta tb:TE):TE:=λσ H Q=>ta σ H λx H1=>tb σ H1 λy H2=>r x y H2 Q
def tUn(r:V->Hp->VK->Prop)(ta:TE):TE:=λσ H Q=>ta σ H λx H1=>r x H1 Q
def rI(C:Int->Int->Prop)(g:Int->Int->V):R2:=λx y H Q=>∃ i j,x = .int i/\y = .int j/\C i j/\Q (g i j) H
def rI0(g:Int->Int->V):R2:=λx y H Q=>∃ i j,x = .int i/\y = .int j/\Q (g i j) H
def rU(g:Int->V):V->Hp->VK->Prop:=λx H Q=>∃ i,x = .int i/\Q (g i) H
section
variable {X : Cx} {a b c : Expr} {ta tb tc : TE} {pos : Pos}
theorem binT(ha:PE X a ta)(hb:PE X b tb){pins:List (Addr × Obj)}{s:Vc}{σ:St}{H:Hp}{R:V->V->Hp->Prop}(I:Inv X pins σ H s)
 (h:ta σ H λx H1=>tb σ H1 λy H2=>R x y H2) {Q:Vb->Vc->Prop} {f:Vb->Vb->Sem Vb}
 (hf:∀ v u s2 x y H2,Inv X pins σ H2 s2->RelV x v->RelV y u->R x y H2->wpAny (model X.prog X.w) X.A (f v u) Q X.xe s2) :
 wpAny (model X.prog X.w) X.A (eval a X.env) (λv s₁=>wpAny (model X.prog X.w) X.A (eval b X.env) (λu s₂=>wpAny (model X.prog X.w) X.A (f v u) Q X.xe s₂) X.xe s₁) X.xe s:=by
 refine thn (ha pins s σ H _ I h) λv s1 ⟨x,H1,I1,r1,q1⟩=>?_;refine thn (hb pins s1 σ H1 _ I1 q1) λu s2 ⟨y,H2,I2,r2,q2⟩=>?_;exact hf v u s2 x y H2 I2 r1 r2 q2
theorem zax{op:Operator}{r:R2}(ho:OpR X (binaryOp op) r)(ha:PE X a ta)(hb:PE X b tb):PE X (.BinOp a op b pos) (tOp r ta tb):=by
 intro pins s σ H Q I h;exact wpAny_BinOp (binT ha hb I h λv u s2 x y H2 I2 rx ry q=>ho pins s2 σ H2 x y v u Q I2 rx ry q)
theorem z1z{op:UnaryOp}{r:V->Hp->VK->Prop}(ho:UnR X (unaryOp op) r)(ha:PE X a ta):PE X (.UnaryOp op a pos) (tUn r ta):=by
 intro pins s σ H Q I h;exact UnaryOp_ (thn (ha pins s σ H _ I h) λv s1 ⟨x,H1,I1,r1,q1⟩=>ho pins s1 σ H1 x v Q I1 r1 q1)
theorem opI{f:Vb->Vb->Sem Vb}{C:Int->Int->Prop}{g:Int->Int->Int}
 (rule:∀ (i j:Int) (t u:Tok) (s:Vc) (Q:Vb->Vc->Prop) (E:Vb->Vc->Prop),C i j->Q (.int (g i j) s.toks) { s with toks:=s.toks+1 }->wpAny (model X.prog X.w) X.A (f (.int i t) (.int j u)) Q E s) :
 OpR X f (rI C λi j => .int (g i j)):=by
 intro pins s σ H x y v u Q I rx ry h;obtain⟨i,j,rfl,rfl,hc,q⟩:=h;obtain⟨t,rfl⟩:=rx;obtain⟨t',rfl⟩:=ry;exact rule i j t t' s _ _ hc ⟨.int (g i j),H,I.tok _,⟨_,rfl⟩,q⟩
theorem opI0{f:Vb->Vb->Sem Vb}{g:Int->Int->Int}
 (rule:∀ (i j:Int) (t u:Tok) (s:Vc) (Q:Vb->Vc->Prop) (E:Vb->Vc->Prop),Q (.int (g i j) s.toks) { s with toks:=s.toks+1 }->wpAny (model X.prog X.w) X.A (f (.int i t) (.int j u)) Q E s) :
 OpR X f (rI0 λi j => .int (g i j)):=by
 intro pins s σ H x y v u Q I rx ry h;obtain⟨i,j,rfl,rfl,q⟩:=h;obtain⟨t,rfl⟩:=rx;obtain⟨t',rfl⟩:=ry;exact rule i j t t' s _ _ ⟨.int (g i j),H,I.tok _,⟨_,rfl⟩,q⟩
theorem opB0{f:Vb->Vb->Sem Vb}{g:Int->Int->Bool}
 (rule:∀ (i j:Int) (t u:Tok) (s:Vc) (Q:Vb->Vc->Prop) (E:Vb->Vc->Prop),Q (.bool (g i j)) s->wpAny (model X.prog X.w) X.A (f (.int i t) (.int j u)) Q E s) :
 OpR X f (rI0 λi j => .bl (g i j)):=by
 intro pins s σ H x y v u Q I rx ry h;obtain⟨i,j,rfl,rfl,q⟩:=h;obtain⟨t,rfl⟩:=rx;obtain⟨t',rfl⟩:=ry;exact rule i j t t' s _ _ ⟨.bl (g i j),H,I,rfl,q⟩
def CDiv(i j:Int):Prop:=0<j/\j<1073741824
def CPow(i j:Int):Prop:=0<=j/\j<=1000000/\i.natAbs<2 ^ 64
def CMul(i j:Int):Prop:=(-(2 ^ 64)<i/\i<2 ^ 64)\/(-(2 ^ 64)<j/\j<2 ^ 64)
theorem CMul.ok{i j:Int}(h:CMul i j):IntMulOk i j:=by
 rcases h with ⟨h1,h2⟩|⟨h1,h2⟩
 ·exact .of_left (intBits_le_64 h1 h2)
 ·exact .of_right (intBits_le_64 h1 h2)
theorem op_add:OpR X (binaryOp .Add) (rI0 λi j => .int (i+j)):=opI0 λ_ _ _ _ _ _ _ q=>add_int q
theorem z1r:OpR X (binaryOp .Sub) (rI0 λi j => .int (i - j)):=opI0 λ_ _ _ _ _ _ _ q=>sub_int q
theorem op_mul:OpR X (binaryOp .Mult) (rI CMul λi j => .int (i * j)):=opI λ_ _ _ _ _ _ _ hc q=>mul_int q hc.ok
theorem zx4:OpR X (binaryOp .FloorDiv) (rI CDiv λi j => .int (i / j)):=opI λi j _ _ _ _ _ hc q=>by
 have h1:(0:Int)<j:=hc.1;have h2:j<1073741824:=hc.2;exact floordiv_int (by omega) (by rw[Int.fdiv_eq_ediv_of_nonneg i (by omega)];exact q) (.inl (Yf (by omega)))
theorem zc2:OpR X (binaryOp .Mod) (rI (λ_ j=>0<j) λi j => .int (i % j)):=opI λi j _ _ _ _ _ hc q=>by
 have h1:(0:Int)<j:=hc;exact mod_int' (by omega) (by rw[Int.fmod_eq_emod_of_nonneg i (by omega)];exact q)
theorem z1k:OpR X (binaryOp .Pow) (rI CPow λi j => .int (i ^ j.toNat)):=opI λ_ _ _ _ _ _ _ hc q=>pow_int_small hc.1 hc.2.1 hc.2.2 q
theorem unI{f:Vb->Sem Vb}{g:Int->Int}
 (rule:∀ (i:Int) (t:Tok) (s:Vc) (Q:Vb->Vc->Prop) (E:Vb->Vc->Prop),Q (.int (g i) s.toks) { s with toks:=s.toks+1 }->wpAny (model X.prog X.w) X.A (f (.int i t)) Q E s) :
 UnR X f (rU λi => .int (g i)):=by
 intro pins s σ H x v Q I rx h;obtain⟨i,rfl,q⟩:=h;obtain⟨t,rfl⟩:=rx;exact rule i t s _ _ ⟨.int (g i),H,I.tok _,⟨_,rfl⟩,q⟩
theorem z0q:UnR X (unaryOp .USub) (rU λi => .int (-i)):=unI λ_ _ _ _ _ q=>neg_int q
end
def scal:V->V->Bool
 | .non,.non=>true | .non,.int _=>true | .int _,.non=>true | .non,.bl _=>true | .bl _,.non=>true | .non,.str _=>true | .str _,.non=>true
 | .int _,.int _=>true | .bl _,.bl _=>true | .str _,.str _=>true | .byt _,.byt _=>true
 | .int _,.str _=>true | .str _,.int _=>true | .bl _,.str _=>true | .str _,.bl _=>true
 | _,_=>false
def rEq:R2:=λx y H Q=>scal x y=true/\Q (.bl (decide (x=y))) H
theorem zxa{i j:Int}:decide (V.int i=V.int j)=(i == j):=by
 rw[ZI];simp
theorem zzx{i j:Bool}:decide (V.bl i=V.bl j)=(i == j):=by
 rw[ZI];simp
theorem zy4{i j:Str}:decide (V.str i=V.str j)=(i == j):=by
 rw[ZI];simp
theorem zy9{i j:Array UInt8}:decide (V.byt i=V.byt j)=(i.toList == j.toList):=by
 rw[ZI];cases i;cases j;simp
section
variable {X : Cx} {a b c : Expr} {ta tb tc : TE} {pos : Pos}
theorem za9{pins:List (Addr × Obj)}{σ:St}{H:Hp}{s:Vc}{Q:VK}{k k':Bool}(I:Inv X pins σ H s)(q:Q (.bl k) H)(e:k=k'):EP X pins σ Q (.bool k') s:=by
 subst e;exact⟨.bl k,H,I,rfl,q⟩
theorem z2t:OpR X (VG .Eq) rEq:=by
 intro pins s σ H x y v u Q I rx ry h;obtain⟨hs,q⟩:=h
 cases x with
 | non =>
   cases rx
   cases y with
   | non=>cases ry;exact PySem.EqNone.eq_none_none (za9 I q (by simp))
   | bl j=>cases ry;exact PySem.EqNone.eq_none_bool (za9 I q (by simp))
   | int j=>obtain⟨t',rfl⟩:=ry;exact PySem.EqNone.eq_none_int (za9 I q (by simp))
   | str j=>obtain⟨t',rfl⟩:=ry;exact PySem.EqNone.eq_none_str (za9 I q (by simp))
   | _=>exact absurd (show false=true from hs) Ql
 | bl i =>
   cases rx
   cases y with
   | non=>cases ry;exact PySem.EqNone.eq_bool_none (za9 I q (by simp))
   | bl j=>cases ry;exact eq_bool (za9 I q zzx)
   | str j=>obtain⟨t',rfl⟩:=ry;exact PySem.EqMixed.eq_bool_str (za9 I q (by simp))
   | _=>exact absurd (show false=true from hs) Ql
 | int i =>
   obtain⟨t,rfl⟩:=rx
   cases y with
   | non=>cases ry;exact PySem.EqNone.eq_int_none (za9 I q (by simp))
   | int j=>obtain⟨t',rfl⟩:=ry;exact eq_int (za9 I q zxa)
   | str j=>obtain⟨t',rfl⟩:=ry;exact PySem.EqMixed.eq_int_str (za9 I q (by simp))
   | _=>exact absurd (show false=true from hs) Ql
 | str i =>
   obtain⟨t,rfl⟩:=rx
   cases y with
   | non=>cases ry;exact PySem.EqNone.eq_str_none (za9 I q (by simp))
   | bl j=>cases ry;exact PySem.EqMixed.eq_str_bool (za9 I q (by simp))
   | int j=>obtain⟨t',rfl⟩:=ry;exact PySem.EqMixed.eq_str_int (za9 I q (by simp))
   | str j=>obtain⟨t',rfl⟩:=ry;exact eq_str (za9 I q zy4)
   | _=>exact absurd (show false=true from hs) Ql
 | byt i =>
   obtain⟨t,rfl⟩:=rx
   cases y with
   | byt j=>obtain⟨t',rfl⟩:=ry;exact PySem.W.eq_bytes (za9 I q zy9)
   | _=>exact absurd (show false=true from hs) Ql
 | _=>cases y <;> exact absurd (show false=true from hs) Ql
theorem zvn:OpR X (VG .Lt) (rI0 λi j => .bl (decide (i<j))):=opB0 λ_ _ _ _ _ _ _ q=>lt_int q
theorem zwm:OpR X (VG .Gt) (rI0 λi j => .bl (decide (j<i))):=opB0 λ_ _ _ _ _ _ _ q=>gt_int q
theorem z3e:OpR X (VG .GtE) (rI0 λi j => .bl (decide (j<=i))):=opB0 λ_ _ _ _ _ _ _ q=>ge_int q
theorem OpR.or{f:Vb->Vb->Sem Vb}{r r':R2}(h:OpR X f r)(h':OpR X f r'):OpR X f (λx y H Q=>r x y H Q\/r' x y H Q):=by
 intro pins s σ H x y v u Q I rx ry q;rcases q with q|q
 ·exact h pins s σ H x y v u Q I rx ry q
 ·exact h' pins s σ H x y v u Q I rx ry q
theorem zcf(b:Expr){op:CmpOp}(h:op ≠ .In:=by decide)(h2:op ≠ .NotIn:=by decide):VS op b=false:=by
 have e1:(op == CmpOp.In)=false:=by cases op <;> first|rfl|exact absurd rfl h
 have e2:(op == CmpOp.NotIn)=false:=by cases op <;> first|rfl|exact absurd rfl h2
 cases b <;> simp[VS,e1,e2]
theorem zyi{op:CmpOp}{r:R2}(ho:OpR X (VG op) r)(ha:PE X a ta)(hb:PE X b tb)(hm:VS op b=false):PE X (.Compare a [op] [b] pos) (tOp r ta tb):=by
 intro pins s σ H Q I h;exact wpAny_Compare1 (binT ha hb I h λv u s2 x y H2 I2 rx ry q=>ho pins s2 σ H2 x y v u Q I2 rx ry q) hm
def zet(t:TE):TT:=λσ H Q=>t σ H λx H'=>∃ k,x = .bl k/\Q k H'
theorem zef{op:CmpOp}{r:R2}(ho:OpR X (VG op) r)(ha:PE X a ta)(hb:PE X b tb)(hm:VS op b=false):PT X (.Compare a [op] [b] pos) (zet (tOp r ta tb)):=by
 intro pins s σ H Q I h
 refine Gg (thn (ha pins s σ H _ I h) λv s1 ⟨x,H1,I1,r1,q1⟩=>thn (hb pins s1 σ H1 _ I1 q1) λu s2 ⟨y,H2,I2,r2,q2⟩ =>
  thn (ho pins s2 σ H2 x y v u _ I2 r1 r2 q2) λc s3 ⟨z,H3,I3,r3,k,e,q3⟩=>?_) hm
 subst e;cases r3;exact VI ⟨H3,I3,q3⟩
theorem zhl:(sizeLine:Nat)<2 ^ 63:=by rw[Vj];decide
theorem op_add_str:OpR X (binaryOp .Add) (λx y H Q=>∃ i j,x = .str i/\y = .str j/\i.length+j.length<=sizeLine/\Q (.str (i++j)) H):=by
 intro pins s σ H x y v u Q I rx ry h;obtain⟨i,j,rfl,rfl,hz,q⟩:=h;obtain⟨t,rfl⟩:=rx;obtain⟨t',rfl⟩:=ry;exact add_str (λt' tk=>⟨.str (i++j),H,I.tok _,⟨_,rfl⟩,q⟩) hz
theorem zkw{x:V}{us:List Vb}(r:Vals [x] us):∃ u,us = [u]/\RelV x u:=by
 cases r with
 | cons r1 r2=>cases r2;exact⟨_,rfl,r1⟩
theorem z2s{x y:V}{us:List Vb}(r:Vals [x,y] us):∃ u w',us = [u,w']/\RelV x u/\RelV y w':=by
 cases r with
 | cons r1 r2 =>
   cases r2 with
   | cons r3 r4=>cases r4;exact⟨_,_,rfl,r1,r3⟩
theorem zse(hc:X.calm=true):CallR X (.builtin "max") (λxs H Q=>∃ i j,xs = [.int i,.int j]/\Q (.int (if j > i then j else i)) H):=by
 intro pins s σ H xs us Q I r h;obtain⟨i,j,rfl,q⟩:=h;obtain⟨u,w',rfl,⟨t,rfl⟩,⟨t',rfl⟩⟩:=z2s r;refine max_two_ints (I.ok.hd hc) λh' tk k=>⟨_,H,I.kept k,?_,q⟩
 by_cases hj:j > i
 ·rw[GQ hj,GQ hj];exact⟨_,rfl⟩
 ·rw[GT hj,GT hj];exact⟨_,rfl⟩
theorem zqx:CallR X (.type "int") (λxs H Q=>(∃ i,xs = [.int i]/\Q (.int i) H)\/∃ k,xs = [.bl k]/\Q (.int (if k then 1 else 0)) H):=by
 intro pins s σ H xs us Q I r h;rcases h with ⟨i,rfl,q⟩|⟨k,rfl,q⟩
 ·obtain⟨u,rfl,t,rfl⟩:=zkw r;exact call_int_int ⟨.int i,H,I,⟨_,rfl⟩,q⟩
 ·obtain⟨u,rfl,r1⟩:=zkw r;cases r1;exact call_int_bool ⟨.int (if k then 1 else 0),H,I.tok _,⟨_,rfl⟩,q⟩
def LenV(K:PySem.W.Frag)(x:V)(H:Hp)(n:Nat):Prop :=
 match x with
 | .str y=>y.length<=sizeLine/\n=y.length
 | .byt y=>y.size<=sizeLine/\n=y.size
 | .ref p=>(∃ xs,SqL K H p xs/\n=xs.length)\/∃ xs,SqT K H p xs/\n=xs.length
 | _=>False
theorem zfb:CallR X (.builtin "len") (λxs H Q=>∃ x n,xs = [x]/\LenV X.K x H n/\Q (.int n) H):=by
 intro pins s σ H xs us Q I r h;obtain⟨x,n,rfl,e,q⟩:=h;obtain⟨u,rfl,rx⟩:=zkw r;have hl:=zhl;have hs:sizeLine=16777216:=Vj
 cases x with
 | str y =>
   obtain⟨t,rfl⟩:=rx;obtain⟨hy,e'⟩:y.length<=sizeLine/\n=y.length:=e;subst e';exact len_str (by omega) ⟨.int _,H,I.tok _,⟨_,rfl⟩,q⟩
 | byt y =>
   obtain⟨t,rfl⟩:=rx;obtain⟨hy,e'⟩:y.size<=sizeLine/\n=y.size:=e;subst e';exact PySem.W.len_bytes (by omega) ⟨.int _,H,I.tok _,⟨_,rfl⟩,q⟩
 | ref p =>
   cases rx;have e':(∃ xs,SqL X.K H p xs/\n=xs.length)\/∃ xs,SqT X.K H p xs/\n=xs.length:=e;rcases e' with ⟨xs,hx,e'⟩|⟨xs,hx,e'⟩
   ·subst e';obtain⟨its,r',pl,hz⟩:=I.list hx;have hlen:=r'.length;exact Calls.call_len_list pl.isList (by simp only[Qo];omega) ⟨.int xs.length,H,I.tok _,⟨_,by simp only[Qo];rw[hlen]⟩,q⟩
   ·subst e';obtain⟨its,r',pl,hz⟩:=I.tuple hx;have hlen:=r'.length;exact len_tuple pl (by simp only[Qo];omega) ⟨.int xs.length,H,I.tok _,⟨_,by simp only[Qo];rw[hlen]⟩,q⟩
 | _=>exact(show False from e).elim
end
theorem RelO.some_of{v:V}{o:Option Vb}(r:RelO (some v) o):∃ u,o=some u/\RelV v u:=by
 cases o with
 | none=>exact(show False from r).elim
 | some u=>exact⟨u,rfl,r⟩
structure Room (k:Nat) (A:Vl):Prop where
 hd:A.handled=none
 dp:A.depth+3 * k+5<recursionLimit
 un:A.units+16 * k+200<cLine
 gd:A.guards=some []
theorem Room.mono{j k:Nat}{A:Vl}(r:Room k A)(h:j<=k):Room j A:=⟨r.hd,by have:=r.dp;omega,by have:=r.un;omega,r.gd⟩
theorem Room.deeper{k:Nat}{A:Vl}(r:Room (k+1) A)(env:Env):Room k (A.deeper env) :=
 ⟨r.hd,by have:=r.dp;show A.depth+1+3 * k+5<_;omega,by have:=r.un;show A.units+3+16 * k+200<_;omega,r.gd⟩
theorem Room.depth{k:Nat}{A:Vl}(r:Room k A):A.depth<recursionLimit:=by have:=r.dp;omega
theorem Room.units{k:Nat}{A:Vl}(r:Room k A):A.units+64<cLine:=by have:=r.un;omega
def tNil:TA:=λ_ H Q=>Q [] H
def zaj(ta:TE)(tr:TA):TA:=λσ H Q=>ta σ H λx H1=>tr σ H1 λxs H2=>Q (x::xs) H2
section
variable {X : Cx} {e : Expr} {es : List Expr} {te : TE} {t : TA} {pos : Pos}
theorem zaq:PA X [] tNil:=λ_ _ _ _ H Q I h=>Calls.spliced_nil ⟨[],H,I,.nil,h⟩
theorem zai(ha:PE X e te)(hr:PA X es t)(hs:Vg (e::es) X.env=(false,eval e X.env)::Vg es X.env:=by rfl):PA X (e::es) (zaj te t):=by
 intro pos pins s σ H Q I h;rw[hs];show wpAny _ _ (UF ((false,eval e X.env)::VU pos (Vg es X.env))) _ _ s;refine Calls.spliced_cons (thn (ha pins s σ H _ I h) λu s1 ⟨x,H1,I1,r1,q1⟩=>?_);exact thn (hr pos pins s1 σ H1 _ I1 q1) λus s2 ⟨xs,H2,I2,r2,q2⟩=>⟨x::xs,H2,I2,.cons r1 r2,q2⟩
def tTup(t:TA):TE:=λσ H Q=>t σ H λxs H1=>xs.length<=sizeLine/\∀ p,H1 p=none->Q (.ref p) (upd H1 p (.tup xs))
def tLst(t:TA):TE:=λσ H Q=>t σ H λxs H1=>xs.length<=sizeLine/\∀ p,H1 p=none->Q (.ref p) (upd H1 p (.lst xs))
theorem zdj{x1}(h:PA X es t):PE X (.Tuple es x1 pos) (tTup t):=by
 intro pins s σ H Q I hq;refine wpAny_Tuple_spliced (thn (h pos pins s σ H _ I hq) λus s1 ⟨xs,H1,I1,r,z,q⟩=>⟨by rw[<- r.length];exact z,?_⟩);have hf:H1 s1.heap.objs.size=none:=I1.hok.fresh (Qc _);refine⟨.ref s1.heap.objs.size,upd H1 s1.heap.objs.size (.tup xs),I1.laid (t':=s1.toks) (λb u e=>Heap.get?_push_of_some _ e) (Qc _) ?_,rfl,q _ hf⟩;exact⟨z,us,r,⟨_,Heap.get?_push_size _ rfl,rfl,_,rfl⟩⟩
theorem zrh(h:PA X es t):PE X (.List es pos) (tLst t):=by
 intro pins s σ H Q I hq;refine wpAny_List_spliced (thn (h pos pins s σ H _ I hq) λus s1 ⟨xs,H1,I1,r,z,q⟩=>⟨by rw[<- r.length];exact z,?_⟩);have hf:H1 s1.heap.objs.size=none:=I1.hok.fresh (Qc _);refine⟨.ref s1.heap.objs.size,upd H1 s1.heap.objs.size (.lst xs),I1.laid (t':=s1.toks) (λb u e=>Heap.get?_push_of_some _ e) (Qc _) ?_,rfl,q _ hf⟩;exact⟨z,us,0,r,Heap.get?_push_size _ rfl⟩
end
abbrev Sp:=List V->Hp->VK->XK->Prop
abbrev CXT:=List Env->Hp->Vc->XK->Vb->Vc->Prop
structure Env0 (P:Vf) (w:Vk) (K:PySem.W.Frag) (mg:Str->Option Vb) (base:Heap) (A:Vl) (outer:List Env) (s:Vc) (H:Hp):Prop where
 frames:A.frames=some outer
 mod:Mod K mg base
 bs:∀ b o,base.get? b=some o->s.heap.get? b=some o/\H b=none
 bsz:base.objs.size<=s.heap.objs.size
 funs:s.heap.FunFrames base outer
 frf:∀ b ∈ frs outer,H b=none
 hok:HOk P w H s.heap
 bare:UE s.gens
def CE(outer:List Env)(P:Vf)(w:Vk)(H:Hp)(s:Vc)(Q:VK)(u:Vb)(s':Vc):Prop :=
 ∃ v H',s'.os=s.os/\UE s'.gens/\Un (frs outer) [] H H' s.heap s'.heap/\HOk P w H' s'.heap/\RelV v u/\Q v H'
def CR(CX:CXT)(outer:List Env)(P:Vf)(w:Vk)(H:Hp)(s:Vc)(Q:VK)(E:XK)(r:Result)(s':Vc):Prop :=
 match r with
 | .ok (.ret u)=>CE outer P w H s Q u s'
 | .ok _=>False
 | .error e=>CX outer H s E e s'
structure FnOk (P:Vf) (w:Vk) (K:PySem.W.Frag) (mg:Str->Option Vb) (base:Heap) (CX:CXT) (k:Nat) (f:Addr) (fd:VB) (ps:List Str) (sp:Sp):Prop where
 len:∀ vs H Q E,sp vs H Q E->vs.length=ps.length
 run:∀ (A:Vl) (outer:List Env) (s:Vc) (H:Hp) (args:Args) (us:List Vb) (vs:List V) (Q:VK) (E:XK),Room k A->Env0 P w K mg base A outer s H->G7 s fd args (ps.zip us)->Vals vs us->sp vs H Q E ->
  Uw (model P w) A (.call (.ref f) args) (CR CX outer P w H s Q E) s
theorem FnOk.mono{P:Vf}{w:Vk}{K:PySem.W.Frag}{mg:Str->Option Vb}{base:Heap}{CX:CXT}{j k:Nat}{f:Addr}{fd:VB}{ps:List Str}{sp:Sp}(F:FnOk P w K mg base CX j f fd ps sp)(h:j<=k) :
 FnOk P w K mg base CX k f fd ps sp:=⟨F.len,λA outer s H args us vs Q E hr=>F.run A outer s H args us vs Q E (hr.mono h)⟩
theorem Env0.in1{P:Vf}{w:Vk}{K:PySem.W.Frag}{mg:Str->Option Vb}{base:Heap}{A:Vl}{outer:List Env}{s:Vc}{H:Hp}(e:Env0 P w K mg base A outer s H) :
 Env0 P w K mg base A.in1 outer s H:=⟨e.frames,e.mod,e.bs,e.bsz,e.funs,e.frf,e.hok,e.bare⟩
section
variable {X : Cx} {pins : List (Addr × Obj)} {σ : St} {H : Hp} {s s' : Vc}
theorem Inv.env0(I:Inv X pins σ H s):Env0 X.prog X.w X.K X.mg X.base X.A X.stack s H :=
 ⟨I.ok.frames,I.ok.mod,I.bs,QH I.ok.bsz I.sz,I.stack,I.stkFree,I.hok,I.bare⟩
theorem Inv.after{Q:VK}{u:Vb}(I:Inv X pins σ H s)(h:CE X.stack X.prog X.w H s Q u s'):EP X pins σ Q u s':=by
 obtain⟨v,H',os,bare,un,hok,r,q⟩:=h;obtain⟨hh,g,d,t,os'⟩:=s';obtain rfl:os'=s.os:=os;exact⟨v,H',I.call (h':=hh) (g':=g) (d':=d) (t':=t) (ch := []) un hok bare (λb z=>absurd z (by simp)),r,q⟩
end
def zcv(sp:Sp)(dvs:List V)(E:XK)(t:TA):TE:=λσ H Q=>t σ H λvs H1=>sp (vs++dvs) H1 Q E
def Binds(K:PySem.W.Frag)(fd:VB)(ps:List Str)(ds:List Vb):Prop :=
 ∀ (s:Vc) (us:List Vb),K.In s.heap->(us++ds).length=ps.length->G7 s fd ⟨us,[]⟩ (ps.zip (us++ds))
theorem Binds.all{K:PySem.W.Frag}{fd:VB}{ps:List Str}(h:∀ us:List Vb,us.length=ps.length->Ue fd ⟨us,[]⟩=pure (ps.zip us)):Binds K fd ps []:=λs us _ hl=>by
 rw[QD] at hl ⊢;exact .of_eq (h us hl)
def zlk(CX:CXT)(X:Cx)(E:XK):Prop:=∀ (pins:List (Addr × Obj)) (σ:St) (H:Hp) (s:Vc) (e:Vb) (s':Vc),Inv X pins σ H s->CX X.stack H s E e s'->X.xe e s'
section
variable {X : Cx} {CX : CXT} {k : Nat} {f C : Addr} {fd : VB} {ps : List Str} {sp : Sp} {dvs : List V} {ds : List Vb} {E : XK} {x m : Str} {p pos apos : Pos} {e o : Expr} {es : List Expr} {ta : TE} {t : TA}
theorem z0u{pins:List (Addr × Obj)}{σ:St}{H:Hp}{s:Vc}{Q:VK}{us:List Vb}{vs:List V}(F:FnOk X.prog X.w X.K X.mg X.base CX k f fd ps sp)(hr:Room k X.A)(hb:Binds X.K fd ps ds)(hd:Vals dvs ds)(hx:zlk CX X E)
 (I:Inv X pins σ H s) (r:Vals vs us) (h:sp (vs++dvs) H Q E):wpAny (model X.prog X.w) X.A (call (.ref f) us) (EP X pins σ Q) X.xe s:=by
 have r2:Vals (vs++dvs) (us++ds):=r.append hd;have hl:(us++ds).length=ps.length:=by rw[<- r2.length];exact F.len _ _ _ _ h
 refine G5 (Uq (F.run X.A X.stack s H ⟨us,[]⟩ (us++ds) (vs++dvs) Q E hr I.env0 (hb s us I.kIn hl) r2 h) λr s' hq=>?_)
 cases r with
 | error e=>exact hx pins σ H s e s' I hq
 | ok fl =>
   cases fl with
   | ret u=>exact I.after hq
   | next=>exact Z4 hq
   | brk=>exact Z4 hq
   | cont=>exact Z4 hq
theorem zd5(F:FnOk X.prog X.w X.K X.mg X.base CX k f fd ps sp)(hr:Room k X.A)(hg:Gl X x)(hm:X.mg x=some (.ref f))(hk:PySem.W.keepIn X.K (.ref f)=true)(hb:Binds X.K fd ps ds)(hd:Vals dvs ds)(hx:zlk CX X E)
 (ha:PA X (e::es) t) (hdb:(x == ("__debug__" : Str))=false:=by decide) (he:Vg (e::es) X.env=(false,eval e X.env)::Vg es X.env:=by rfl) (hpl:(VU pos (Vg es X.env)).any (·.1)=false:=by rfl) :
 PE X (.Call (.Name x p) (e::es) [] pos) (zcv sp dvs E t):=by
 intro pins s σ H Q I h;refine Vz (zno I hg hm ?_ hdb);refine PySem.W.callWith_K (h₀:=X.base) I.ok.mod.kin hk (thn (ha pos pins s σ H _ I h) λus s1 ⟨vs,H1,I1,r,q⟩=>⟨I1.kIn,?_⟩) he hpl;exact z0u F hr hb hd hx I1 r q
end
structure FnScope (N P:List Str) (sc:VP):Prop where
 kind:sc.kind = .function
 co:sc.isCoroutine=false
 gen:sc.isGenerator=false
 nd:N.Nodup
 pre:N.take P.length=P
 par:∀ x ∈ P,sc.names.lookup x=some .local\/sc.names.lookup x=some .cell
 nofree:∀ y ∈ sc.names,y.2 ≠ .free
theorem zkd{kindOf:Str->Option VO}{x:Str}:∀ {binds:List (Str × Vb)} {m:Str->Option Vb},(∀ v,(x,v) ∉ binds)->GK kindOf binds m x=m x
 | [],_,_=>rfl
 | (n,v)::r,m,h=>by
   unfold GK;rw[zkd λw hw=>h w (Qb _ hw)]
   split
   ·have:x ≠ n:=by rintro rfl;exact h v Qt
    simp[this]
   ·rfl
theorem zkf{kindOf:Str->Option VO}{x:Str}:∀ {binds:List (Str × Vb)} {m:Str->Option Vb},(∀ v,(x,v) ∉ binds)->GJ kindOf binds m x=m x
 | [],_,_=>rfl
 | (n,v)::r,m,h=>by
   unfold GJ;rw[zkf λw hw=>h w (Qb _ hw)]
   split
   ·rfl
   ·have:x ≠ n:=by rintro rfl;exact h v Qt
    simp[this]
theorem zjo{kindOf:Str->Option VO}{x:Str}{v:Vb}:∀ {P:List Str} {vs:List Vb} {i:Nat} {m:Str->Option Vb},P.Nodup->P[i]? = some x->vs[i]? = some v->kindOf x=some .local ->
 GK kindOf (P.zip vs) m x=some v
 | [],_,_,_,_,h,_,_=>by simp at h
 | _::_,[],_,_,_,_,h,_=>by simp at h
 | p::P,w::vs,0,m,nd,h1,h2,hk=>by
   simp at h1 h2;subst h1;subst h2;show GK kindOf ((p,w)::P.zip vs) m p=_;unfold GK;rw[zkd λv hv=>(Zi.mp nd).1 (J7 hv).1,GQ hk];simp
 | p::P,w::vs,i+1,m,nd,h1,h2,hk=>by
   show GK kindOf ((p,w)::P.zip vs) m x=_;unfold GK;exact zjo (i:=i) (Zi.mp nd).2 (by simpa using h1) (by simpa using h2) hk
theorem zjz{kindOf:Str->Option VO}{x:Str}{v:Vb}:∀ {P:List Str} {vs:List Vb} {i:Nat} {m:Str->Option Vb},P.Nodup->P[i]? = some x->vs[i]? = some v->kindOf x ≠ some .local ->
 GJ kindOf (P.zip vs) m x=some v
 | [],_,_,_,_,h,_,_=>by simp at h
 | _::_,[],_,_,_,_,h,_=>by simp at h
 | p::P,w::vs,0,m,nd,h1,h2,hk=>by
   simp at h1 h2;subst h1;subst h2;show GJ kindOf ((p,w)::P.zip vs) m p=_;unfold GJ;rw[zkf λv hv=>(Zi.mp nd).1 (J7 hv).1,GT hk];simp
 | p::P,w::vs,i+1,m,nd,h1,h2,hk=>by
   show GJ kindOf ((p,w)::P.zip vs) m x=_;unfold GJ;exact zjz (i:=i) (Zi.mp nd).2 (by simpa using h1) (by simpa using h2) hk
def start(N:List Str)(vs:List V):St:=vs.map some++Qh (N.length - vs.length) none
def cxOf(CX:CXT)(P:Vf)(w:Vk)(K:PySem.W.Frag)(mg:Str->Option Vb)(base:Heap)(N:List Str)(qual:Str)(scope:VP)(f:Addr)(cd:Vb)(A:Vl)(outer:List Env)(s:Vc)(H:Hp)(E:XK):Cx where
 prog:=P
 w:=w
 K:=K
 mg:=mg
 base:=base
 A:=A.deeper (US qual scope s.heap.objs.size f cd)
 N:=N
 s₀:=s
 H₀:=H
 env:=US qual scope s.heap.objs.size f cd
 outer:=outer
 stack:=US qual scope s.heap.objs.size f cd::outer
 ex := []
 calm:=true
 fn:=λ_=>true
 pn := []
 xe:=λe s'=>wpAny (model P w) (A.deeper (US qual scope s.heap.objs.size f cd)) (leaving (US qual scope s.heap.objs.size f cd) e) (λ_ s''=>CX outer H s E e s'') (λe' s''=>CX outer H s E e' s'') s'
theorem zln{sc:VP}{n:Nat}{x:Str}(h:sc.names.lookup x=some .cell):∃ c,(VA n sc.names []).lookup x=some c:=by
 have q:=PySem.W.cellsFrom_some sc.names n [] (.inl h);exact Z7.mp q
theorem zq0{CX:CXT}{P:Vf}{w:Vk}{K:PySem.W.Frag}{mg:Str->Option Vb}{base:Heap}{N ps:List Str}{qual:Str}{scope:VP}{f:Addr}{cd:Vb}{A:Vl}{outer:List Env}{s s1:Vc}{H:Hp}{E:XK}{us:List Vb}{vs:List V}
 (S:FnScope N ps scope) (hd:A.handled=none) (e0:Env0 P w K mg base A outer s H) (hl:vs.length=ps.length) (r:Vals vs us)
 (x:InCallC s s.heap.objs.size (GK (US qual scope s.heap.objs.size f cd).kindOf (ps.zip us) λ_=>none) (VA (s.heap.objs.size+1) scope.names []) (GJ (US qual scope s.heap.objs.size f cd).kindOf (ps.zip us) λ_=>none) s1) :
 Inv (cxOf CX P w K mg base N qual scope f cd A outer s H E) [] (start N vs) H s1:=by
 have hpl:ps.length<=N.length:=by have:=Tb Yu S.pre;rw[QJ] at this;omega
 obtain⟨h1,tk,rfl,hk⟩:=x.done;have noA:∀ b:Addr,b ∉ (cxOf CX P w K mg base N qual scope f cd A outer s H E).ex:=λb z=>absurd (show b ∈ ([]:List Addr) from z) (by simp)
 refine⟨⟨e0.mod,S.kind,rfl,rfl,Qc _,λy z c h1 h2=>?_,λy hy=>?_,λy c _ h=>?_,λ_=>hd,Around.frames_deeper e0.frames,.inr ⟨rfl,rfl⟩,λb z=>absurd z (noA b),e0.bs,e0.bsz,λb _ _=>noA b,λb z=>absurd z (noA b),e0.funs,e0.frf⟩,
  rfl,e0.bare,Un.kept hk,⟨_,x.toInCall.ns,λi y v h1 h2 h3=>?_⟩,λy c h=>⟨_,x.cell y c h⟩,e0.hok.fresh (Qc _),λy c h=>?_,λp hp=>absurd (show p ∈ ([]:List (Addr × Obj)) from hp) (by simp),e0.hok.kept hk,?_⟩
 ·exact name_of_addr x.apart (PySem.mem_of_lookup h1) (PySem.mem_of_lookup h2)
 ·have hy:scope.names.lookup y=some .cell\/scope.names.lookup y=some .free:=hy;rcases hy with hy|hy
  ·exact zln hy
  ·exact absurd rfl (S.nofree _ (PySem.mem_of_lookup hy))
 ·exact Jc (x.above y c (PySem.mem_of_lookup h))
 ·have hi:i<vs.length:=by
   unfold start at h2
   by_cases hi:i<vs.length
   ·exact hi
   ·rw[Q4 (by simpa using hi)] at h2;rw[QV] at h2
    split at h2 <;> cases h2
  have ha:vs[i]? = some v:=by
   unfold start at h2;rw[Qz (by simpa using hi),Qk] at h2
   cases e:vs[i]? with
   | none=>rw[e] at h2;cases h2
   | some a=>rw[e] at h2;cases h2;rfl
  obtain⟨u,hu,rv⟩:=r.get ha
  have hp:ps[i]? = some y:=by
   rw[<- S.pre,List.getElem?_take_of_lt (by omega)];exact h1
  have ndP:ps.Nodup:=by rw[<- S.pre];exact S.nd.sublist (YJ _ _)
  refine⟨u,rv,?_⟩;rcases S.par y (Q6 hp) with k|k
  ·exact .inl ⟨k,zjo ndP hp hu k⟩
  ·obtain⟨c,e⟩:=zln (n:=s.heap.objs.size+1) k;refine .inr ⟨.inl k,c,e,?_⟩;have q:=x.cell y c e;rw[zjz ndP hp hu (by show scope.names.lookup y ≠ _;rw[k];decide)] at q;exact q
 ·exact e0.hok.fresh (Jc (x.above y c (PySem.mem_of_lookup h)))
 ·unfold start;show _=N.length;rw[Qj,Qe,QN];omega
theorem z3a{CX:CXT}{P:Vf}{w:Vk}{K:PySem.W.Frag}{mg:Str->Option Vb}{base:Heap}{k:Nat}{f:Addr}{name qual:Str}{params:Arguments}{body:List Stmt}{scope:VP}{dV kV doc pm cdv ct oc:Vb}{an od:Option Addr}
 {osl:Array (Option Vb)} {N ps:List Str} {sp:Sp} (lk:K.lookup f=some ⟨oc,od,.func (PySem.W.fnOf name qual params body scope dV kV doc pm an cdv ct),osl⟩) (hcd:PySem.W.codeIn K cdv qual=true) (S:FnScope N ps scope)
 (len:∀ vs H Q E,sp vs H Q E->vs.length=ps.length)
 (hbody:∀ (A:Vl) (outer:List Env) (s:Vc) (H:Hp) (vs:List V) (Q:VK) (E:XK),Room k (A.deeper (US qual scope s.heap.objs.size f cdv))->sp vs H Q E ->
  ∃ t,PSs (cxOf CX P w K mg base N qual scope f cdv A outer s H E) body t/\t { nx:=λ_ H'=>Q .non H',rt:=Q } (start N vs) H) :
 FnOk P w K mg base CX (k+1) f (PySem.W.fnOf name qual params body scope dV kV doc pm an cdv ct) ps sp:=by
 refine⟨len,λA outer s H args us vs Q E hr e0 hb r hsp=>?_⟩;have hl:=len _ _ _ _ hsp;have KX:K.In s.heap:=e0.mod.kin.keeps λb o e=>(e0.bs b o e).1;have lim:s.heap.NoLimit:=e0.mod.nolimit.keeps λb o e=>(e0.bs b o e).1
 have hkind:∀ y ∈ ps.zip us,scope.names.lookup y.1=some .local\/(scope.names.lookup y.1=some .cell/\((VA (s.heap.objs.size+1) scope.names []).lookup y.1).isSome=true):=λ⟨n,v⟩ hy=>by
  rcases S.par n (J7 hy).1 with q|q
  ·exact .inl q
  ·exact .inr ⟨q,PySem.W.cellsFrom_some _ _ _ (.inl q)⟩
 refine codeAny_call_function hr.depth (KX _ _ lk) rfl S.co S.gen rfl (PySem.W.codeRec_of KX hcd) (hb _ _ _ _ ?_);refine wpAny_newFunctionEnv_cells S.kind hkind λenv he s1 x=>?_;subst he;refine⟨lim.keeps x.toInCall.keep,codeAny_func ?_⟩;obtain⟨t,ht,hq⟩:=hbody A outer s H vs Q E (hr.deeper _) hsp;have I:Inv (cxOf CX P w K mg base N qual scope f cdv A outer s H E) [] (start N vs) H s1:=zq0 S hr.hd e0 hl r x;refine V0 (ht [] s1 (start N vs) H _ I hq) (λfl s' hs=>?_) λe s' hs=>hs
 have fin:∀ {σ':St} {H':Hp} {v:V} {u:Vb},Inv (cxOf CX P w K mg base N qual scope f cdv A outer s H E) [] σ' H' s'->RelV v u->Q v H'->CE outer P w H s Q u s' :=
  λ{σ' H' v u} J rv q=>⟨v,H',J.os,J.bare,J.base,J.hok,rv,q⟩
 cases fl with
 | ret u =>
   obtain⟨v,σ',H',J,rv,q⟩:=hs;exact fin J rv q
 | next =>
   obtain⟨σ',H',J,q⟩:=hs;exact fin (v:=V.non) (u:=Value.none) J rfl q
 | brk =>
   obtain⟨_,_,_,q⟩:=hs;exact Z4 q
 | cont =>
   obtain⟨_,_,_,q⟩:=hs;exact Z4 q
section
variable {X : Cx} {x : Str} {p pos : Pos} {e : Expr} {es : List Expr} {t : TA} {id T : String} {r : List V → Hp → VK → Prop}
def tCB(r:List V->Hp->VK->Prop)(t:TA):TE:=λσ H Q=>t σ H λvs H1=>r vs H1 Q
theorem zcq(hc:CallR X (.builtin id) r)(hg:Gl X x)(hm:X.mg x=none)(hv:Vv x=some (.builtin id))(ha:PA X (e::es) t)(hn:x ≠ "__name__" := by decide)(hdb:(x == ("__debug__" : Str))=false:=by decide)
 (he:Vg (e::es) X.env=(false,eval e X.env)::Vg es X.env:=by rfl) (hpl:(VU pos (Vg es X.env)).any (·.1)=false:=by rfl):PE X (.Call (.Name x p) (e::es) [] pos) (tCB r t):=by
 intro pins s σ H Q I h;refine Vz (zb6 I hg hm hv ?_ hn hdb);exact Jx (thn (ha pos pins s σ H _ I h) λus s1 ⟨vs,H1,I1,r1,q1⟩=>hc pins s1 σ H1 vs us Q I1 r1 q1) he hpl
theorem zd1(hc:CallR X (.type T) r)(hg:Gl X x)(hm:X.mg x=none)(hv:Vv x=some (.type T))(ha:PA X (e::es) t)(hn:x ≠ "__name__" := by decide)(hdb:(x == ("__debug__" : Str))=false:=by decide)
 (he:Vg (e::es) X.env=(false,eval e X.env)::Vg es X.env:=by rfl) (hpl:(VU pos (Vg es X.env)).any (·.1)=false:=by rfl):PE X (.Call (.Name x p) (e::es) [] pos) (tCB r t):=by
 intro pins s σ H Q I h;refine Vz (zb6 I hg hm hv ?_ hn hdb);exact QT (thn (ha pos pins s σ H _ I h) λus s1 ⟨vs,H1,I1,r1,q1⟩=>hc pins s1 σ H1 vs us Q I1 r1 q1) he hpl
end
end L2
namespace HT
open PySem PyProof.Rows
section
variable {prog : Vf} {w : Vk} {A : Vl} {E : Vb → Vc → Prop} {s : Vc}
theorem cat_tup{t b:Addr}{vs ws:List Vb}{Q:Vb->Vc->Prop}(ht:IsTup s.heap t vs.toArray)(hb:IsTup s.heap b ws.toArray)(hv:vs ≠ [])
 (h1:ws = []->Q (.ref t) s) (h2:ws ≠ []->Q (.ref s.heap.objs.size) { s with heap:=s.heap.push { cls := .type "tuple", data := .seq (vs++ws).toArray } })
 (hsz:vs.length+ws.length<=sizeLine):wpAny (model prog w) A (binaryOp .Add (.ref t) (.ref b)) Q E s:=by
 obtain⟨⟨cls,dd,data,sl⟩,ho,hc,n,hd⟩:=id ht;obtain⟨⟨cls2,dd2,data2,sl2⟩,ho2,hc2,n2,hd2⟩:=id hb;simp only at hc hd hc2 hd2;subst hc hd hc2 hd2;have e:vs.toArray++ws.toArray=(vs++ws).toArray:=by simp
 by_cases hw:ws = []
 ·exact G8 ⟨_,ho,rfl⟩ ⟨_,ho2,rfl⟩ UJ Gz PySem.F.slot_tuple_add PySem.F.entry_tuple_add (PySem.F.args_tuple_add_2 _ _)
   (tuple_addW1 t b vs.toArray ws.toArray n n2 dd dd2 sl sl2 (by simpa using hv) (by simp[hw])) ⟨ho,ho2,h1 hw⟩
 ·refine G8 ⟨_,ho,rfl⟩ ⟨_,ho2,rfl⟩ UJ Gz PySem.F.slot_tuple_add PySem.F.entry_tuple_add (PySem.F.args_tuple_add_2 _ _)
   (tuple_addW2 t b vs.toArray ws.toArray n n2 dd dd2 sl sl2 (by simpa using hv) (by simpa using hw) (by rw[Qo,Qo];exact hsz)) ⟨ho,ho2,?_⟩
  rw[e];exact h2 hw
def sIx(n d:Nat):Option Int->Nat
 | none=>d
 | some v=>if v<0 then(v+(n:Int)).toNat else min v.toNat n
theorem sIx_le(n d:Nat)(hd:d<=n)(o:Option Int):sIx n d o<=n:=by
 cases o with
 | none=>exact hd
 | some v =>
   show(if v<0 then(v+(n:Int)).toNat else min v.toNat n)<=n
   by_cases hv:v<0
   ·rw[GQ hv];omega
   ·rw[GT hv];exact Nat.min_le_right _ _
theorem clip_eq(v:Int)(n d:Nat):(if v<0 then max (v+(n:Int)) 0 else min v (n:Int))=((sIx n d (some v):Nat):Int):=by
 show(if v<0 then max (v+(n:Int)) 0 else min v (n:Int))=(((if v<0 then(v+(n:Int)).toNat else min v.toNat n):Nat):Int)
 by_cases hv:v<0
 ·simp only[GQ hv];omega
 ·simp only[GT hv];omega
theorem zps(lo hi:Option Int)(n:Nat):Builtin.Slice.sliceAdjust lo hi 1 (n:Int)=(((sIx n 0 lo:Nat):Int),((sIx n n hi:Nat):Int)):=by
 have h1:¬ ((1:Int)<0):=by omega
 unfold Builtin.Slice.sliceAdjust;simp only[h1,GX];refine YK ?_ ?_
 ·cases lo with
  | none=>rfl
  | some v=>exact clip_eq v n 0
 ·cases hi with
  | none=>rfl
  | some v=>exact clip_eq v n n
theorem zp6(i j:Nat):Builtin.Slice.slicePlaces (i:Int) (j:Int) 1=j - i:=by
 unfold Builtin.Slice.slicePlaces;have h1:(1:Int) > 0:=by omega
 simp only[h1,Ta,Int.ediv_one]
 split <;> omega
theorem zht{v:Vb}{o:Option Int}{Q:Option Int->Vc->Prop}(p:UN v o)(h:Q o s):wpAny (model prog w) A (Builtin.Slice.slicePartIndex v) Q E s:=by
 cases p with
 | none=>exact slicePart_none h
 | int i t=>exact slicePart_int h
theorem sliceApplied_gen{sl:Addr}{vl vu:Vb}{lo hi:Option Int}{n:Nat}{Q:Int × Int × Nat->Vc->Prop}(hs:s.heap.IsSliceOf sl vl vu .none)(pl:UN vl lo)(pu:UN vu hi)
 (h:Q (((sIx n 0 lo:Nat):Int),1,sIx n n hi - sIx n 0 lo) s):wpAny (model prog w) A (Builtin.Slice.sliceApplied (.ref sl) (pure (n:Int))) Q E s:=by
 obtain⟨os,hos,hcs,hds⟩:=id hs;unfold Builtin.Slice.sliceApplied Builtin.Slice.sliceFields;refine Va (Va (V5 hos hds (x:=vl) rfl (Va (V5 hos hds (x:=vu) rfl (Va (V5 hos hds (x := .none) rfl (Vd ?_)))))));refine Va (slicePart_none ?_);show wpAny _ _ (if((1:Int) == 0)=true then _ else _) _ _ s;rw[GT (by decide)];refine Va (zht pl (Va (zht pu (Va (Vd ?_)))));show wpAny _ _ (match Builtin.Slice.sliceAdjust lo hi 1 (n:Int) with|(lo,hi)=>pure (lo,(1:Int),Builtin.Slice.slicePlaces lo hi 1)) _ _ s;rw[zps lo hi n];show wpAny _ _ (pure (((sIx n 0 lo:Nat):Int),(1:Int),Builtin.Slice.slicePlaces ((sIx n 0 lo:Nat):Int) ((sIx n n hi:Nat):Int) 1)) _ _ s;rw[zp6];exact Vd h
theorem zt2(xs:Array Vb)(i k:Nat):((Qx k).filterMap λ(m:Nat)=>xs[((i:Int)+(m:Int) * 1).toNat]?).toArray=((xs.toList.drop i).take k).toArray:=by
 have e:(λ(m:Nat)=>xs[((i:Int)+(m:Int) * 1).toNat]?)=λm=>xs[i+m]?:=by
  funext m;have:((i:Int)+(m:Int) * 1).toNat=i+m:=by omega
  rw[this]
 rw[e];have:=pick_run xs i k;rw[List.filterMap_map] at this;have e2:((λx=>xs[x]?) ∘ λx=>i+x)=λm=>xs[i+m]?:=rfl;rw[e2] at this;rw[this]
theorem getItem_tuple_cut{t sl:Addr}{items:Array Vb}{vl vu:Vb}{lo hi:Option Int}{Q:Vb->Vc->Prop}(ht:IsTup s.heap t items)(hs:s.heap.IsSliceOf sl vl vu .none)(pl:UN vl lo)(pu:UN vu hi)
 (hw:¬ (sIx items.size 0 lo=0/\sIx items.size items.size hi=items.size))
 (h:Q (.ref s.heap.objs.size) { s with heap:=s.heap.push { cls := .type "tuple", data := .seq ((items.toList.drop (sIx items.size 0 lo)).take (sIx items.size items.size hi - sIx items.size 0 lo)).toArray } })
 (hsz:items.size<=sizeLine):wpAny (model prog w) A (Ux (.ref t) (.ref sl)) Q E s:=by
 have htake:sizeOk (.seq ((items.toList.drop (sIx items.size 0 lo)).take (sIx items.size items.size hi - sIx items.size 0 lo)).toArray):=by
  show((items.toList.drop (sIx items.size 0 lo)).take (sIx items.size items.size hi - sIx items.size 0 lo)).toArray.size<=sizeLine;rw[Qo,QJ,Q9,QE];omega
 have hj:sIx items.size items.size hi<=items.size:=sIx_le _ _ (Qc _) hi;obtain⟨os,hos,hcs,hds⟩:=id hs;have hTs:s.TypeIs (.ref sl) "slice" := ⟨os,hos,hcs⟩;unfold Ux
 try with_reducible refine Vr ?_
 first|refine Va (Vd ?_)|skip
 refine Va (wpAny_sequenceKey ht.typeIs (by decide) ?_)
 refine Va (Vx (name:=Str.ofString "__getitem__") ht.typeIs QU
  (Vn QU ht.typeIs entry_tuple_getitem ?_ (args_tuple_getitem _ _)))
 show wpAny _ _ (Builtin.Tuple.tupleItemsOf (.ref t) >>= _) _ _ s;refine Va (tupleItemsOf_ ht ?_);refine Va (V9 hTs ?_);rw[GQ (by decide)];refine Va (sliceApplied_gen hs pl pu ?_)
 have hno:¬ ((((sIx items.size 0 lo:Nat):Int) == 0 && (1:Int) == 1 && (sIx items.size items.size hi - sIx items.size 0 lo) == items.size)=true):=by
  intro q;rw[Q5,Q5] at q;have q1:((sIx items.size 0 lo:Nat):Int)=0:=eq_of_beq q.1.1;have q2:sIx items.size items.size hi - sIx items.size 0 lo=items.size:=eq_of_beq q.2;exact hw ⟨by omega,by omega⟩
 show wpAny _ _ (if(((sIx items.size 0 lo:Nat):Int) == 0 && (1:Int) == 1 && (sIx items.size items.size hi - sIx items.size 0 lo) == items.size)=true then _ else _) _ _ s;rw[GT hno,zt2]
 first
  | exact Va (m:=Builtin.Tuple.tupleExact _) (Vm (Vd ⟨_,rfl,Vd h⟩) htake)
  | exact Va (m:=Builtin.Tuple.tupleExact _) (Vm (Va (Vd (Vd ⟨_,rfl,Vd h⟩))) htake)
  | exact Va (Va (m:=Builtin.Tuple.tupleExact _) (Vm (Vd (Vd ⟨_,rfl,Vd h⟩)) htake))
  | exact Va (Va (m:=Builtin.Tuple.tupleExact _) (Vm (Vd ⟨_,rfl,Vd h⟩) htake))
end
end HT
namespace L2
open PySem PySem.Spec PyProof.Rows
abbrev TO:=St->Hp->(Option Int->Hp->Prop)->Prop
def PO(X:Cx)(e:Option Expr)(t:TO):Prop :=
 ∀ (pins:List (Addr × Obj)) (s:Vc) (σ:St) (H:Hp) (Q:Option Int->Hp->Prop),Inv X pins σ H s->t σ H Q ->
   wpAny (model X.prog X.w) X.A (evalPart e X.env) (λu s'=>∃ o H',Inv X pins σ H' s'/\UN u o/\Q o H') X.xe s
def zn7:TO:=λ_ H Q=>Q none H
def zks(t:TE):TO:=λσ H Q=>t σ H λx H1=>∃ i,x = .int i/\Q (some i) H1
section
variable {X : Cx} {e : Expr} {te : TE} {lo hi : Option Expr} {tl th : TO} {pos p2 : Pos}
theorem znt:PO X none zn7:=by
 intro pins s σ H Q I h;rw[evalPart_none];exact Vd ⟨none,H,I,.none,h⟩
theorem zfz(h:PE X e te):PO X (some e) (zks te):=by
 intro pins s σ H Q I hw;rw[evalPart_some];refine thn (h pins s σ H _ I hw) λu s1 ⟨x,H1,I1,r1,q1⟩=>?_;obtain⟨i,rfl,q⟩:=q1;obtain⟨t,rfl⟩:=r1;exact⟨some i,H1,I1,.int i t,q⟩
def SlR(X:Cx)(r:V->Option Int->Option Int->Hp->VK->Prop):Prop :=
 ∀ (pins:List (Addr × Obj)) (s:Vc) (σ:St) (H:Hp) (x:V) (v vl vu:Vb) (lo hi:Option Int) (sl:Addr) (Q:VK),Inv X pins σ H s->RelV x v->s.heap.IsSliceOf sl vl vu .none->UN vl lo->UN vu hi->r x lo hi H Q ->
   ∃ T id,Uj (.type T) "__getitem__" = pure (some (.builtin id))/\s.TypeIs v T/\wpAny (model X.prog X.w) X.A (Ux v (.ref sl)) (EP X pins σ Q) X.xe s
theorem SlR.or{r r':V->Option Int->Option Int->Hp->VK->Prop}(h:SlR X r)(h':SlR X r'):SlR X (λx lo hi H Q=>r x lo hi H Q\/r' x lo hi H Q):=by
 intro pins s σ H x v vl vu lo hi sl Q I rx hs pl pu q;rcases q with q|q
 ·exact h pins s σ H x v vl vu lo hi sl Q I rx hs pl pu q
 ·exact h' pins s σ H x v vl vu lo hi sl Q I rx hs pl pu q
def tSl(r:V->Option Int->Option Int->Hp->VK->Prop)(te:TE)(tl th:TO):TE:=λσ H Q=>te σ H λx H1=>tl σ H1 λl H2=>th σ H2 λu H3=>r x l u H3 Q
theorem zgv{r:V->Option Int->Option Int->Hp->VK->Prop}(hr:SlR X r)(he:PE X e te)(hl:PO X lo tl)(hu:PO X hi th):PE X (.Subscript e (.Slice lo hi none p2) pos) (tSl r te tl th):=by
 intro pins s σ H Q I h;refine Subscript_ (thn (he pins s σ H _ I h) λv s1 ⟨x,H1,I1,r1,q1⟩=>?_);refine wpAny_Slice (thn (hl pins s1 σ H1 _ I1 q1) λvl s2 ⟨l,H2,I2,pl,q2⟩=>thn (hu pins s2 σ H2 _ I2 q2) λvu s3 ⟨u,H3,I3,pu,q3⟩=>?_);rw[evalPart_none];refine Vd ?_;have I4:Inv X pins σ H3 { s3 with heap:=s3.heap.push { cls := .type "slice", data := .fields #[vl,vu,.none] } }:=I3.kept (t':=s3.toks) λb ob q=>Heap.get?_push_of_some _ q;obtain⟨T,id,hT,ht,hg⟩:=hr pins { s3 with heap:=s3.heap.push { cls := .type "slice", data := .fields #[vl,vu,.none] } } σ H3 x v vl vu l u s3.heap.objs.size Q I4 r1 (Heap.IsSliceOf.new ..) pl pu q3;show wpAny (model X.prog X.w) X.A (G0 e (.Slice lo hi none p2) v (.ref s3.heap.objs.size)) (EP X pins σ Q) X.xe { s3 with heap:=s3.heap.push { cls := .type "slice", data := .fields #[vl,vu,.none] } };exact tail_any (ops := [.ref s3.heap.objs.size,v]) ht hT hg (by with_unfolding_all rfl)
def cutV(xs:List V)(lo hi:Option Int):List V:=(xs.drop (HT.sIx xs.length 0 lo)).take (HT.sIx xs.length xs.length hi - HT.sIx xs.length 0 lo)
theorem zgl(xs:List V)(lo hi:Option Int):(cutV xs lo hi).length<=xs.length:=by
 unfold cutV;rw[QJ,Q9];omega
def rSlT(K:PySem.W.Frag):V->Option Int->Option Int->Hp->VK->Prop:=λx lo hi H Q=>∃ a xs,x = .ref a/\SqT K H a xs /\
 ¬ (HT.sIx xs.length 0 lo=0/\HT.sIx xs.length xs.length hi=xs.length)/\∀ p,H p=none->Q (.ref p) (upd H p (.tup (cutV xs lo hi)))
theorem sl_tup:SlR X (rSlT X.K):=by
 intro pins s σ H x v vl vu lo hi sl Q I rx hs pl pu h;obtain⟨a,xs,rfl,hx,hw,q⟩:=h;cases rx;obtain⟨its,r,ht,hz⟩:=I.tuple hx;have hlen:its.toArray.size=xs.length:=by rw[Qo];exact r.length.symm
 refine⟨"tuple", _,QU.lookup,ht.typeIs,?_⟩;refine HT.getItem_tuple_cut ht hs pl pu (by rw[hlen];exact hw) ?_ (by rw[hlen];exact hz);rw[hlen];refine⟨.ref s.heap.objs.size,_,I.laid (t':=s.toks) (o := .tup (cutV xs lo hi)) (λb ob q=>Heap.get?_push_of_some _ q) (Qc _) ?_,rfl,q _ (I.hok.fresh (Qc _))⟩;exact⟨QH (zgl xs lo hi) hz,_,(r.drop (HT.sIx xs.length 0 lo)).take (HT.sIx xs.length xs.length hi - HT.sIx xs.length 0 lo),YW _ _⟩
def zvw(K:PySem.W.Frag):R2:=λx y H Q=>∃ a b xs ys,x = .ref a/\y = .ref b/\SqT K H a xs/\SqT K H b ys/\xs ≠ []/\xs.length+ys.length<=sizeLine /\
 (ys = []->Q (.ref a) H)/\(ys ≠ []->∀ p,H p=none->Q (.ref p) (upd H p (.tup (xs++ys))))
theorem Vals.nil_iff{xs:List V}{us:List Vb}(r:Vals xs us):us = []↔xs = []:=by
 cases r with
 | nil=>simp
 | cons _ _=>simp
theorem op_catT:OpR X (binaryOp .Add) (zvw X.K):=by
 intro pins s σ H x y v u Q I rx ry h;obtain⟨a,b,xs,ys,rfl,rfl,ha,hb,hx,hz,q1,q2⟩:=h;cases rx;cases ry;obtain⟨its,r1,p1,_⟩:=I.tuple ha;obtain⟨its2,r2,p2,_⟩:=I.tuple hb;refine HT.cat_tup p1 p2 (λz=>hx (r1.nil_iff.mp z)) (λz=>⟨.ref a,H,I,rfl,q1 (r2.nil_iff.mp z)⟩) (λz=>?_) (by rw[<- r1.length,<- r2.length];exact hz);refine⟨.ref s.heap.objs.size,_,I.laid (t':=s.toks) (o := .tup (xs++ys)) (λb ob q=>Heap.get?_push_of_some _ q) (Qc _) ?_,rfl,q2 (λw=>z (r2.nil_iff.mpr w)) _ (I.hok.fresh (Qc _))⟩;exact⟨by rw[Qj];exact hz,_,r1.append r2,YW _ _⟩
end
def ixN(n:Nat)(i:Int):Option Nat:=if 0<=i then(if i<n then some i.toNat else none) else if -(n:Int)<=i then some (i+n).toNat else none
def atI{α:Type}(xs:List α)(i:Int):Option α:=(ixN xs.length i).bind λj=>xs[j]?
theorem zxs{n:Nat}{i:Int}{j:Nat}(h:ixN n i=some j):U6 i n=some j/\j<n/\-(n:Int)<=i/\i<n:=by
 unfold ixN at h
 by_cases h0:0<=i
 ·rw[GQ h0] at h
  by_cases h1:i<n
  ·rw[GQ h1] at h;have e:i.toNat=j:=QS h;exact⟨by rw[seqIndex_of h0 h1,e],by omega,by omega,h1⟩
  ·rw[GT h1] at h;cases h
 ·rw[GT h0] at h
  by_cases h1:-(n:Int)<=i
  ·rw[GQ h1] at h;have e:(i+n).toNat=j:=QS h;exact⟨by rw[seqIndex_neg (by omega) h1,e],by omega,h1,by omega⟩
  ·rw[GT h1] at h;cases h
theorem zjj{α:Type}{xs:List α}{i:Int}{v:α}(h:atI xs i=some v):∃ j,U6 i xs.length=some j/\xs[j]? = some v/\j<xs.length/\-(xs.length:Int)<=i/\i<xs.length:=by
 unfold atI at h
 cases e:ixN xs.length i with
 | none=>rw[e] at h;cases h
 | some j =>
   rw[e] at h;obtain⟨h1,h2,h3,h4⟩:=zxs e;exact⟨j,h1,h,h2,h3,h4⟩
theorem zod{α:Type}{xs:List α}{j:Nat}{v:α}(h:xs[j]? = some v):atI xs (j:Int)=some v:=by
 have hj:j<xs.length:=(Qi.mp h).1
 have e:ixN xs.length (j:Int)=some j:=by
  unfold ixN;rw[GQ (by omega),GQ (by omega)];simp
 unfold atI;rw[e];exact h
def zny(b:Expr):Prop:=∀ o i,subscripted b false o i=operate [o,i] (Ux o i)
def IxR(X:Cx)(r:R2):Prop :=
 ∀ (value slice:Expr) (pins:List (Addr × Obj)) (s:Vc) (σ:St) (H:Hp) (x y:V) (v u:Vb) (Q:VK),Inv X pins σ H s->RelV x v->RelV y u->r x y H Q ->
   subscripted slice false v u=operate [v,u] (Ux v u)->wpAny (model X.prog X.w) X.A (G0 value slice v u) (EP X pins σ Q) X.xe s
def MtR(X:Cx)(id:String)(r:V->List V->Hp->VK->Prop):Prop :=
 ∀ (pins:List (Addr × Obj)) (s:Vc) (σ:St) (H:Hp) (x:V) (xs:List V) (v:Vb) (us:List Vb) (Q:VK),Inv X pins σ H s->RelV x v->Vals xs us->r x xs H Q ->
   wpAny (model X.prog X.w) X.A (call (.builtin id) (v::us)) (EP X pins σ Q) X.xe s
section
variable {X : Cx} {a b : Expr} {ta tb : TE} {pos : Pos}
theorem IxR.or{r r':R2}(h:IxR X r)(h':IxR X r'):IxR X (λx y H Q=>r x y H Q\/r' x y H Q):=by
 intro value slice pins s σ H x y v u Q I rx ry q hs;rcases q with q|q
 ·exact h value slice pins s σ H x y v u Q I rx ry q hs
 ·exact h' value slice pins s σ H x y v u Q I rx ry q hs
theorem z2u{r:R2}(hr:IxR X r)(ha:PE X a ta)(hb:PE X b tb)(hs:zny b):PE X (.Subscript a b pos) (tOp r ta tb):=by
 intro pins s σ H Q I h;exact Subscript_ (binT ha hb I h λv u s2 x y H2 I2 rx ry q=>hr a b pins s2 σ H2 x y v u Q I2 rx ry q (hs _ _))
def rIxL(K:PySem.W.Frag):R2:=λx y H Q=>∃ p xs i v,x = .ref p/\y = .int i/\SqL K H p xs/\atI xs i=some v/\Q v H
def rIxT(K:PySem.W.Frag):R2:=λx y H Q=>∃ p xs i v,x = .ref p/\y = .int i/\SqT K H p xs/\atI xs i=some v/\Q v H
def rIxS:R2:=λx y H Q=>∃ z i c,x = .str z/\y = .int i/\z.length<=sizeLine/\atI z.cps.toList i=some c/\Q (.str ⟨#[c]⟩) H
theorem ix_list:IxR X (rIxL X.K):=by
 intro value slice pins s σ H x y v u Q I rx ry h hs;obtain⟨p,xs,i,z,rfl,rfl,hq,he,q⟩:=h;cases rx;obtain⟨t,rfl⟩:=ry;obtain⟨its,r,pl,hz⟩:=I.list hq;obtain⟨j,h1,h2,h3,h4,h5⟩:=zjj he;obtain⟨w,ew,rw'⟩:=r.get h2;have hl:=r.length;have hn:=zhl;have fin:EP X pins σ Q w s:=⟨z,H,I,rw',q⟩
 by_cases h0:0<=i
 ·have hj:i.toNat=j:=by
   rw[seqIndex_of h0 h5] at h1;exact QS h1
  exact item_listR pl.isList h0 (by omega) (by rw[hj];simpa using ew) fin hs
 ·have hj:(i+(its.toArray.size:Int)).toNat=j:=by
   rw[seqIndex_neg (by omega) h4] at h1;rw[Qo,<- hl];exact QS h1
  exact UW (x:=w) pl.isList.typeIs slot_list_getitem.lookup
   (wpAny_getItem_list_neg (Q:=λr s'=>r=w/\EP X pins σ Q r s') pl.isList (by omega) (by rw[Qo] <;> omega) (by omega) (by rw[hj];simpa using ew) ⟨rfl,fin⟩) hs
theorem ix_tup:IxR X (rIxT X.K):=by
 intro value slice pins s σ H x y v u Q I rx ry h hs;obtain⟨p,xs,i,z,rfl,rfl,hq,he,q⟩:=h;cases rx;obtain⟨t,rfl⟩:=ry;obtain⟨its,r,pl,hz⟩:=I.tuple hq;obtain⟨j,h1,h2,h3,h4,h5⟩:=zjj he;obtain⟨w,ew,rw'⟩:=r.get h2;have hl:=r.length;have hn:=zhl;have fin:EP X pins σ Q w s:=⟨z,H,I,rw',q⟩
 exact UW (x:=w) pl.typeIs slot_tuple_getitem.lookup
  (getItem_tuple (j:=j) (Q:=λr s'=>r=w/\EP X pins σ Q r s') pl (by omega) (by omega) (by rw[Qo,<- hl];exact h1) (by simpa using ew) ⟨rfl,fin⟩) hs
theorem z1d:IxR X rIxS:=by
 intro value slice pins s σ H x y v u Q I rx ry h hs;obtain⟨z,i,c,rfl,rfl,hz,he,q⟩:=h;obtain⟨t,rfl⟩:=rx;obtain⟨t',rfl⟩:=ry;obtain⟨j,h1,h2,h3,h4,h5⟩:=zjj he;have hl:z.cps.toList.length=z.length:=by simp[Str.length]
 rw[hl] at h1 h4 h5;have hn:=zhl
 exact tail_any (UY s z t) slot_str_getitem.lookup (getItem_str (c:=c) (by
  have e1:decide (i < -(2 ^ 63:Int))=false:=GU (by omega);have e2:decide (i ≥ 2 ^ 63)=false:=GU (by omega)
  rw[e1,e2,jv]) (by rw[h1];simpa using h2) ⟨.str ⟨#[c]⟩,H,I.tok _,⟨_,rfl⟩,q⟩) hs
def rIx(K:PySem.W.Frag):R2:=λx y H Q=>rIxL K x y H Q\/rIxT K x y H Q\/rIxS x y H Q
theorem z0x:IxR X (rIx X.K):=ix_list.or (ix_tup.or z1d)
theorem zmc(lo hi:Option Int)(n:Nat):(Um lo hi none n).1=((HT.sIx n 0 lo:Nat):Int)/\(Um lo hi none n).2.1=((HT.sIx n n hi:Nat):Int)/\(Um lo hi none n).2.2=1:=by
 refine⟨?_,?_,rfl⟩
 ·cases lo with
  | none=>simp[Um,HT.sIx]
  | some i =>
    simp only[Um,HT.sIx,YX,show(1:Int) > 0 by decide,Ta]
    by_cases h:i<0
    ·simp only[h,Ta] <;> omega
    ·simp only[h,GX] <;> omega
 ·cases hi with
  | none=>simp[Um,HT.sIx]
  | some i =>
    simp only[Um,HT.sIx,YX,show(1:Int) > 0 by decide,Ta]
    by_cases h:i<0
    ·simp only[h,Ta] <;> omega
    ·simp only[h,GX] <;> omega
theorem zkp(its:List Vb)(lo hi:Option Int):slicePick its.toArray lo hi none=((its.drop (HT.sIx its.length 0 lo)).take (HT.sIx its.length its.length hi - HT.sIx its.length 0 lo)).toArray:=by
 obtain⟨h1,h2,h3⟩:=zmc lo hi its.toArray.size;unfold slicePick;rw[h1,h2,h3];simp only[sliceRange_one,pick_run,Qo] <;> rfl
def rSlL(K:PySem.W.Frag):V->Option Int->Option Int->Hp->VK->Prop:=λx lo hi H Q=>∃ a xs,x = .ref a/\SqL K H a xs/\∀ p,H p=none->Q (.ref p) (upd H p (.lst (cutV xs lo hi)))
theorem sl_list:SlR X (rSlL X.K):=by
 intro pins s σ H x v vl vu lo hi sl Q I rx hs pl pu h;obtain⟨a,xs,rfl,hx,q⟩:=h;cases rx;obtain⟨its,r,ht,hz⟩:=I.list hx;have hlen:=r.length;refine⟨"list", _,slot_list_getitem.lookup,ht.isList.typeIs,?_⟩;refine wpAny_getItem_list_slice ht.isList hs pl pu .none (by simp) ?_ (by rw[Qo] <;> omega);rw[zkp,<- hlen];refine⟨.ref s.heap.objs.size,_,I.laid (t':=s.toks) (o := .lst (cutV xs lo hi)) (λb ob q=>Heap.get?_push_of_some _ q) (Qc _) ?_,rfl,q _ (I.hok.fresh (Qc _))⟩;exact⟨QH (zgl xs lo hi) hz,_,0,(r.drop (HT.sIx xs.length 0 lo)).take (HT.sIx xs.length xs.length hi - HT.sIx xs.length 0 lo),Heap.get?_push_size _ rfl⟩
theorem CallR.or{f:Vb}{r r':List V->Hp->VK->Prop}(h:CallR X f r)(h':CallR X f r'):CallR X f (λxs H Q=>r xs H Q\/r' xs H Q):=by
 intro pins s σ H xs us Q I rs q;rcases q with q|q
 ·exact h pins s σ H xs us Q I rs q
 ·exact h' pins s σ H xs us Q I rs q
theorem zlh:CallR X (.type "list") (λxs H Q=>∃ p ys,xs = [.ref p]/\(SqL X.K H p ys\/SqT X.K H p ys)/\∀ l,H l=none->Q (.ref l) (upd H l (.lst ys))):=by
 intro pins s σ H xs us Q I r h;obtain⟨p,ys,rfl,hq,q⟩:=h;obtain⟨u,rfl,rx⟩:=zkw r;cases rx
 have fin:∀ (its:List Vb),Vals ys its->ys.length<=sizeLine->∀ (h':Heap) (c':Nat),(∀ b o',s.heap.get? b=some o'->h'.get? b=some o') ->
  h'.get? s.heap.objs.size=some { cls := .type "list", dict:=none,data := .seq its.toArray c',slots:=#[] }->EP X pins σ Q (.ref s.heap.objs.size) { s with heap:=h' }:=λits r' hz h' c' kp e =>
  ⟨.ref s.heap.objs.size,_,I.laid (t':=s.toks) kp (Qc _) (show ObjOk X.prog X.w _ h' _ (.lst ys) from⟨hz,its,c',r',e⟩),rfl,q _ (I.hok.fresh (Qc _))⟩
 rcases hq with hq|hq
 ·obtain⟨its,r',pl,hz⟩:=I.list hq;have hlen:=r'.length;obtain⟨o,ho,hc,n,hd⟩:=pl.isList;exact call_list_seq p (.inl rfl) ho hc hd (λh' c' kp e=>fin its r' hz h' c' kp e) (by simp only[Qo] <;> omega)
 ·obtain⟨its,r',pl,hz⟩:=I.tuple hq;have hlen:=r'.length;obtain⟨o,ho,hc,n,hd⟩:=pl;exact call_list_seq p (.inr rfl) ho hc hd (λh' c' kp e=>fin its r' hz h' c' kp e) (by simp only[Qo] <;> omega)
def tyV(K:PySem.W.Frag)(T:String)(x:V)(H:Hp):Prop:=match x with
 | .str _=>T = "str"
 | .int _=>T = "int"
 | .ref p=>(T = "list" /\ ∃ xs,SqL K H p xs)\/(T = "tuple" /\ ∃ o,K.lookup p=some o/\o.cls = .type "tuple" /\ o.dict=none) \/
  (T = "dict" /\ ((∃ kvs,H p=some (.dK kvs))\/∃ kvs,H p=some (.dT kvs)))\/(T = "set" /\ ∃ S n,H p=some (.set S n))
 | _=>False
theorem zld{pins:List (Addr × Obj)}{σ:St}{H:Hp}{s:Vc}{T:String}{x:V}{v:Vb}(I:Inv X pins σ H s)(r:RelV x v)(ty:tyV X.K T x H) :
 s.TypeIs v T/\∀ a,v = .ref a->∃ ob,s.heap.get? a=some ob/\ob.dict=none:=by
 cases x with
 | str z =>
   obtain⟨t,rfl⟩:=r;cases (show T = "str" from ty);exact⟨UY s z t,λ_ e=>nomatch e⟩
 | int i =>
   obtain⟨t,rfl⟩:=r;cases (show T = "int" from ty);exact⟨UX s i t,λ_ e=>nomatch e⟩
 | ref p =>
   cases r;rcases ty with ⟨rfl,xs,hq⟩|⟨rfl,o,hk,hc,hd⟩|⟨rfl,hk⟩|⟨rfl,S,n,hk⟩
   ·obtain⟨its,_,pl,_⟩:=I.list hq;refine⟨pl.isList.typeIs,λa e=>?_⟩;cases e;obtain⟨o,n,e,c,hd,_⟩:=pl;exact⟨o,e,hd⟩
   ·refine⟨⟨o,I.kIn p o hk,hc⟩,λa e=>?_⟩;cases e;exact⟨o,I.kIn _ o hk,hd⟩
   ·have z:∃ o,s.heap.get? p=some o/\o.ExactDict:=by
     rcases hk with ⟨kvs,hk⟩|⟨kvs,hk⟩
     ·obtain⟨_,_,_,_,o,_,_,e,ex,_⟩:=I.hok p _ hk;exact⟨o,e,ex⟩
     ·obtain⟨_,_,_,_,o,_,_,e,ex,_⟩:=I.hok p _ hk;exact⟨o,e,ex⟩
    obtain⟨o,e,ex⟩:=z;refine⟨⟨o,e,ex.1⟩,λa e2=>?_⟩;cases e2;exact⟨o,e,ex.2.1⟩
   ·obtain⟨o,_,_,_,e,ex,_⟩:=I.hok p _ hk;refine⟨⟨o,e,ex.1⟩,λa e2=>?_⟩;cases e2;exact⟨o,e,ex.2.1⟩
 | _=>exact Z4 ty
def tBM0(K:PySem.W.Frag)(T:String)(r:V->List V->Hp->VK->Prop)(to:TE):TE:=λσ H Q=>to σ H λx H1=>tyV K T x H1/\r x [] H1 Q
def tBM(K:PySem.W.Frag)(T:String)(r:V->List V->Hp->VK->Prop)(to:TE)(t:TA):TE:=λσ H Q=>to σ H λx H1=>tyV K T x H1/\t σ H1 λxs H2=>r x xs H2 Q
variable {o e : Expr} {es : List Expr} {to : TE} {t : TA} {name : Str} {apos cpos : Pos} {T id : String} {r : V → List V → Hp → VK → Prop}
theorem zr3(pa:PlainAttrs T)(slot:Slot T name id)(hty:GC (.builtin id)=pure (.type "method_descriptor"))(hm:MtR X id r)(ho:PE X o to)
 (hbase:V3 o name X.env (eval o X.env)=eval o X.env:=by rfl) (hline:(apos.endLine == cpos.line)=true:=by rfl):PE X (.Call (.Attribute o name apos) [] [] cpos) (tBM0 X.K T r to):=by
 intro pins s σ H Q I h;refine UL hbase hline (thn (ho pins s σ H _ I h) λv s1 ⟨x,H1,I1,r1,ty,q1⟩=>?_);obtain⟨h1,h2⟩:=zld I1 r1 ty;exact⟨T,id,pa,slot,hty,h1,h2,Calls.callWith_builtin rfl (PySem.evalArgs_none (hm pins s1 σ H1 x [] v [] Q I1 r1 .nil q1))⟩
theorem zh4(pa:PlainAttrs T)(slot:Slot T name id)(hty:GC (.builtin id)=pure (.type "method_descriptor"))(hm:MtR X id r)(ho:PE X o to)(ha:PA X (e::es) t)
 (hbase:V3 o name X.env (eval o X.env)=eval o X.env:=by rfl)
 (hfew:((VU cpos (Vg (e::es) X.env)).all (λx=>!x.1) && (UI cpos (Uk [] X.env)).all (λx=>x.1.isSome)
  && decide ((e::es).length+([]:List Ua).length+(if([]:List Ua).isEmpty then 0 else 1)<30))=true:=by rfl)
 (hline:(apos.endLine == cpos.line)=true:=by rfl) (hs:Vg (e::es) X.env=(false,eval e X.env)::Vg es X.env:=by rfl) (hplain:(VU cpos (Vg es X.env)).any (·.1)=false:=by rfl) :
 PE X (.Call (.Attribute o name apos) (e::es) [] cpos) (tBM X.K T r to t):=by
 intro pins s σ H Q I h;refine UZ hbase hfew hline rfl (thn (ho pins s σ H _ I h) λv s1 ⟨x,H1,I1,r1,ty,q1⟩=>?_);obtain⟨h1,h2⟩:=zld I1 r1 ty;refine⟨T,id,pa,slot,hty,h1,h2,?_⟩;have hA:=ha cpos pins s1 σ H1 _ I1 q1;rw[hs] at hA ⊢;refine Calls.callWith_builtin (by show(false || (VU cpos (Vg es X.env)).any (·.1))=false;rw[hplain] <;> rfl) (Calls.evalArgs_plain ?_);exact thn hA λus s2 ⟨vs,H2,I2,r2,q2⟩=>hm pins s2 σ H2 x vs v us Q I2 r1 r2 q2
/- xs.append(e),list.index on a module's tuple .. are MtR facts of 06m -/
end
def MtM(X:Cx)(id:String)(r:V->List V->Hp->VK->Prop):Prop :=
 ∀ (pins:List (Addr × Obj)) (s:Vc) (σ:St) (H:Hp) (x:V) (xs:List V) (v:Vb) (us:List Vb) (Q:VK),Inv X pins σ H s->RelV x v->Vals xs us->r x xs H Q ->
   wpAny (model X.prog X.w) X.A (call (.builtin id) (v::us)) (EP X pins σ Q) X.xe s
theorem Vals.one:∀ {x:V} {us:List Vb},Vals [x] us->∃ u,us = [u]/\RelV x u
 | _,_,h=>by
   cases h with
   | cons r t=>cases t;exact⟨_,rfl,r⟩
theorem Vals.zero:∀ {us:List Vb},Vals [] us->us = []
 | _,.nil=>rfl
theorem Vals.dropLast{xs:List V}{us:List Vb}(h:Vals xs us):Vals xs.dropLast us.dropLast:=by
 induction h with
 | nil=>exact .nil
 | cons r t ih =>
   cases t with
   | nil=>exact .nil
   | cons q t'=>exact .cons r ih
theorem Vals.eraseIdx:∀ {xs:List V} {us:List Vb} (i:Nat),Vals xs us->Vals (xs.eraseIdx i) (us.eraseIdx i)
 | _,_,_,.nil => .nil
 | _,_,0,.cons _ t=>t
 | _,_,i+1,.cons r t => .cons r (Vals.eraseIdx i t)
theorem Vals.reverse{xs:List V}{us:List Vb}(h:Vals xs us):Vals xs.reverse us.reverse:=by
 induction h with
 | nil=>exact .nil
 | cons r t ih=>rw[YL,YL];exact Vals.append ih (.cons r .nil)
theorem Vals.rep{xs:List V}{us:List Vb}(h:Vals xs us):∀ k:Nat,Vals (Qh k xs).flatten (Qh k us).flatten
 | 0 => .nil
 | k+1=>by
   rw[Zf,Zf,Zt,Zt];exact Vals.append h (Vals.rep h k)
theorem zph{α:Type}(l:List α):l.eraseIdx (l.length - 1)=l.dropLast:=by
 induction l with
 | nil=>rfl
 | cons a r ih =>
   cases r with
   | nil=>rfl
   | cons b r =>
     have e:(a::b::r).length - 1=((b::r).length - 1)+1:=by
      have h1:(a::b::r).length=r.length+2:=rfl;have h2:(b::r).length=r.length+1:=rfl;omega
     rw[e,QW,ih]
     all_goals rfl
theorem zjs{α:Type}:∀ (l:List α) (i:Nat),(l.eraseIdx i).length<=l.length
 | [],_=>Qc _
 | _::_,0=>Z8 _
 | _::r,i+1=>Nat.succ_le_succ (zjs r i)
theorem zfu(its:List Vb):∀ (k:Nat) (acc:List Vb),
 Jy (λx1 x2=>x1++x2) acc.toArray (Qh k its.toArray)=(acc++(Qh k its).flatten).toArray
 | 0,acc=>by simp
 | k+1,acc=>by
   have e:acc.toArray++its.toArray=(acc++its).toArray:=by simp
   have e2:(acc++its)++(Qh k its).flatten=acc++(Qh (k+1) its).flatten:=by
    rw[Zf,Zt,Q3]
   rw[<- e2,<- zfu its k (acc++its),<- e,Zf,Z1]
section
variable {X : Cx} {pins : List (Addr × Obj)} {σ : St} {H : Hp} {s : Vc} {l b : Addr} {xs ys zs : List V}
theorem Inv.lset{its its':List Vb}{n:Nat}{f:Array Vb->Array Vb}{t':Nat}(I:Inv X pins σ H s)(hH:H l=some (.lst xs))
 (e:s.heap.get? l=some { cls := .type "list", data := .seq its.toArray n }) (hf:f its.toArray=its'.toArray) (hv:Vals ys its') (hz:ys.length<=sizeLine) :
 Inv X pins σ (upd H l (.lst ys)) { s with heap:=s.heap.update l (Obj.mapSeq f),toks:=t' }:=by
 have q:=PySem.IsL.update e f;rw[hf] at q;refine I.write (x:=l) (e:=l) (by rw[hH];exact trivial) (.inl rfl) (λb' u hb hu=>(Heap.get?_update_other s.heap (Obj.mapSeq f) (Zj hb)).trans hu) ⟨_,q⟩ ?_;exact⟨hz,its',_,hv,q⟩
theorem Inv.lnew{its:List Vb}{t':Nat}(I:Inv X pins σ H s)(hv:Vals ys its)(hz:ys.length<=sizeLine) :
 Inv X pins σ (upd H s.heap.objs.size (.lst ys)) { s with heap:=s.heap.push { cls := .type "list", data := .seq its.toArray },toks:=t' } :=
 I.laid (λ_ _ q=>Heap.get?_push_of_some _ q) (Qc _) ⟨hz,its,0,hv,Heap.get?_push_size _ rfl⟩
theorem Inv.fresh(I:Inv X pins σ H s):H s.heap.objs.size=none:=I.hok.fresh (Qc _)
theorem Inv.lstM(I:Inv X pins σ H s)(hH:H l=some (.lst xs)):xs.length<=sizeLine/\∃ (its:List Vb) (n:Nat),Vals xs its/\xs.length=its.length/\s.heap.get? l=some { cls := .type "list", data := .seq its.toArray n }:=by
 obtain⟨z,its,n,r,e⟩:=I.hok l _ hH;exact⟨z,its,n,r,r.length,e⟩
theorem zmd{n:Nat}(h:n<=sizeLine):Builtin.List.listTooLong n=false:=by
 unfold Builtin.List.listTooLong;exact GU (by omega)
end
section
variable {X : Cx}
def zf7:V->List V->Hp->VK->Prop:=λx vs H Q=>∃ l xs y,x = .ref l/\vs = [y]/\H l=some (.lst xs)/\xs.length<sizeLine/\Q .non (upd H l (.lst (xs ++ [y])))
theorem zfv:MtM X "list.append" zf7:=by
 intro pins s σ H x vs v us Q I rx rv h;obtain⟨l,xs,y,rfl,rfl,hH,hz,q⟩:=h;cases rx;obtain⟨u,rfl,ru⟩:=rv.one;obtain⟨z,its,n,r,hl,e⟩:=I.lstM hH;refine VJ F.slot_list_append ⟨_,e,rfl⟩ F.entry_list_append (F.args_list_append_2 _ _) (PySem.list_append l its.toArray n u (by rw[Qo];omega)) ⟨e,?_⟩;refine⟨.non,_,I.lset (its':=its ++ [u]) hH e (by simp) (r.append (.cons ru .nil)) ?_,rfl,q⟩;rw[Qj,QO];omega
def zem:V->List V->Hp->VK->Prop:=λx vs H Q=>∃ l b xs zs,x = .ref l/\vs = [.ref b]/\H l=some (.lst xs)/\H b=some (.lst zs)/\xs.length+zs.length<=sizeLine/\Q .non (upd H l (.lst (xs++zs)))
theorem zsf:MtM X "list.extend" zem:=by
 intro pins s σ H x vs v us Q I rx rv h;obtain⟨l,b,xs,zs,rfl,rfl,hH,hB,hz,q⟩:=h;cases rx;obtain⟨u,rfl,ru⟩:=rv.one;cases ru;obtain⟨z,its,n,r,hl,e⟩:=I.lstM hH;obtain⟨z2,its2,n2,r2,hl2,e2⟩:=I.lstM hB;have hsz:its.toArray.size+its2.toArray.size<=sizeLine:=by rw[Qo,Qo];omega
 have hlong:¬ (!its.toArray.isEmpty && Builtin.List.listTooLong (its.toArray.size+its2.toArray.size))=true:=by
  rw[zmd hsz,jp];exact Ql
 refine VJ F.slot_list_extend ⟨_,e,rfl⟩ F.entry_list_extend (F.args_list_extend_2 _ _)
  (AutoSeq1.list_extend_list_list_0 l its.toArray n b its2.toArray n2 hlong (by rw[Qo];omega) (by omega)) ⟨e,e2,?_⟩
 refine⟨.non,_,I.lset (its':=its++its2) hH e (by simp) (r.append r2) ?_,rfl,q⟩;rw[Qj];omega
def rPop:V->List V->Hp->VK->Prop:=λx vs H Q=>∃ l xs y,x = .ref l/\vs = []/\H l=some (.lst xs)/\xs[xs.length - 1]? = some y/\Q y (upd H l (.lst xs.dropLast))
theorem z1b:MtM X "list.pop" rPop:=by
 intro pins s σ H x vs v us Q I rx rv h;obtain⟨l,xs,y,rfl,rfl,hH,hy,q⟩:=h;cases rx;have hus:=rv.zero;subst hus;obtain⟨z,its,n,r,hl,e⟩:=I.lstM hH;obtain⟨u,hu,ru⟩:=r.get hy
 have hy':its.toArray[its.toArray.size - 1]? = some u:=by
  show its.toArray[its.length - 1]? = some u;rw[<- QA,<- hl];exact hu
 refine VJ F.slot_list_pop ⟨_,e,rfl⟩ F.entry_list_pop (F.args_list_pop_1 _) (MeetsSeq.list_pop_last l its.toArray n u hy' (by rw[Qo];omega)) ⟨e,?_⟩;refine⟨y,_,I.lset (its':=its.dropLast) hH e ?_ r.dropLast ?_,ru,q⟩
 ·show its.toArray.eraseIdxIfInBounds (its.toArray.size - 1)=its.dropLast.toArray;rw[Qo,Ju,zph]
 ·rw[List.length_dropLast];omega
def zig:V->List V->Hp->VK->Prop:=λx vs H Q=>∃ l xs i k y,x = .ref l/\vs = [.int i]/\H l=some (.lst xs)/\-(2 ^ 63)<=i/\i<2 ^ 63/\U6 i xs.length=some k/\xs[k]? = some y/\Q y (upd H l (.lst (xs.eraseIdx k)))
theorem zts:MtM X "list.pop" zig:=by
 intro pins s σ H x vs v us Q I rx rv h;obtain⟨l,xs,i,k,y,rfl,rfl,hH,h1,h2,hk,hy,q⟩:=h;cases rx;obtain⟨u,rfl,ru⟩:=rv.one;obtain⟨t,rfl⟩:=ru;obtain⟨z,its,n,r,hl,e⟩:=I.lstM hH;obtain⟨w,hw,rw'⟩:=r.get hy
 refine VJ F.slot_list_pop ⟨_,e,rfl⟩ F.entry_list_pop (F.args_list_pop_2 _ _)
  (MeetsSeq.list_pop_at l its.toArray n i t k w (fitsIndex_both h1 h2) (by rw[Qo,<- hl];exact hk) (by rw[<- QA];exact hw) (by rw[Qo];omega)) ⟨e,?_⟩
 refine⟨y,_,I.lset (its':=its.eraseIdx k) hH e ?_ (r.eraseIdx k) ?_,rw',q⟩
 ·show its.toArray.eraseIdxIfInBounds k=(its.eraseIdx k).toArray;rw[Ju]
 ·have:=zjs xs k;omega
def zih:V->List V->Hp->VK->Prop:=λx vs H Q=>∃ l xs,x = .ref l/\vs = []/\H l=some (.lst xs)/\Q .non (upd H l (.lst []))
theorem zu6:MtM X "list.clear" zih:=by
 intro pins s σ H x vs v us Q I rx rv h;obtain⟨l,xs,rfl,rfl,hH,q⟩:=h;cases rx;have hus:=rv.zero;subst hus;obtain⟨z,its,n,r,hl,e⟩:=I.lstM hH;refine VJ F.slot_list_clear ⟨_,e,rfl⟩ F.entry_list_clear (F.args_list_clear_1 _) (AutoSeq1.list_clear_list_0 l its.toArray n (by rw[Qo];omega)) ⟨e,?_⟩;exact⟨.non,_,I.lset (its' := []) (ys := []) hH e rfl .nil (Qw _),rfl,q⟩
def rCat:R2:=λx y H Q=>∃ l b xs zs,x = .ref l/\y = .ref b/\H l=some (.lst xs)/\H b=some (.lst zs)/\xs.length+zs.length<=sizeLine/\∀ p,H p=none->Q (.ref p) (upd H p (.lst (xs++zs)))
theorem op_cat:OpR X (binaryOp .Add) rCat:=by
 intro pins s σ H x y v u Q I rx ry h;obtain⟨l,b,xs,zs,rfl,rfl,hH,hB,hz,q⟩:=h;cases rx;cases ry;obtain⟨z,its,n,r,hl,e⟩:=I.lstM hH;obtain⟨z2,its2,n2,r2,hl2,e2⟩:=I.lstM hB;refine PySem.P.add_list e e2 ?_ (by rw[Qo,Qo];omega);have ea:its.toArray++its2.toArray=(its++its2).toArray:=by simp
 rw[ea];exact⟨.ref _,_,I.lnew (t':=s.toks) (r.append r2) (by rw[Qj];omega),rfl,q _ I.fresh⟩
def rRep:R2:=λx y H Q=>∃ l k xs,x = .ref l/\y = .int k/\H l=some (.lst xs)/\-(2 ^ 63)<=k/\k<2 ^ 63/\xs.length * k.toNat<=sizeLine /\
 ∀ p,H p=none->Q (.ref p) (upd H p (.lst (Qh k.toNat xs).flatten))
theorem zf4{α:Type}(xs:List α)(k:Nat):(Qh k xs).flatten.length=k * xs.length:=by
 induction k with
 | zero=>simp
 | succ k ih=>rw[Zf,Zt,Qj,ih,YM,Nat.add_comm]
theorem op_rep:OpR X (binaryOp .Mult) rRep:=by
 intro pins s σ H x y v u Q I rx ry h;obtain⟨l,k,xs,rfl,rfl,hH,h1,h2,hz,q⟩:=h;cases rx;obtain⟨t,rfl⟩:=ry;obtain⟨z,its,n,r,hl,e⟩:=I.lstM hH;have hlen:its.toArray.size * k.toNat<=sizeLine:=by rw[Qo,<- hl];exact hz
 have hcap:¬ its.toArray.size * k.toNat > (2 ^ 63 - 1) / 8:=by
  have:(sizeLine:Nat)<=(2 ^ 63 - 1) / 8:=by decide
  omega
 have hfit:¬ (!Builtin.List.listFitsIndex k)=true:=by
  rw[fitsIndex_both h1 h2];exact Ql
 have hlong:¬ Builtin.List.listTooLong (its.toArray.size * k.toNat)=true:=by
  rw[zmd hlen];exact Ql
 have hnew:Jy (λx1 x2=>x1++x2) #[] (Qh (if its.toArray.isEmpty=true then 0 else k.toNat) its.toArray)=(Qh k.toNat its).flatten.toArray:=by
  have f0:∀ m:Nat,Jy (λx1 x2=>x1++x2) #[] (Qh m its.toArray)=(Qh m its).flatten.toArray:=λm=>by
   have:=zfu its m [];rw[ZJ] at this;exact this
  rw[f0]
  cases its with
  | nil=>simp
  | cons a r'=>rw[GT (by simp)]
 refine UD (T := "list") (U := "int") (by decide) ⟨_,e,rfl⟩ (λs'=>UX s' k t) noFill_list_mul F.fills_int_mul F.slot_int_rmul repeat_list F.slot_int_index.lookup
  (VJ F.slot_int_rmul (UX s k t) F.entry_int_rmul (F.args_int_rmul_2 _ _) (int___rmul___int_list k t l its.toArray n)
   ⟨e,rfl,⟨_,e,rfl⟩,VJ F.slot_list_mul ⟨_,e,rfl⟩ F.entry_list_mul (F.args_list_mul_2 _ _) (AutoListH.list___mul___list_int_3 l its.toArray n k t hfit hcap hlong) ⟨e,?_⟩⟩)
 rw[hnew];exact⟨.ref _,_,I.lnew (t':=s.toks) (r.rep k.toNat) (by rw[zf4,Yg];exact hz),rfl,q _ I.fresh⟩
end
section
variable {κ : Type} [DecidableEq κ]
def valV(kvs:List (κ × V))(k:κ):Option V:=(kvs.find? λkv=>decide (kv.1=k)).map (·.2)
def putK(kvs:List (κ × V))(k:κ)(v:V):List (κ × V) :=
 if(kvs.any λkv=>decide (kv.1=k))=true then kvs.map (λkv=>if kv.1=k then(kv.1,v) else kv) else kvs ++ [(k,v)]
theorem zgu{p:κ × V}{r:List (κ × V)}{k:κ}(e:p.1=k):valV (p::r) k=some p.2:=by simp[valV,Z2,e]
theorem zgr{p:κ × V}{r:List (κ × V)}{k:κ}(e:¬ p.1=k):valV (p::r) k=valV r k:=by simp[valV,Z2,e]
theorem zds(k:κ):∀ kvs:List (κ × V),(kvs.any λkv=>decide (kv.1=k))=(valV kvs k).isSome
 | []=>rfl
 | p::r=>by
   rw[Y8]
   by_cases e:p.1=k
   ·simp only[zgu e,GW e,Bool.true_or,YC]
   ·rw[zgr e,GU e,Bool.false_or];exact zds k r
theorem zcx(kvs:List (κ × V))(k:κ)(v:V):(putK kvs k v).length<=kvs.length+1:=by
 unfold putK
 split
 ·rw[Qe];omega
 ·rw[Qj,Qf,Zn];omega
theorem RelO.isSome_eq{o:Option V}{u:Option Vb}(r:RelO o u):o.isSome=u.isSome:=by
 cases o with
 | none=>cases u with
   | none=>rfl
   | some _=>exact(show False from r).elim
 | some _=>cases u with
   | none=>exact(show False from r).elim
   | some _=>rfl
theorem KV.val{kvs:List (κ × V)}{vs:List (κ × Vb)}(r:KV kvs vs)(k:κ):RelO (valV kvs k) (Gx vs k):=by
 unfold KV at r
 induction r with
 | nil=>exact ZY
 | @cons p q ps qs h t ih =>
   obtain⟨h1,h2⟩:=h
   by_cases e:p.1=k
   ·have e':q.1=k:=h1.symm.trans e;have b:Gx (q::qs) k=some q.2:=by simp[Gx,Z2,e']
    rw[zgu e,b];exact h2
   ·have e':¬ q.1=k:=λz=>e (h1.trans z);have b:Gx (q::qs) k=Gx qs k:=by simp[Gx,Z2,e']
    rw[zgr e,b];exact ih
theorem KV.any{kvs:List (κ × V)}{vs:List (κ × Vb)}(r:KV kvs vs)(k:κ):(kvs.any λkv=>decide (kv.1=k))=vs.any λkv=>decide (kv.1=k):=by
 unfold KV at r
 induction r with
 | nil=>rfl
 | cons h t ih=>rw[Y8,Y8,ih,h.1]
theorem KV.repl{kvs:List (κ × V)}{vs:List (κ × Vb)}(r:KV kvs vs)(k:κ){y:V}{u:Vb}(ry:RelV y u) :
 KV (kvs.map λkv=>if kv.1=k then(kv.1,y) else kv) (vs.map λkv=>if kv.1=k then(kv.1,u) else kv):=by
 unfold KV at r ⊢
 induction r with
 | nil=>exact .nil
 | @cons p q ps qs h t ih =>
   rw[Qn,Qn];refine .cons ?_ ih;obtain⟨h1,h2⟩:=h
   by_cases e:p.1=k
   ·rw[GQ e,GQ (h1.symm.trans e)];exact⟨h1,ry⟩
   ·rw[GT e,GT (λz=>e (h1.trans z))];exact⟨h1,h2⟩
theorem KV.put{kvs:List (κ × V)}{vs:List (κ × Vb)}(r:KV kvs vs)(k:κ){y:V}{u:Vb}(ry:RelV y u):KV (putK kvs k y) (stored vs k u):=by
 unfold putK stored;rw[r.any k]
 by_cases e:(vs.any λkv=>decide (kv.1=k))=true
 ·rw[GQ e,GQ e];exact r.repl k ry
 ·rw[GT e,GT e];exact Paired.snoc r ⟨rfl,ry⟩
theorem KV.length{kvs:List (κ × V)}{vs:List (κ × Vb)}(r:KV kvs vs):kvs.length=vs.length:=Paired.length r
end
theorem zhh{P:Vf}{w:Vk}{k:Key}{u:Vb}(r:RelV (kV k) u):(mixKind P w).is k u=true:=by
 cases k with
 | inl i=>obtain⟨t,e⟩:=(show ∃ t,u=Value.int i t from r);subst e;exact zm2 P w i t
 | inr x=>obtain⟨t,e⟩:=(show ∃ t,u=Value.str x t from r);subst e;exact zm7 P w x t
theorem zj4{P:Vf}{w:Vk}:∀ {ks:List Key} {us:List Vb},Vals (ks.map kV) us->ItemsAre (mixKind P w) ks us
 | [],_,r=>by rw[YN] at r;cases r;exact .nil
 | k::ks,_,r=>by
   rw[Qn] at r
   cases r with
   | cons h t=>exact .cons (zhh h) (zj4 t)
abbrev KT(H:Hp):List (List Key × V)->List (List Key × Addr × Vb)->Prop:=G2 λp q=>p.1=q.1/\H q.2.1=some (.tup (p.1.map kV))/\RelV p.2 q.2.2
theorem KT.val{H:Hp}{kvs:List (List Key × V)}{xs:List (List Key × Addr × Vb)}(r:KT H kvs xs)(k:List Key):RelO (valV kvs k) ((Gc xs k).map (·.2)):=by
 induction r with
 | nil=>exact ZY
 | @cons p q ps qs h t ih =>
   obtain⟨h1,_,h2⟩:=h
   by_cases e:p.1=k
   ·have e':q.1=k:=h1.symm.trans e;have b:Gc (q::qs) k=some q.2:=by simp[Gc,Z2,e']
    rw[zgu e,b];exact h2
   ·have e':¬ q.1=k:=λz=>e (h1.trans z);have b:Gc (q::qs) k=Gc qs k:=by simp[Gc,Z2,e']
    rw[zgr e,b];exact ih
theorem KT.repl{H:Hp}{kvs:List (List Key × V)}{xs:List (List Key × Addr × Vb)}(r:KT H kvs xs)(k:List Key){y:V}{u:Vb}(ry:RelV y u) :
 KT H (kvs.map λkv=>if kv.1=k then(kv.1,y) else kv) (xs.map (putAt k u)):=by
 induction r with
 | nil=>exact .nil
 | @cons p q ps qs h t ih =>
   rw[Qn,Qn];refine .cons ?_ ih;obtain⟨h1,h2,h3⟩:=h;unfold putAt
   by_cases e:p.1=k
   ·rw[GQ e,GQ (h1.symm.trans e)];exact⟨h1,h2,ry⟩
   ·rw[GT e,GT (λz=>e (h1.trans z))];exact⟨h1,h2,h3⟩
theorem KT.put{H:Hp}{kvs:List (List Key × V)}{xs:List (List Key × Addr × Vb)}(r:KT H kvs xs)(k:List Key){b:Addr}{y:V}{u:Vb}(hb:H b=some (.tup (k.map kV)))(ry:RelV y u) :
 KT H (putK kvs k y) (storedH xs k b u):=by
 have e:(kvs.any λkv=>decide (kv.1=k))=(Gc xs k).isSome:=by
  rw[zds,(r.val k).isSome_eq,YO]
 unfold putK storedH;rw[e]
 by_cases q:(Gc xs k).isSome=true
 ·rw[GQ q,GQ q];exact r.repl k ry
 ·rw[GT q,GT q];exact Paired.snoc r ⟨rfl,hb,ry⟩
theorem KT.keeps{H H':Hp}{kvs:List (List Key × V)}{xs:List (List Key × Addr × Vb)}(r:KT H kvs xs)(ht:∀ b ys,H b=some (.tup ys)->H' b=some (.tup ys)):KT H' kvs xs :=
 Paired.mapP r λ_ _ z=>⟨z.1,ht _ _ z.2.1,z.2.2⟩
section
variable {P : Vf} {w : Vk} {H : Hp} {h : Heap} {a : Addr}
theorem zv7{u:HO}(ok:HOk P w H h)(e:Rd H a u):ObjOk P w H h a u:=e.ok ok
theorem zh5{kvs:List (Key × V)}(ok:HOk P w H h)(e:Rd H a (.dK kvs)):kvs.length<=sizeLine/\(a == V8)=false/\∃ vs,KV kvs vs/\h.DictOf (mixKind P w) a vs :=
 show ObjOk P w H h a (.dK kvs) from zv7 ok e
theorem zwb{kvs:List (Key × V)}(ok:HOk P w H h)(e:H a=some (.dK kvs)):kvs.length<=sizeLine/\(a == V8)=false/\∃ vs,KV kvs vs/\h.DictOf (mixKind P w) a vs:=zh5 ok (.inl e)
theorem zdi{ks:List Key}(ok:HOk P w H h)(e:H a=some (.tup (ks.map kV))):(tupleKind (mixKind P w)).is h ks a:=by
 obtain⟨_,its,r,o,h1,h2,n,h3⟩:=(show ObjOk P w H h a (.tup (ks.map kV)) from ok a _ e);exact⟨o,its.toArray,n,h1,h2,h3,by simpa using zj4 r⟩
theorem zhy{kvs:List (List Key × V)}(ok:HOk P w H h)(e:Rd H a (.dT kvs)):kvs.length<=sizeLine/\(a == V8)=false /\
 ∃ xs,KT H kvs xs/\h.DictOfH (tupleKind (mixKind P w)) a xs:=by
 obtain⟨z,y,xs,r,o,es,ep,h1,h2,h3,h4,h5⟩:=(show ObjOk P w H h a (.dT kvs) from zv7 ok e);refine⟨z,y,xs,r,o,es,ep,h1,h2,h3,h4,λx hx=>?_,h5⟩
 have all:∀ {l:List (List Key × V)} {m:List (List Key × Addr × Vb)},KT H l m->∀ x ∈ m,(tupleKind (mixKind P w)).is h x.1 x.2.1:=by
  intro l m q
  induction q with
  | nil=>intro x hx;exact nomatch hx
  | @cons p q ps qs hq t ih =>
    intro x hx;rcases Qs.mp hx with e|hx
    ·subst e;exact zdi ok (by rw[<- hq.1];exact hq.2.1)
    ·exact ih x hx
 exact all r x hx
theorem zky{kvs:List (List Key × V)}(ok:HOk P w H h)(e:H a=some (.dT kvs)):kvs.length<=sizeLine/\(a == V8)=false /\
 ∃ xs,KT H kvs xs/\h.DictOfH (tupleKind (mixKind P w)) a xs:=zhy ok (.inl e)
end
def DGet(H:Hp)(a:Addr)(y:V)(r:Option V):Prop :=
 (∃ kvs k,Rd H a (.dK kvs)/\y=kV k/\r=valV kvs k)\/∃ kvs k b,Rd H a (.dT kvs)/\y = .ref b/\H b=some (.tup (k.map kV))/\r=valV kvs k
def DPut(H:Hp)(a:Addr)(y v:V)(H':Hp):Prop :=
 (∃ kvs k,H a=some (.dK kvs)/\y=kV k/\kvs.length<sizeLine/\H'=upd H a (.dK (putK kvs k v))) \/
 ∃ kvs k b,H a=some (.dT kvs)/\y = .ref b/\H b=some (.tup (k.map kV))/\kvs.length<sizeLine/\H'=upd H a (.dT (putK kvs k v))
theorem DGet.k{H:Hp}{a:Addr}{kvs:List (Key × V)}{k:Key}(e:H a=some (.dK kvs)):DGet H a (kV k) (valV kvs k) := .inl ⟨kvs,k,.inl e,rfl,rfl⟩
theorem DGet.t{H:Hp}{a b:Addr}{kvs:List (List Key × V)}{k:List Key}(e:H a=some (.dT kvs))(eb:H b=some (.tup (k.map kV))):DGet H a (.ref b) (valV kvs k) := .inr ⟨kvs,k,b,.inl e,rfl,eb,rfl⟩
theorem DPut.k{H:Hp}{a:Addr}{kvs:List (Key × V)}{k:Key}{v:V}(e:H a=some (.dK kvs))(hl:kvs.length<sizeLine):DPut H a (kV k) v (upd H a (.dK (putK kvs k v))) := .inl ⟨kvs,k,e,rfl,hl,rfl⟩
theorem DPut.t{H:Hp}{a b:Addr}{kvs:List (List Key × V)}{k:List Key}{v:V}(e:H a=some (.dT kvs))(eb:H b=some (.tup (k.map kV)))(hl:kvs.length<sizeLine) :
 DPut H a (.ref b) v (upd H a (.dT (putK kvs k v))) := .inr ⟨kvs,k,b,e,rfl,eb,hl,rfl⟩
section
variable {X : Cx} {pins : List (Addr × Obj)} {σ : St} {H : Hp} {s : Vc} {a : Addr} {y v : V} {u r : Vb} {o : Option V} {A : Vl} {E : Vb → Vc → Prop}
theorem Inv.big(I:Inv X pins σ H s):V8<s.heap.objs.size:=by
 have h:mainGlobals<s.heap.objs.size:=(I.mod.glob.keeps I.bk).lt;exact ZT (by decide) h
theorem zsy{Q:Vb->Vc->Prop}(hu:A.units+1<cLine)(I:Inv X pins σ H s)(g:DGet H a y (some v))(ry:RelV y u)(h:∀ w' s',Inv X pins σ H s'->RelV v w'->Q w' s') :
 wpAny (model X.prog X.w) A (Ux (.ref a) u) Q E s:=by
 rcases g with ⟨kvs,k,e,ey,l⟩|⟨kvs,k,b,e,ey,eb,l⟩
 ·subst ey;obtain⟨z,hd,vs,rel,dd⟩:=zh5 I.hok e;obtain⟨w',hw,rw'⟩:=RelO.some_of (v:=v) (o:=Gx vs k) (by rw[l];exact rel.val k);exact wpAny_getItem_of (zhh ry) dd.mapOf hw (h w' _ (I.tok _) rw')
 ·subst ey;cases (show u=Value.ref b from ry);obtain⟨z,hd,xs,rel,dd⟩:=zhy I.hok e;obtain⟨w',hw,rw'⟩:=RelO.some_of (v:=v) (o:=(Gc xs k).map (·.2)) (by rw[l];exact rel.val k);obtain⟨p,hp,hp2⟩:=Q0.mp hw;refine wpAny_getItem_heap (Ui hu) (zdi I.hok eb) dd hp ?_;rw[hp2];exact h w' _ (I.tok _) rw'
theorem zw8{Q:Vb->Vc->Prop}(hu:A.units+1<cLine)(I:Inv X pins σ H s)(g:DGet H a y o)(ry:RelV y u)(h:∀ s',Inv X pins σ H s'->Q (.bool (!o.isSome)) s') :
 wpAny (model X.prog X.w) A (VG .NotIn u (.ref a)) Q E s:=by
 rcases g with ⟨kvs,k,e,ey,l⟩|⟨kvs,k,b,e,ey,eb,l⟩
 ·subst ey;obtain⟨z,hd,vs,rel,dd⟩:=zh5 I.hok e;refine wpAny_notIn_of (zhh ry) hd dd.mapOf ?_;rw[<- (rel.val k).isSome_eq,<- l];exact h _ (I.tok _)
 ·subst ey;cases (show u=Value.ref b from ry);obtain⟨z,hd,xs,rel,dd⟩:=zhy I.hok e;refine wpAny_notIn_heap (Ui hu) (zdi I.hok eb) hd dd ?_;have q:=(rel.val k).isSome_eq;rw[YO] at q;rw[<- q,<- l];exact h _ (I.tok _)
theorem zd7{h':Heap}{t':Nat}{ob:HO}(I:Inv X pins σ H s)(mu:Mut (H a))(hs:Heap.SameBut a s.heap h')(he:∃ q,h'.get? a=some q)(new:ObjOk X.prog X.w (upd H a ob) h' a ob) :
 Inv X pins σ (upd H a ob) { s with heap:=h',toks:=t' } :=
 I.write (x:=a) (e:=a) mu (.inl rfl) (λb q hb z=>(hs.2 b hb).trans z) he new
theorem zsq{P:Vf}{w:Vk}{H':Hp}{h':Heap}{kvs:List (Key × V)}{vs:List (Key × Vb)}(z:kvs.length<=sizeLine)(hd:(a == V8)=false)(rel:KV kvs vs)(dd:h'.DictOf (mixKind P w) a vs) :
 ObjOk P w H' h' a (.dK kvs):=⟨z,hd,vs,rel,dd⟩
theorem zrn{H':Hp}{Q:Unit->Vc->Prop}(hu:A.units+1<cLine)(I:Inv X pins σ H s)(g:DPut H a y v H')(ry:RelV y u)(rv:RelV v r)(h:∀ s',Inv X pins σ H' s'->Q () s') :
 wpAny (model X.prog X.w) A (setItem (.ref a) u r) Q E s:=by
 rcases g with ⟨kvs,k,e,ey,l,eH⟩|⟨kvs,k,b,e,ey,eb,l,eH⟩
 ·subst ey eH;obtain⟨z,hd,vs,rel,dd⟩:=zwb I.hok e;have hz:vs.length<=sizeLine:=by rw[<- rel.length];exact z
  have hl:(putK kvs k v).length<=sizeLine:=by have:=zcx kvs k v;omega
  refine wpAny_setItem_pairs (hsz:=hz) (zhh ry) dd λh' dd' hs=>h _ ?_;have he:∃ q,h'.get? a=some q:=let ⟨q,_,_,hq,_⟩:=dd'; ⟨q,hq⟩
  exact zd7 I (by rw[e];exact ZY) hs he (zsq hl hd (rel.put k rv) dd')
 ·subst ey eH;cases (show u=Value.ref b from ry);obtain⟨z,hd,xs,rel,dd⟩:=zky I.hok e;have hz:xs.length<=sizeLine:=by rw[<- Paired.length rel];exact z
  have hl:(putK kvs k v).length<=sizeLine:=by have:=zcx kvs k v;omega
  refine wpAny_setItem_heap (hsz:=hz) (Ui hu) (zdi I.hok eb) dd λh' dd' hs=>h _ ?_;obtain⟨q,es,ep,hq,h2,h3,h4,_,h5⟩:=dd';refine zd7 I (by rw[e];exact ZY) hs ⟨q,hq⟩ ⟨hl,hd,_,(rel.put k eb rv).keeps λc ys ec=>?_,q,es,ep,hq,h2,h3,h4,h5⟩;rw[zaa (zo7 ec e (λz=>nomatch z))];exact ec
end
def NoSl(i:Expr):Prop:=∀ ov iv,subscripted i false ov iv=operate [ov,iv] (Ux ov iv)
theorem zyu{prog:Vf}{w:Vk}{A:Vl}{E:Vb->Vc->Prop}{s:Vc}{env:Env}{value slice:Expr}{pos:Pos}{T id:String}{Q:Vb->Vc->Prop}
 (hl:Uj (.type T) "__getitem__" = pure (some (.builtin id))) (hs:NoSl slice)
 (h:wpAny (model prog w) A (eval value env) (λo s₁=>wpAny (model prog w) A (eval slice env) (λi s₂=>s₂.TypeIs o T/\wpAny (model prog w) A (Ux o i) Q E s₂) E s₁) E s) :
 wpAny (model prog w) A (eval (.Subscript value slice pos) env) Q E s:=by
 refine Subscript_ (V0 h (λo s₁ h₁=>V0 h₁ (λi s₂ h₂=>?_) λ_ _ x=>x) λ_ _ x=>x);obtain⟨hT,h₂⟩:=h₂;unfold G0;refine Va ?_;rw[getitemInPython_of_ne hT.not_modules];refine Va (VL hT hl ?_)
 have fin:wpAny (model prog w) A (subscripted slice false o i) (λr s₃=>wpAny (model prog w) A (letTemporaryGo value o r >>= λ_=>pure r) Q E s₃) E s₂:=by
  rw[hs o i];exact wpAny_operating (V0 h₂ (λr s₃ h₃=>Va (wpAny_letTemporaryGo (Vd h₃))) λ_ _ x=>x)
 first
  | exact Vd (Va fin)
  | exact Va (Vd (Va fin))
  | exact Va fin
theorem zmu{X:Cx}{pins:List (Addr × Obj)}{σ:St}{H:Hp}{s:Vc}{a:Addr}{y:V}{o:Option V}(I:Inv X pins σ H s)(g:DGet H a y o):s.TypeIs (.ref a) "dict" := by
 rcases g with ⟨kvs,k,e,_,_⟩|⟨kvs,k,b,e,_,_,_⟩
 ·obtain⟨_,_,vs,_,dd⟩:=zh5 I.hok e;exact dd.typeIs
 ·obtain⟨_,_,xs,_,dd⟩:=zhy I.hok e;exact dd.typeIs
def zkz(td ty:TE):TE:=λσ H Q=>td σ H λx H1=>ty σ H1 λy H2=>∃ a v,x = .ref a/\DGet H2 a y (some v)/\Q v H2
def znf(ty td:TE):TE:=λσ H Q=>ty σ H λy H1=>td σ H1 λx H2=>∃ a o,x = .ref a/\DGet H2 a y o/\Q (.bl (!o.isSome)) H2
def zf8(td ty tv:TE):TS:=λD σ H=>tv σ H λv H1=>td σ H1 λx H2=>ty σ H2 λy H3=>∃ a H4,x = .ref a/\DPut H3 a y v H4/\D.nx σ H4
section
variable {X : Cx} {o i e value : Expr} {pos pos' tpos : Pos} {td ty tv : TE}
theorem zb1(hu:X.A.units+1<cLine)(ho:PE X o td)(hi:PE X i ty)(hs:NoSl i):PE X (.Subscript o i pos) (zkz td ty):=by
 intro pins s σ H Q I h;refine zyu PySem.F.slot_dict_getitem.lookup hs (thn (ho pins s σ H _ I h) λu s1 ⟨x,H1,I1,rx,q1⟩=>thn (hi pins s1 σ H1 _ I1 q1) λiv s2 ⟨y,H2,I2,ry,a,v,ex,g,q2⟩=>?_);subst ex;obtain rfl:u=Value.ref a:=rx;exact⟨zmu I2 g,zsy hu I2 g ry λw' s3 I3 rw'=>⟨v,H2,I3,rw',q2⟩⟩
theorem zs4(hu:X.A.units+1<cLine)(hi:PE X i ty)(ho:PE X o td):PC X .NotIn i o (znf ty td):=by
 intro pins s σ H Q I h;refine thn (hi pins s σ H _ I h) λiv s1 ⟨y,H1,I1,ry,q1⟩=>thn (ho pins s1 σ H1 _ I1 q1) λu s2 ⟨x,H2,I2,rx,a,ov,ex,g,q2⟩=>?_;subst ex;obtain rfl:u=Value.ref a:=rx;exact zw8 hu I2 g ry λs3 I3=>⟨.bl (!ov.isSome),H2,I3,rfl,q2⟩
theorem zeg(hu:X.A.units+1<cLine)(ho:PE X o td)(hi:PE X i ty)(hv:PE X value tv)(hs:VH value (some (.Subscript o i pos')) pos.line X.env=pure false) :
 PS X (.Assign [.Subscript o i pos'] value pos) (zf8 td ty tv):=by
 intro pins s σ H D I h;refine wpAny_Assign_Subscript (thn (hv pins s σ H _ I h) λr s1 ⟨v,H1,I1,rv,q1⟩=>thn (ho pins s1 σ H1 _ I1 q1) λu s2 ⟨x,H2,I2,rx,q2⟩=>thn (hi pins s2 σ H2 _ I2 q2) λiv s3 ⟨y,H3,I3,ry,a,H4,ex,g,q3⟩=>?_) hs;subst ex;obtain rfl:u=Value.ref a:=rx;exact zrn hu I3 g ry rv λs4 I4=>⟨σ,H4,I4,q3⟩
end
theorem zlx{P:Vf}{w:Vk}{H:Hp}(h:Heap)(hb:V8<h.objs.size):ObjOk P w H (h.push { cls := .type "dict", data := .dict #[] }) h.objs.size (.dK []) :=
 ⟨Qw _,beq_eq_false_iff_ne.mpr (Zj (Qm hb)),[],.nil,Heap.DictOf.new h⟩
theorem zk4{P:Vf}{w:Vk}{H:Hp}(h:Heap)(hb:V8<h.objs.size):ObjOk P w H (h.push { cls := .type "dict", data := .dict #[] }) h.objs.size (.dT []) :=
 ⟨Qw _,beq_eq_false_iff_ne.mpr (Zj (Qm hb)),[],.nil,_,#[],0,Heap.get?_push_size _ rfl,⟨rfl,rfl,rfl⟩,rfl,rfl,List.nodup_nil⟩
def zs2:TE:=λ_ H Q=>∀ p,H p=none->Q (.ref p) (upd H p (.dK []))
def zr9:TE:=λ_ H Q=>∀ p,H p=none->Q (.ref p) (upd H p (.dT []))
section
variable {X : Cx} {pos : Pos}
theorem zu2:PE X (.Dict [] [] pos) zs2:=λpins s σ H Q I h =>
 wpAny_Dict_empty ⟨.ref s.heap.objs.size,_,I.laid (a:=s.heap.objs.size) (o := .dK []) (t':=s.toks) (λ_ _ q=>Heap.get?_push_of_some _ q) (Qc _) (zlx s.heap I.big),rfl,h _ (I.hok.fresh (Qc _))⟩
theorem ztz:PE X (.Dict [] [] pos) zr9:=λpins s σ H Q I h =>
 wpAny_Dict_empty ⟨.ref s.heap.objs.size,_,I.laid (a:=s.heap.objs.size) (o := .dT []) (t':=s.toks) (λ_ _ q=>Heap.get?_push_of_some _ q) (Qc _) (zk4 s.heap I.big),rfl,h _ (I.hok.fresh (Qc _))⟩
end
def zlc:List (TE × TE)->St->Hp->(List (V × V)->Hp->Prop)->Prop
 | [],_,H,Q=>Q [] H
 | (tk,tv)::r,σ,H,Q=>tk σ H λx H1=>tv σ H1 λy H2=>zlc r σ H2 λps H3=>Q ((x,y)::ps) H3
abbrev VV:List (V × V)->List (Vb × Vb)->Prop:=G2 λp q=>RelV p.1 q.1/\RelV p.2 q.2
def PPs(X:Cx)(pos:Pos)(keys:List (Option Expr))(values:List Expr)(trs:List (TE × TE)):Prop :=
 ∀ (pins:List (Addr × Obj)) (s:Vc) (σ:St) (H:Hp) (Q:List (V × V)->Hp->Prop),Inv X pins σ H s->zlc trs σ H Q ->
   wpAny (model X.prog X.w) X.A (evalPairs (pairTrees keys values X.env pos)) (λvs s'=>∃ ps H',Inv X pins σ H' s'/\VV ps vs/\Q ps H') X.xe s
theorem zxr{X:Cx}{pos:Pos}:PPs X pos [] [] []:=λpins s σ H Q I h=>pairTrees_nil_walk ⟨[],H,I,.nil,h⟩
theorem zgx{X:Cx}{pos:Pos}{k v:Expr}{ks:List (Option Expr)}{vs:List Expr}{tk tv:TE}{trs:List (TE × TE)}(hk:PE X k tk)(hv:PE X v tv)(hr:PPs X pos ks vs trs) :
 PPs X pos (some k::ks) (v::vs) ((tk,tv)::trs):=λpins s σ H Q I h =>
 pairTrees_cons_walk (thn (hk pins s σ H _ I h) λu s1 ⟨x,H1,I1,rx,q1⟩=>thn (hv pins s1 σ H1 _ I1 q1) λw2 s2 ⟨y,H2,I2,ry,q2⟩ =>
  thn (hr pins s2 σ H2 _ I2 q2) λws s3 ⟨ps,H3,I3,rel,q3⟩=>⟨(x,y)::ps,H3,I3,.cons ⟨rx,ry⟩ rel,q3⟩)
def zdt(kvs more:List (Key × V)):List (Key × V):=more.foldl (λacc kv=>putK acc kv.1 kv.2) kvs
theorem KV.merge:∀ {more:List (Key × V)} {rs:List (Key × Vb)} {kvs:List (Key × V)} {vs:List (Key × Vb)},KV more rs->KV kvs vs->KV (zdt kvs more) (merged vs rs):=by
 intro more rs kvs vs r;unfold KV at r
 induction r generalizing kvs vs with
 | nil=>intro q;exact q
 | @cons p q ps qs h t ih =>
   intro r0
   have e:KV (putK kvs p.1 p.2) (stored vs q.1 q.2):=by
    have:=r0.put p.1 h.2;rw[<- h.1];exact this
   exact ih e
theorem zff:∀ (more kvs:List (Key × V)),(zdt kvs more).length<=kvs.length+more.length
 | [],kvs=>by show kvs.length<=kvs.length+0;omega
 | p::r,kvs=>by
   have h1:=zff r (putK kvs p.1 p.2);have h2:=zcx kvs p.1 p.2;show(zdt (putK kvs p.1 p.2) r).length<=_;rw[Qf];omega
theorem zhq{P:Vf}{w:Vk}:∀ {kvs:List (Key × V)} {ws:List (Vb × Vb)},VV (kvs.map λkv=>(kV kv.1,kv.2)) ws->∃ rs,Carries (mixKind P w) ws rs/\KV kvs rs
 | [],_,r=>by rw[YN] at r;cases r;exact⟨[],ZY,.nil⟩
 | p::kvs,_,r=>by
   rw[Qn] at r
   cases r with
   | @cons a b as bs h t =>
     obtain⟨rs,c,q⟩:=zhq (P:=P) (w:=w) t;obtain⟨b1,b2⟩:=b;exact⟨(p.1,b2)::rs,⟨zhh h.1,rfl,c⟩,.cons ⟨rfl,h.2⟩ q⟩
def zv6(trs:List (TE × TE)):TE:=λσ H Q=>∀ p,H p=none->zlc trs σ (upd H p (.dK [])) λps H2=>H2 p=some (.dK [])/\∃ kvs:List (Key × V),ps=kvs.map (λkv=>(kV kv.1,kv.2))/\kvs.length<=15/\Q (.ref p) (upd H2 p (.dK (zdt [] kvs)))
theorem zx2{X:Cx}{pos:Pos}{keys:List (Option Expr)}{values:List Expr}{trs:List (TE × TE)}(h:PPs X pos keys values trs)(hall:keys.all (·.isSome)=true)(hl:keys.length=values.length)(h0:keys ≠ [])
 (h15:keys.length<=15):PE X (.Dict keys values pos) (zv6 trs):=by
 intro pins s σ H Q I q;have hn:=I.hok.fresh (Qc s.heap.objs.size);have I1:=I.laid (a:=s.heap.objs.size) (o := .dK []) (h':=s.heap.push { cls := .type "dict", data := .dict #[] }) (t':=s.toks) (λ_ _ q=>Heap.get?_push_of_some _ q) (Qc _) (zlx s.heap I.big);refine wpAny_Dict_walk (knd:=mixKind X.prog X.w) hall hl h0 h15 (thn (h pins _ σ _ _ I1 (q _ hn)) λws s2 ⟨ps,H2,I2,rel,e,kvs,ep,lk,q2⟩=>?_);subst ep;obtain⟨rs,c,rk⟩:=zhq (P:=X.prog) (w:=X.w) rel;obtain⟨z,hd,vs0,r0,dd⟩:=zwb I2.hok e;cases r0;refine⟨rs,c,dd,λh' dd' hs=>⟨.ref s.heap.objs.size,_,?_,rfl,q2⟩⟩
 have hz:(zdt [] kvs).length<=sizeLine:=by
  have h1:=zff kvs [];rw[Zn] at h1;rw[Vj];omega
 have he:∃ q,h'.get? s.heap.objs.size=some q:=let ⟨q,_,_,hq,_⟩:=dd'; ⟨q,hq⟩
 exact zd7 I2 (by rw[e];exact ZY) hs he (zsq hz hd (rk.merge .nil) dd')
structure M2 (X:Cx) (o:Expr) (m:Str) (apos:Pos) (e f:Expr) (cpos:Pos):Prop where
 base:V3 o m X.env (eval o X.env)=eval o X.env
 few:((VU cpos (Vg [e,f] X.env)).all (λx=>!x.1) && (UI cpos (Uk [] X.env)).all (λx=>x.1.isSome)
  && decide (([e,f]:List Expr).length+([]:List Ua).length+(if([]:List Ua).isEmpty then 0 else 1)<30))=true
 line:(apos.endLine == cpos.line)=true
 trees:VU cpos (Vg [e,f] X.env) = [(false,eval e X.env),(false,eval f X.env)]
def IsD(H:Hp)(a:Addr):Prop:=(∃ kvs,Rd H a (.dK kvs))\/∃ kvs,Rd H a (.dT kvs)
theorem zzn{X:Cx}{pins:List (Addr × Obj)}{σ:St}{H:Hp}{s:Vc}{a:Addr}(I:Inv X pins σ H s)(d:IsD H a) :
 s.TypeIs (.ref a) "dict" /\ (∀ b,Value.ref a = .ref b->∃ ob,s.heap.get? b=some ob/\ob.dict=none)/\(a == V8)=false:=by
 rcases d with ⟨kvs,e⟩|⟨kvs,e⟩
 ·obtain⟨_,hd,vs,_,dd⟩:=zh5 I.hok e;refine⟨dd.typeIs,λb q=>?_,hd⟩;cases q;obtain⟨ob,_,_,h1,h2,_⟩:=dd;exact⟨ob,h1,h2.2.1⟩
 ·obtain⟨_,hd,xs,_,dd⟩:=zhy I.hok e;refine⟨dd.typeIs,λb q=>?_,hd⟩;cases q;obtain⟨ob,_,_,h1,h2,_⟩:=dd;exact⟨ob,h1,h2.2.1⟩
end L2
namespace Att
open PySem PySem.W PySem.Calls PyProof.Rows
theorem zii{P:Params}{h:Heap}:∀ (ns:List Int) (vs:List Vb),WellAll P h vs (ns.map WData.int)->GG vs ns:=by
 intro ns
 induction ns with
 | nil =>
   intro vs w;rw[YN] at w;cases w;exact .nil
 | cons n ns ih =>
   intro vs w;rw[Qn] at w
   cases w with
   | cons a b =>
     cases a;exact .cons _ _ (ih _ b)
theorem zsm{l:OpenLaw}{n:Nat}(hn:l.most=some n){P:Params}{h:Heap}{args:List WData}{vals:List Vb}
 (hpre:l.row.toRowW.claim.pre args=true) (hwl:WellAll P h vals args) :
 ∃ a vs ns,vals = [Value.ref a]/\args = [WData.list (ns.map WData.int)]/\h.get? a=some { cls := .type "list", data := .seq vs.toArray }/\GG vs ns/\ns.length<=n:=by
 have hsh:WShape.hasAll [] args [.list .int]=true:=(pre_splitW hpre).1;have hc:l.pre.holds [] { args:=args }=true:=(pre_splitW hpre).2;obtain⟨d,r,rfl,h1,h2⟩:=hasAllW_cons hsh;obtain rfl:=hasAllW_nil h2;obtain⟨xs,rfl,h3⟩:=hasW_list h1;obtain⟨ns,rfl⟩:=items_int h3
 have hlen:ns.length<=n:=by
  unfold OpenLaw.pre at hc
  have h4:(WTm.not (.lt (.lit (.int (n:Int))) (.len (.arg 0)))).holds [] { args := [.list (ns.map .int)] }=true:=by
   have h4:=(holds_andW hc).1;rw[hn] at h4;exact h4
  have h5:=condW_of h4 (w_not (w_lt w_lit (w_len_list (w_arg rfl))));rw[Qe] at h5;refine Jd λq=>?_;have q':(n:Int)<((ns.length:Nat):Int):=by omega
  first
   | (rw[GW q'] at h5;exact absurd h5 (by decide))
   | (simp at h5;omega)
 cases hwl with
 | cons w1 w2 =>
   cases w2
   cases w1 with
   | list ho hall=>exact⟨_,_,ns,rfl,rfl,ho,zii ns _ hall,hlen⟩
theorem zs7(l:OpenLaw)(args:List WData):l.row.toRowW.claim.post args (.bool true) args=true :=
 postW_of (r:=l.row.toRowW) (X:=(true == true))
  (show WShape.has [] (.bool true) .bool=true by first|rfl|decide|simp[WShape.has,WShape.arms,WShape.armsAll])
  (show(WTm.eq .res (.lit (.bool true))).value [] { args:=args,res:=some (.bool true),after:=args }=some (.bool (true == true)) from w_eq_bool (w_res rfl) w_lit) rfl
theorem attach_call{l:OpenLaw}{n:Nat}{q:Vf}{loose:List Str}{XP:(Str->Option Vb)->Heap->Prop}{YP:Vk->Heap->Prop}{d:DefRec}
 (hn:l.most=some n) (hdf:d.params.defaults = [])
 (call:∀ (w:Vk) (s₀ s₁:Vc) (mg mb:Str->Option Vb) (fa:Addr) (o:Obj) (pm cd doc:Vb) (a:Addr) (vs:List Vb) (ns:List Int),
  Ground q loose [] XP w s₀ mg mb s₁.heap->YP w s₁.heap ->
  s₁.heap.get? fa=some o->o.data = .func (docDef d.name d.params d.body d.scope pm cd doc)->s₁.heap.CodeRec cd d.name->mg d.name=some (.ref fa) ->
  s₁.heap.get? a=some { cls := .type "list", data := .seq vs.toArray }->GG vs ns->ns.length<=n->s₁.gens = #[] ->
  Uw (model l.prog w) callerA (.call (.ref fa) ⟨[.ref a],[]⟩) (λr s'=>r = .ok (.ret (.bool true))/\OldK s₁.heap s'.heap/\s'.os=s₁.os/\UE s'.gens) s₁) :
 WalkO q loose XP YP l.row.toRowW d [] (λf vs=>PySem.call f vs):=by
 intro w s₀ s₁ mg mb G Y fa o pm cd doc dV kV ho hd hcd hD hmg hg args vals as hpre hlay hrd hwl hlo;obtain rfl:dV = .none:=Dflts.none hD hdf;obtain rfl:kV = .none:=Dflts.noKw hD;obtain⟨a,vs,ns,rfl,rfl,hobj,hints,hlen⟩:=zsm hn hpre hwl;refine enter_call (Uq (call w s₀ s₁ mg mb fa o pm cd doc a vs ns G Y ho (fd_plain hd) hcd hmg hobj hints hlen hg) λr s' hq=>?_);obtain⟨rfl,h2,h3,h4⟩:=hq;exact⟨.inl ⟨.bool true,.bool true,[],rfl,λ_=>rfl,.bool true,zs7 l _,λ_=>⟨Jp,λ_ hm=>(nomatch hm)⟩⟩,h2,h3,h4⟩
end Att
namespace L2
open PySem PySem.Spec PyProof.Rows
theorem zkc:∀ {vs:List Vb} {ns:List Int},GG vs ns->Vals (ns.map V.int) vs
 | _,_,.nil => .nil
 | _,_,.cons n t h => .cons ⟨t,rfl⟩ (zkc h)
def Only(H:Hp):Prop:=∀ b,H b=none\/∃ o xs,H b=some (.frz o (.lst xs))
theorem zu0{P:Vf}{w:Vk}{K:PySem.W.Frag}{mg mb:Str->Option Vb}{CX:CXT}{k:Nat}{fa a:Addr}{fd:VB}{x:Str}{sp:Sp}{s₁:Vc}{vs:List Vb}{ns:List Int}
 (KX:K.In s₁.heap) (hns:s₁.heap.Ns mainGlobals mg) (hb:s₁.heap.Ns builtinsNs mb) (hbb:∀ x:Str,x ≠ "__name__" -> mb x=Vv x) (hlim:s₁.heap.NoLimit) (hg:s₁.gens = #[])
 (ha:s₁.heap.get? a=some { cls := .type "list", data := .seq vs.toArray }) (hi:GG vs ns) (hl:ns.length<=sizeLine) (hr:Room k callerA)
 (F:∀ base:Heap,K.In base->base.Ns mainGlobals mg->FnOk P w K mg base CX k fa fd [x] sp) (hbind:∀ (s:Vc) (u:Vb),G7 s fd ⟨[u],[]⟩ [(x,u)])
 (hsp:∀ H:Hp,Only H->SqL K H a (ns.map V.int)->sp [.ref a] H (λv _=>v = .bl true) λ_ _ _=>False)
 (hCX:∀ H e s',CX [] H s₁ (λ_ _ _=>False) e s'->False) :
 Uw (model P w) callerA (.call (.ref fa) ⟨[.ref a],[]⟩) (λr s'=>r = .ok (.ret (.bool true))/\OldK s₁.heap s'.heap/\s'.os=s₁.os/\UE s'.gens) s₁:=by
 have rv:=zkc hi;have lenV:=hi.length
 -- from an abstract heap in which nothing but the script may be tracked
 have core:∀ H:Hp,Only H->SqL K H a (ns.map V.int)->HOk P w H s₁.heap->(∀ b,H b ≠ none->b=a)->(H a ≠ none->K.lookup a=none) ->
  Uw (model P w) callerA (.call (.ref fa) ⟨[.ref a],[]⟩) (λr s'=>r = .ok (.ret (.bool true))/\OldK s₁.heap s'.heap/\s'.os=s₁.os/\UE s'.gens) s₁:=by
  intro H hO hS hok hA hK;have base_of:∀ {b:Addr} {o:Obj},s₁.heap.get? b=some o->H b=none->(hidT s₁.heap H).get? b=some o:=λe n=>zvb e n
  have noA:∀ {b:Addr} {o:Obj} {es:Array GB} {ep:Nat},s₁.heap.get? b=some o->o.data = .dict es ep->H b=none:=λ{b o es ep} e d=>by
   cases q:H b with
   | none=>rfl
   | some u =>
     have e':b=a:=hA b (by rw[q];simp);subst e';rw[ha] at e;cases e;have d':Data.seq vs.toArray _=Data.dict es ep:=d;cases d'
  have nsK:∀ {b:Addr} {m:Str->Option Vb},s₁.heap.Ns b m->(hidT s₁.heap H).Ns b m:=λ{b m} ⟨o,es,ep,e,d,r⟩=>⟨o,es,ep,base_of e (noA e d),d,r⟩
  have hKb:K.In (hidT s₁.heap H):=λb o e=>base_of (KX b o e) (by
   cases q:H b with
   | none=>rfl
   | some u =>
     have e':b=a:=hA b (by rw[q];simp);subst e'
     rw[hK (by rw[q];simp)] at e;cases e)
  have hM:Mod K mg (hidT s₁.heap H):=⟨hKb,nsK hns,⟨mb,nsK hb,hbb⟩,let ⟨mc,h1,h2⟩:=hlim; ⟨mc,nsK h1,h2⟩⟩;have e0:Env0 P w K mg (hidT s₁.heap H) callerA [] s₁ H:=⟨rfl,hM,λb o e=>zy6 e,YQ (zq8 _ _),trivial,λb hb=>absurd (show b ∈ ([]:List Addr) from hb) (by simp),hok,.of_eq hg⟩;refine Uq ((F _ hKb (nsK hns)).run callerA [] s₁ H ⟨[.ref a],[]⟩ [.ref a] [.ref a] _ _ hr e0 (hbind s₁ (.ref a)) (.cons rfl .nil) (hsp H hO hS)) λr s' h=>?_
  cases r with
  | error e=>exact(hCX H e s' h).elim
  | ok fl =>
    cases fl with
    | next=>exact Z4 h
    | brk=>exact Z4 h
    | cont=>exact Z4 h
    | ret u =>
      obtain⟨v,H',os,bare,un,hok',r',q⟩:=h;have q':v = .bl true:=q;subst q';obtain rfl:u=Value.bool true:=r';refine⟨rfl,OldK.of_keep λb o e=>?_,os,bare⟩
      cases q:H b with
      | none=>exact un.keep b o e q (by intro z;exact absurd (show b ∈ ([]:List Addr) from z) (by simp)) (by simp)
      | some u =>
        rcases hO b with z|⟨ob,xs,z⟩
        ·rw[q] at z;cases z
        ·have z2:=un.frzs b ob _ z;obtain⟨e1,_⟩:=hok b _ z;obtain⟨e2,_⟩:=hok' b _ z2;rw[e] at e1;cases e1;exact e2
 cases hk:K.lookup a with
 | some o =>
   -- the script is one of the module's own objects
   have e:=KX a o hk;rw[ha] at e;cases e;refine core (λ_=>none) (λ_ => .inl rfl) (.inr ⟨_,vs.toArray,_,hk,rfl,rfl,rfl,by rw[Qo,lenV];exact hl,by simpa using rv⟩) (λb u z=>by have z':(none:Option HO)=some u:=z;cases z') (λb z=>absurd rfl z) λz=>absurd rfl z
 | none =>
   refine core (λb=>if b=a then some (.frz { cls := .type "list", data := .seq vs.toArray } (.lst (ns.map V.int))) else none) (λb=>?_) (.inl (.inr ⟨{ cls := .type "list", data := .seq vs.toArray },GQ rfl⟩)) (λb u z=>?_) (λb z=>?_) λ_=>hk
   ·by_cases hb:b=a
    ·exact .inr ⟨_,_,GQ hb⟩
    ·exact .inl (GT hb)
   ·by_cases hb:b=a
    ·have z':=(GQ hb).symm.trans z;cases z';subst hb;exact⟨ha,by rw[Qe];exact hl,vs,_,rv,ha⟩
    ·have z':=(GT hb).symm.trans z;cases z'
   ·by_cases hb:b=a
    ·exact hb
    ·exact absurd (GT hb) z
theorem walk_of{l:PySem.W.OpenLaw}{n k:Nat}{q:Vf}{loose:List Str}{XP:(Str->Option Vb)->Heap->Prop}{YP:Vk->Heap->Prop}{d:DefRec}{K:Params->PySem.W.Frag}{CX:Vk->CXT}{sp:Vk->Sp}{x:Str}
 (hn:l.most=some n) (hn2:n<=sizeLine) (hdf:d.params.defaults = []) (hr:Room k callerA)
 (hY:∀ (w:Vk) (h:Heap),YP w h->(K w.params).In h)
 (F:∀ (w:Vk) (mg:Str->Option Vb) (fa:Addr) (h:Heap),(K w.params).In h->h.Ns mainGlobals mg->mg d.name=some (.ref fa) ->
  ∃ fd:VB,(∀ (s:Vc) (u:Vb),G7 s fd ⟨[u],[]⟩ [(x,u)]) /\
    ∀ base:Heap,(K w.params).In base->base.Ns mainGlobals mg->FnOk l.prog w (K w.params) mg base (CX w) k fa fd [x] (sp w))
 (hsp:∀ (w:Vk) (H:Hp) (a:Addr) (ns:List Int),ns.length<=n->Only H->SqL (K w.params) H a (ns.map V.int)->sp w [.ref a] H (λv _=>v = .bl true) λ_ _ _=>False)
 (hCX:∀ (w:Vk) (H:Hp) (s:Vc) (e:Vb) (s':Vc),CX w [] H s (λ_ _ _=>False) e s'->False) :
 PySem.W.WalkO q loose XP YP l.row.toRowW d [] (λf vs=>PySem.call f vs):=by
 refine Att.attach_call hn hdf λw s₀ s₁ mg mb fa o pm cd doc a vs ns G Y ho hd hcd hmg hobj hints hlen hg=>?_;have KX:=hY w _ Y;obtain⟨fd,hb,hF⟩:=F w mg fa _ KX G.T.g hmg;exact zu0 KX G.T.g G.T.b G.T.builtins G.T.nolimit hg hobj hints (QH hlen hn2) hr hF hb (λH hO hS=>hsp w H a ns hlen hO hS) λH e s'=>hCX w H s₁ e s'
def zbv(s:Stmt):Arguments:=match s with
 | .FunctionDef _ a _ _ _ _ _ _ _ _=>a
 | _=>{ posonlyargs := [],args := [],vararg:=none,kwonlyargs := [],kw_defaults := [],kwarg:=none,defaults := [] }
def za2(s:Stmt):List Stmt:=match s with
 | .FunctionDef _ _ b _ _ _ _ _ _ _=>b
 | _ => []
def zaf(s:Stmt):VP:=match s with
 | .FunctionDef _ _ _ _ _ _ sc _ _ _=>sc
 | _=>{ kind := .function,names := [],isGenerator:=false,isCoroutine:=false }
abbrev CX0:CXT:=λ_ _ _ _ _ _=>False
abbrev E0:XK:=λ_ _ _=>False
theorem zh1{X:Cx}:zlk CX0 X E0:=λ_ _ _ _ _ _ _ h=>h.elim
structure Fun (K:PySem.W.Frag) (x qual:Str) (st:Stmt) (f:Addr) (fd:VB):Prop where
 ex:∃ (oc:Vb) (od:Option Addr) (kV doc pm:Vb) (an:Option Addr) (cdv ct:Vb) (osl:Array (Option Vb)),
  fd=PySem.W.fnOf x qual (zbv st) (za2 st) (zaf st) .none kV doc pm an cdv ct/\K.lookup f=some ⟨oc,od,.func fd,osl⟩/\PySem.W.codeIn K cdv qual=true
 kp:PySem.W.keepIn K (.ref f)=true
section
variable {P : Vf} {w : Vk} {K : PySem.W.Frag} {mg : Str → Option Vb} {base : Heap}
theorem Fun.ok{x qual:Str}{st:Stmt}{f:Addr}{fd:VB}{N ps:List Str}{k:Nat}{sp:Sp}(F:Fun K x qual st f fd)(S:FnScope N ps (zaf st))(len:∀ vs H Q E,sp vs H Q E->vs.length=ps.length)
 (hbody:∀ (cdv:Vb) (A:Vl) (outer:List Env) (s:Vc) (H:Hp) (vs:List V) (Q:VK) (E:XK),Room k (A.deeper (US qual (zaf st) s.heap.objs.size f cdv))->sp vs H Q E ->
  ∃ t,PSs (cxOf CX0 P w K mg base N qual (zaf st) f cdv A outer s H E).nox (za2 st) t/\t { nx:=λ_ H'=>Q .non H',rt:=Q } (start N vs) H):FnOk P w K mg base CX0 (k+1) f fd ps sp:=by
 obtain⟨oc,od,kV,doc,pm,an,cdv,ct,osl,rfl,lk,hcd⟩:=F.ex;refine z3a lk hcd S len λA outer s H vs Q E hr hsp=>?_;obtain⟨t,h,q⟩:=hbody cdv A outer s H vs Q E hr hsp;exact⟨t,h.nox,q⟩
theorem Fun.binds{x qual:Str}{st:Stmt}{f:Addr}{fd:VB}{ps:List Str}(F:Fun K x qual st f fd)
 (h:∀ (kV doc pm:Vb) (an:Option Addr) (cdv ct:Vb) (us:List Vb),us.length=ps.length->Ue (PySem.W.fnOf x qual (zbv st) (za2 st) (zaf st) .none kV doc pm an cdv ct) ⟨us,[]⟩=pure (ps.zip us)):Binds K fd ps []:=by
 obtain⟨oc,od,kV,doc,pm,an,cdv,ct,osl,rfl,lk,hcd⟩:=F.ex;exact .all (h kV doc pm an cdv ct)
theorem zsr{x qual:Str}{st:Stmt}{f:Addr}{oc:Vb}{od an:Option Addr}{osl:Array (Option Vb)}{kV doc pm cdv ct:Vb}(l:K.lookup f=some ⟨oc,od,.func (PySem.W.fnOf x qual (zbv st) (za2 st) (zaf st) .none kV doc pm an cdv ct),osl⟩)
 (c:PySem.W.codeIn K cdv qual=true) (k:PySem.W.keepIn K (.ref f)=true):Fun K x qual st f (PySem.W.fnOf x qual (zbv st) (za2 st) (zaf st) .none kV doc pm an cdv ct):=⟨⟨oc,od,kV,doc,pm,an,cdv,ct,osl,rfl,l,c⟩,k⟩
end
theorem zbf{A:Vl}{k:Nat}(hr:Room k A):A.units+1<cLine:=Nat.lt_of_le_of_lt (Nat.add_le_add_left (by decide:1<=64) _) hr.units
theorem iteF{A B:Prop}(h:B):if false=true then A else B:=by
 rw[GT Ql];exact h
theorem iteT{A B:Prop}(h:A):if true=true then A else B:=by
 rw[GQ rfl];exact h
theorem ite2{c A B:Prop}[Decidable c](h1:c->A)(h2:¬ c->B):if c then A else B:=by
 by_cases h:c
 ·rw[GQ h];exact h1 h
 ·rw[GT h];exact h2 h
def Same(H H':Hp):Prop:=∀ b o,H b=some o->H' b=some o
theorem Same.refl(H:Hp):Same H H:=λ_ _ h=>h
theorem Same.trans{H H1 H2:Hp}(a:Same H H1)(b:Same H1 H2):Same H H2:=λc o h=>b c o (a c o h)
theorem Same.free{H H':Hp}(e:Same H H'){l:Addr}(h:H' l=Zl):H l=Zl:=by
 cases q:H l with
 | none=>rfl
 | some o =>
   rw[e l o q] at h;cases h
theorem Same.seq{K:PySem.W.Frag}{H H':Hp}{a:Addr}{xs:List V}(e:Same H H')(h:SqL K H a xs):SqL K H' a xs:=by
 rcases h with (h|⟨o,h⟩)|h
 ·exact .inl (.inl (e _ _ h))
 ·exact .inl (.inr ⟨o,e _ _ h⟩)
 ·exact .inr h
end L2
set_option maxHeartbeats 4000000
namespace L3
open PySem PySem.Spec
open PyProof.Rows hiding St
open L2
theorem zo0{α β:Type}{l:List α}{f:α->β->Sem (ForInStep β)}(g:α->β->β):∀ (c:β),(∀ x ∈ l,∀ c,f x c=pure (.yield (g x c)))->forIn l c f=pure (l.foldl (λc x=>g x c) c):=by
 induction l with
 | nil=>intro c _;rfl
 | cons x l ih =>
   intro c h;rw[jl,h x Qt,pure_bind];exact ih (g x c) λy hy=>h y (Qb _ hy)
def clOf(ns:List (Str × VO))(env:Env):List (Str × Addr):=ns.foldl (λcs x=>if x.2 == .free then(x.1,(env.cells.lookup x.1).getD 0)::cs else cs) []
theorem zhe{scope:VP}{env:Env}(h:∀ p ∈ scope.names,p.2 = .free->∃ c,env.cells.lookup p.1=some c):closureFor scope env=pure (clOf scope.names env):=by
 simp only[closureFor];unfold clOf;rw[zo0 (λ(x:Str × VO) (cs:List (Str × Addr))=>if x.2 == .free then(x.1,(env.cells.lookup x.1).getD 0)::cs else cs)]
 ·rfl
 ·intro x hx c;obtain⟨n,k⟩:=x;dsimp only
  by_cases hk:k = .free
  ·subst hk;obtain⟨a,ha⟩:=h _ hx rfl;have ha':env.cells.lookup n=some a:=ha;simp only[GZ,Ta,cellOf,ha',pure_bind,YY]
  ·have hb:(k == NameKind.free)=false:=by simpa using hk
   simp only[hb,Q8,GX]
theorem zxh{env:Env}{x:Str}:∀ (ns:List (Str × VO)) (acc:List (Str × Addr)) (c:Addr),
 (ns.foldl (λcs y=>if y.2 == .free then(y.1,(env.cells.lookup y.1).getD 0)::cs else cs) acc).lookup x=some c->acc.lookup x=some c\/((x,NameKind.free) ∈ ns/\c=(env.cells.lookup x).getD 0):=by
 intro ns
 induction ns with
 | nil=>intro acc c h;exact .inl h
 | cons y r ih =>
   intro acc c h;obtain⟨n,k⟩:=y;rw[Z1] at h;rcases ih _ c h with h1|⟨h1,h2⟩
   ·by_cases hk:k = .free
    ·subst hk;simp only[GZ,Ta] at h1
     by_cases hx:x=n
     ·subst hx;rw[Zg] at h1;cases h1;exact .inr ⟨Qt,rfl⟩
     ·have hb:(x == n)=false:=by simpa using hx
      rw[Zq,hb] at h1;exact .inl h1
    ·have hb:(k == NameKind.free)=false:=by simpa using hk
     simp only[hb,Q8,GX] at h1;exact .inl h1
   ·exact .inr ⟨Qb _ h1,h2⟩
theorem zmv{env:Env}{x:Str}:∀ (ns:List (Str × VO)) (acc:List (Str × Addr)),(acc.lookup x).isSome=true\/(x,NameKind.free) ∈ ns ->
 ((ns.foldl (λcs y=>if y.2 == .free then(y.1,(env.cells.lookup y.1).getD 0)::cs else cs) acc).lookup x).isSome=true:=by
 intro ns
 induction ns with
 | nil => intro acc h;rcases h with h|h
          ·exact h
          ·exact absurd h (by simp)
 | cons y r ih =>
   intro acc h;obtain⟨n,k⟩:=y;rw[Z1];refine ih _ ?_
   by_cases hk:k = .free
   ·subst hk;simp only[GZ,Ta]
    by_cases hx:x=n
    ·subst hx;left;rw[Zg];rfl
    ·have hb:(x == n)=false:=by simpa using hx
     rw[Zq,hb];rcases h with h|h
     ·exact .inl h
     ·rcases Qs.mp h with z|z
      ·injection z with z1 _;exact absurd z1 hx
      ·exact .inr z
   ·have hb:(k == NameKind.free)=false:=by simpa using hk
    simp only[hb,Q8,GX];rcases h with h|h
    ·exact .inl h
    ·rcases Qs.mp h with z|z
     ·injection z with _ z2;exact absurd z2.symm hk
     ·exact .inr z
theorem zp7{ns:List (Str × VO)}{env:Env}{x:Str}{c:Addr}(h:(clOf ns env).lookup x=some c):(x,NameKind.free) ∈ ns/\c=(env.cells.lookup x).getD 0:=by
 rcases zxh ns [] c h with z|z
 ·cases z
 ·exact z
theorem ztb{ns:List (Str × VO)}{env:Env}{x:Str}{c:Addr}(h:(x,NameKind.free) ∈ ns)(e:env.cells.lookup x=some c):(clOf ns env).lookup x=some c:=by
 obtain⟨d,hd⟩:=Z7.mp (zmv (env:=env) ns [] (.inr h));have hd':(clOf ns env).lookup x=some d:=hd;rw[hd',(zp7 hd').2,e];rfl
theorem zcs{env:Env}{x:Str}:∀ (names:List (Str × VO)),
 (names.map λ(n,k)=>if(k == NameKind.free && env.scope.kind == .function && env.kindOf n == some .cell) then(n,NameKind.cell) else(n,k)).lookup x =
  (names.lookup x).map λk=>if(k == NameKind.free && env.scope.kind == .function && env.kindOf x == some .cell) then NameKind.cell else k
 | []=>rfl
 | (n,k)::r=>by
   have ih:=zcs (env:=env) (x:=x) r;show List.lookup x ((if(k == NameKind.free && env.scope.kind == .function && env.kindOf n == some .cell)=true then(n,NameKind.cell) else(n,k))::_)=_
   by_cases hx:x=n
   ·subst hx
    by_cases hc:(k == NameKind.free && env.scope.kind == .function && env.kindOf x == some .cell)=true
    ·rw[GQ hc,Zg,Zg,ZC,GQ hc]
    ·rw[GT hc,Zg,Zg,ZC,GT hc]
   ·have hb:(x == n)=false:=by simpa using hx
    by_cases hc:(k == NameKind.free && env.scope.kind == .function && env.kindOf n == some .cell)=true
    ·rw[GQ hc,Zq,hb,Zq,hb];exact ih
    ·rw[GT hc,Zq,hb,Zq,hb];exact ih
theorem zh8{x:Str}{c:Addr}:∀ (names:List (Str × VO)) (h:Heap) (acc:List (Str × Addr)),(VA h.objs.size names acc).lookup x=some c ->
 acc.lookup x=some c\/((x,NameKind.cell) ∈ names/\h.objs.size<=c/\(pushCells h names).IsCell c none)
 | [],_,_,e => .inl e
 | (n,k)::r,h,acc,e=>by
   unfold VA at e;unfold pushCells
   by_cases hk:k = .cell
   ·subst hk;simp only[GZ,Ta] at e ⊢;rw[<- Heap.size_push h { cls := .type "cell", data := .cell none }] at e;rcases zh8 r _ _ e with z|⟨z1,z2,z3⟩
    ·by_cases hx:x=n
     ·subst hx;rw[Zg] at z;cases z;exact .inr ⟨Qt,Qc _,⟨_,Ge r _ _ _ (Heap.get?_push_size _ rfl),rfl⟩⟩
     ·have hb:(x == n)=false:=by simpa using hx
      rw[Zq,hb] at z;exact .inl z
    ·rw[Heap.size_push] at z2;exact .inr ⟨Qb _ z1,by omega,z3⟩
   ·have hb:(k == NameKind.cell)=false:=by simpa using hk
    simp only[hb,Q8,GX] at e ⊢;rcases zh8 r h acc e with z|⟨z1,z2,z3⟩
    ·exact .inl z
    ·exact .inr ⟨Qb _ z1,z2,z3⟩
theorem zhf{x:Str}:∀ (names:List (Str × VO)) (n:Nat) (acc:List (Str × Addr)),(x,NameKind.cell) ∉ names->(VA n names acc).lookup x=acc.lookup x
 | [],_,_,_=>rfl
 | (y,k)::r,n,acc,h=>by
   have hr:(x,NameKind.cell) ∉ r:=λz=>h (Qb _ z);unfold VA
   by_cases hk:k = .cell
   ·subst hk;simp only[GZ,Ta]
    have hx:(x == y)=false:=by
     have:x ≠ y:=λz=>h (by rw[z];exact Qt);simpa using this
    rw[zhf r _ _ hr,Zq,hx]
   ·have hb:(k == NameKind.cell)=false:=by simpa using hk
    simp only[hb,Q8,GX];exact zhf r n acc hr
theorem zl9:∀ (names:List (Str × VO)) (n:Nat) (acc:List (Str × Addr)),(∀ x c,acc.lookup x=some c->c<n)->(∀ x y c,acc.lookup x=some c->acc.lookup y=some c->x=y) ->
 ∀ x y c,(VA n names acc).lookup x=some c->(VA n names acc).lookup y=some c->x=y
 | [],_,_,_,hi=>hi
 | (a,k)::r,n,acc,hb,hi=>by
   unfold VA
   by_cases hk:k = .cell
   ·subst hk;simp only[GZ,Ta]
    have lk:∀ x c,((a,n)::acc).lookup x=some c->(x=a/\c=n)\/(x ≠ a/\acc.lookup x=some c):=λx c e=>by
     by_cases hx:x=a
     ·subst hx;rw[Zg] at e;cases e;exact .inl ⟨rfl,rfl⟩
     ·have hz:(x == a)=false:=by simpa using hx
      rw[Zq,hz] at e;exact .inr ⟨hx,e⟩
    refine zl9 r (n+1) _ (λx c e=>?_) λx y c e1 e2=>?_
    ·rcases lk x c e with ⟨_,z⟩|⟨_,z⟩
     ·rw[z];exact Z5 _
     ·exact QI (hb x c z)
    ·rcases lk x c e1 with ⟨z1,w1⟩|⟨z1,w1⟩ <;> rcases lk y c e2 with ⟨z2,w2⟩|⟨z2,w2⟩
     ·rw[z1,z2]
     ·exact absurd (hb y c w2) (by rw[w1];exact QQ _)
     ·exact absurd (hb x c w1) (by rw[w2];exact QQ _)
     ·exact hi x y c w1 w2
   ·have hz:(k == NameKind.cell)=false:=by simpa using hk
    simp only[hz,Q8,GX];exact zl9 r n acc hb hi
theorem zh2{M:Gy}{A:Vl}{E:Vb->Vc->Prop}{s:Vc}{scope:VP}{globals:Addr}{cl:List (Str × Addr)}{qual:Str}{code:Vb}{env:Env}{builtins:Addr}{Q:Env->Vc->Prop}
 (h:∀ h',h'.Ns s.heap.objs.size (λ_=>none)->(∀ b o,s.heap.get? b=some o->h'.get? b=some o)->(∀ x c,(VA (s.heap.objs.size+1) scope.names cl).lookup x=some c->cl.lookup x=some c\/((x,NameKind.cell) ∈ scope.names/\s.heap.objs.size+1<=c/\h'.IsCell c none)) ->
  Q (newEnv scope s.heap.objs.size globals (VA (s.heap.objs.size+1) scope.names cl) qual none code (some env) builtins) { s with heap:=h' }) :
 wpAny M A (newFunctionEnv scope globals cl [] qual none code (some env) builtins) Q E s:=by
 simp only[newFunctionEnv,YC,Ta];refine Va (wpAny_alloc ?_);refine Va (wpAny_layCells _ (λname kind cells=>by cases hkc:kind == NameKind.cell <;> simp[hkc]) _ _ _ _ ?_);rw[show({ s with heap:=s.heap.push { cls := .type "dict", data := .dict #[] } }:Vc).heap.objs.size=s.heap.objs.size+1 from Heap.size_push ..];rw[jq];refine Va (Vd (Vd (h _ ((Heap.Ns.new s.heap (.type "dict")).keeps (Ge _ _)) (λb o e=>Ge _ _ b o (Heap.get?_push_of_some _ e)) λx c e=>?_)));have:=zh8 scope.names (s.heap.push { cls := .type "dict", data := .dict #[] }) cl (x:=x) (c:=c) (by rw[Heap.size_push];exact e);rwa [Heap.size_push] at this
def zbr(X:Cx)(scope:VP)(N':List Str)(C:Addr)(s:Vc)(H:Hp)(ex:List Addr):Cx :=
 { X with N:=N',s₀:=s,H₀:=H,env:=compEnvC scope (VA (C+1) scope.names (clOf scope.names X.env)) C X.env,outer:=X.stack,stack:=X.stack,ex:=ex,fn:=λx=>scope.names.lookup x == some .cell,pn := [],xe:=λ_ _=>False }
def zng(h:Nat)(N' N:List Str)(names sc:List (Str × VO)):Bool :=
 decide (N'.length=h+N.length) && decide N'.Nodup
 && (names.all λp=>(p.2 != .cell || names.lookup p.1 == some .cell) && (p.2 != .local || names.lookup p.1 == some .local) && (p.2 != .free || (names.lookup p.1 == some .free && (sc.lookup p.1 == some .cell || sc.lookup p.1 == some .free))))
 && (((N'.drop h).zip N).all λp=>match names.lookup p.1 with|some .free=>p.1 == p.2|some .local=>false|some .cell=>false|_=>true)
structure ScopeOk (h:Nat) (N' N:List Str) (scope:VP) (sc:VP):Prop where
 kind:scope.kind = .function
 len:N'.length=h+N.length
 nd:N'.Nodup
 cell:∀ y ∈ scope.names,y.2 = .cell->scope.names.lookup y.1=some .cell
 loc:∀ y ∈ scope.names,y.2 = .local->scope.names.lookup y.1=some .local
 free:∀ y ∈ scope.names,y.2 = .free->scope.names.lookup y.1=some .free/\(sc.names.lookup y.1=some .cell\/sc.names.lookup y.1=some .free)
 out:∀ (i:Nat) (x:Str) (k:VO),N'[h+i]? = some x->scope.names.lookup x=some k->(k = .local\/k = .cell\/k = .free)->N[i]? = some x/\k = .free
theorem ScopeOk.of{h:Nat}{N' N:List Str}{scope sc:VP}(hk:scope.kind = .function)(e:zng h N' N scope.names sc.names=true):ScopeOk h N' N scope sc:=by
 unfold zng at e;simp only[Q5,GY,ZN] at e;obtain⟨⟨⟨e1,e2⟩,e3⟩,e4⟩:=e;refine⟨hk,e1,e2,λy hy z=>?_,λy hy z=>?_,λy hy z=>?_,λi x k hx hl hkk=>?_⟩
 ·have:=e3 y hy;rw[z] at this;simpa using this
 ·have:=e3 y hy;rw[z] at this;simpa using this
 ·have:=e3 y hy;rw[z] at this;simpa using this
 ·have h1:(N'.drop h)[i]? = some x:=by rw[QY];exact hx
  have hi:i<N.length:=by
   obtain⟨z,_⟩:=Qi.mp hx;omega
  have h2:N[i]? = some N[i]:=Qa hi
  have hm:(x,N[i]) ∈ (N'.drop h).zip N:=by
   refine Q6 (i:=i) ?_;rw[JK];exact⟨h1,h2⟩
  have q:=e4 _ hm;rw[hl] at q;rcases hkk with rfl|rfl|rfl
  ·exact absurd q (by simp)
  ·exact absurd q (by simp)
  ·have q':x=N[i]:=by simpa using q
   exact⟨by rw[h2,<- q'],rfl⟩
def PF(X:Cx)(ifs:List Expr)(t:TT):Prop :=
 ∀ (pins:List (Addr × Obj)) (s:Vc) (σ:St) (H:Hp) (Q:Bool->Hp->Prop),Inv X pins σ H s->t σ H Q ->
   wpAny (model X.prog X.w) X.A (forIn ifs true λc r=>if r=true then do let ok <- isTrue c X.env (eval c X.env);pure (Jl ok) else pure (Jl r)) (TP X pins σ Q) X.xe s
def tYes:TT:=λ_ H Q=>Q true H
theorem zie{X:Cx}:PF X [] tYes:=λ_ _ _ H _ I h=>wpAny_tests_nil ⟨H,I,h⟩
theorem zs9{X:Cx}{c:Expr}{t:TT}(h:PT X c t):PF X [c] t:=λpins s σ H Q I q=>wpAny_tests_one (h pins s σ H Q I q)
def OwnG(h:Nat)(g:TG):Prop:=∀ v (σ:St) H Q,h<=σ.length->g v σ H Q->g v σ H λσ2 H2=>Q σ2 H2/\σ2.length=σ.length/\σ2.drop h=σ.drop h
theorem zb9{h i:Nat}(hi:i<h):OwnG h (zao i):=λv σ H Q hl q=>⟨q,by simp,by rw[Y2 hi]⟩
def zic(h:Nat)(g:TGs):Prop:=∀ vs (σ:St) H Q,h<=σ.length->g vs σ H Q->g vs σ H λσ2 H2=>Q σ2 H2/\σ2.length=σ.length/\σ2.drop h=σ.drop h
theorem znj{h:Nat}:zic h gNil:=λvs σ H Q _ q=>⟨q.1,q.2,rfl,rfl⟩
def MonG(g:TG):Prop:=∀ v σ H (Q Q':St->Hp->Prop),(∀ σ H,Q σ H->Q' σ H)->g v σ H Q->g v σ H Q'
def zhg(g:TGs):Prop:=∀ v σ H (Q Q':St->Hp->Prop),(∀ σ H,Q σ H->Q' σ H)->g v σ H Q->g v σ H Q'
theorem zdq{i:Nat}:MonG (zao i):=λ_ _ _ _ _ h q=>h _ _ q
theorem zji:zhg gNil:=λ_ _ _ _ _ h q=>⟨q.1,h _ _ q.2⟩
theorem zk7{g:TG}{gs:TGs}(a:MonG g)(b:zhg gs):zhg (zcl g gs):=λvs σ H Q Q' h ⟨v,r,e,q⟩=>⟨v,r,e,a _ _ _ _ _ (λσ' H' z=>b _ _ _ _ _ h z) q⟩
theorem zg6{h:Nat}{g:TG}{gs:TGs}(m:MonG g)(m2:zhg gs)(a:OwnG h g)(b:zic h gs):zic h (zcl g gs):=λvs σ H Q hl ⟨v,r,e,q⟩=>by
 refine⟨v,r,e,m _ _ _ _ _ (λσ' H' z=>?_) (a v σ H _ hl q)⟩;obtain⟨z1,z2,z3⟩:=z;exact m2 _ _ _ _ _ (λσ2 H2 ⟨y1,y2,y3⟩=>⟨y1,y2.trans z2,y3.trans z3⟩) (b r σ' H' Q (by omega) z1)
theorem znk{K:PySem.W.Frag}{h n:Nat}{gs:TGs}(b:zic h gs):OwnG h (gTup K n gs):=λv σ H Q hl ⟨a,xs,e1,e2,e3,q⟩=>⟨a,xs,e1,e2,e3,b xs σ H Q hl q⟩
def ze7(h:Nat)(wi:TI)(g:TG)(tf:TT)(te:TE):TE:=λσ H Q=>wi σ H λJ H1=>∀ D,H1 D=none->∃ W:Nat->Nat->List V->Hp->Prop,(∃ m,W 0 m [] (upd H1 D (.lst [])))/\∀ i m ys H,W i m ys H ->
 H D=some (.lst ys)/\((J.stop i H/\Q (.ref D) H)\/(J.go i H/\∀ x H',J.yld i H x H'->g x (Qh h none++σ) H' λσ2 H2=>tf σ2 H2 λc H3 =>
   if c=true then te σ2 H3 λy H4=>H4 D=some (.lst ys)/\ys.length<sizeLine/\∃ m',m'<m/\W (i+1) m' (ys ++ [y]) (upd H4 D (.lst (ys ++ [y]))) else ∃ m',m'<m/\W (i+1) m' ys H3))
theorem zgm{prog:Vf}{w:Vk}{A:Vl}{R:Result->Vc->Prop}{s:Vc}{elt target iter:Expr}{ifs:List Expr}{scope:VP}{pos:Pos}{it acc:Vb}{env:Env}(I:Nat->Vc->Prop)
 (turn:∀ n s,I n s->wpAny (model prog w) A (U3 it) (λr s₁=>match r with
  | none=>R (.ok .next) s₁
  | some v=>wpAny (model prog w) A (U1 target it v) (λ_ s₀=>wpAny (model prog w) A (Uo target env v) (λ_ s₂ =>
   wpAny (model prog w) A (forIn ifs true λc r=>if r=true then do let ok <- isTrue c env (eval c env);pure (Jl ok) else pure (Jl r)) (λok s₃ =>
    if ok=true then wpAny (model prog w) A (eval elt env) (λx s₄ =>
     wpAny (model prog w) A (call (.builtin "list.append") [acc,x]) (λ_ s₅=>∃ m,m<n/\I m s₅) (λ_ _=>False) s₄) (λ_ _=>False) s₃
    else ∃ m,m<n/\I m s₃) (λ_ _=>False) s₂) (λ_ _=>False) s₀) (λ_ _=>False) s₁) (λ_ _=>False) s)
 (n:Nat) (h:I n s):Uw (model prog w) A (.compLoop (.ListComp elt [⟨target,iter,ifs,0⟩] scope pos) 0 it acc env) R s:=by
 refine codeAny_loop rfl I (λn s hI=>?_) n h;show wpAny _ A ((compTurn (.ListComp elt [⟨target,iter,ifs,0⟩] scope pos) 0 it acc env).onRaise (λx=>do noteFrame x env;theTreesLotGoes x)) _ _ s;refine wpAny_noted ?_;rw[compTurn_list];refine Va (wpAny_standAt (Va (V0 (turn n s hI) (λr s₁ h₁=>?_) λ_ _ h'=>h'.elim)))
 cases r with
 | none=>exact Vd h₁
 | some v =>
   refine Va (V0 h₁ (λ_ s₀ h₀=>?_) λ_ _ h'=>h'.elim);refine Va (V0 h₀ (λ_ s₂ h₂=>Va (V0 h₂ (λok s₃ h₃=>?_) λ_ _ h'=>h'.elim)) λ_ _ h'=>h'.elim)
   cases ok with
   | false=>exact Vd ⟨rfl,h₃⟩
   | true =>
     exact Va (Va (V0 h₃ (λx s₄ h₄=>Va (V0 h₄ (λ_ s₅ h₅=>Vd (Vd ⟨rfl,h₅⟩)) λ_ _ h'=>h'.elim)) λ_ _ h'=>h'.elim))
section
variable {X : Cx} {pins : List (Addr × Obj)} {σ : St} {H : Hp} {s : Vc}
theorem zea{h:Nat}{N':List Str}{scope:VP}(I:Inv X pins σ H s)(S:ScopeOk h N' X.N scope X.env.scope):∀ x c,(clOf scope.names X.env).lookup x=some c->X.env.cells.lookup x=some c:=λx c e=>by
 obtain⟨h1,h2⟩:=zp7 e;obtain⟨d,hd⟩:=I.ok.has x (S.free _ h1 rfl).2;rw[hd] at h2 ⊢;rw[h2];rfl
theorem zjd{h:Nat}{N':List Str}{scope:VP}(S:ScopeOk h N' X.N scope X.env.scope){x:Str}(hf:(x,NameKind.free) ∈ scope.names):(x,NameKind.cell) ∉ scope.names:=λz=>by
 have a:=(S.free _ hf rfl).1;have b:=S.cell _ z rfl;rw[show scope.names.lookup x=some .free from a] at b;cases b
theorem ze2{h:Nat}{N':List Str}{scope:VP}(I:Inv X pins σ H s)(S:ScopeOk h N' X.N scope X.env.scope):∀ x c,(VA (s.heap.objs.size+1) scope.names (clOf scope.names X.env)).lookup x=some c->X.env.cells.lookup x=some c\/((x,NameKind.cell) ∈ scope.names/\s.heap.objs.size+1<=c):=λx c e=>by
 have z:=zh8 scope.names (s.heap.push { cls := .type "dict", data := .dict #[] }) (clOf scope.names X.env) (x:=x) (c:=c) (by rw[Heap.size_push];exact e);rw[Heap.size_push] at z;rcases z with z|⟨z1,z2,_⟩
 ·exact .inl (zea I S x c z)
 ·exact .inr ⟨z1,z2⟩
theorem zp5{h:Nat}{N':List Str}{scope:VP}(I:Inv X pins σ H s)(S:ScopeOk h N' X.N scope X.env.scope):∀ x c,(clOf scope.names X.env).lookup x=some c->c<s.heap.objs.size+1:=λx c e=>by
 obtain⟨v,o,ho,_⟩:=I.cell x c (zea I S x c e);exact QI (Heap.lt_size ho)
theorem zx7{h:Nat}{N':List Str}{scope:VP}{fp:List Addr}(I:Inv X pins σ H s)(S:ScopeOk h N' X.N scope X.env.scope)(hf:∀ b ∈ fp,FpOk X pins H b)(hlt:∀ b ∈ fp,b<s.heap.objs.size) :
 (zbr X scope N' s.heap.objs.size s H fp).Ok:=by
 have cl:=ze2 I S;refine⟨I.ok.mod,?_,I.ok.glob,I.ok.blt,Qc _,zl9 _ _ _ (zp5 I S) λx y c e1 e2=>I.ok.inj x y c (zea I S x c e1) (zea I S y c e2),λx hx=>?_,λx c z e=>?_,I.ok.hd,I.ok.frames,.inl rfl,λb hb=>⟨Qm (hlt b hb),λx c e=>(cl x c e).elim (λz=>(hf b hb).2.2.2.2.1 x c z) λz w=>QQ _ (Q7 (hlt b hb) (ZK (w ▸ z.2)))⟩,λb o e=>I.bs b o e,QH I.ok.bsz I.sz,λb o e hb=>?_,λb hb z=>?_,I.stack,I.stkFree⟩
 ·exact S.kind
 ·have hx':(relabel scope X.env).names.lookup x=some .cell\/(relabel scope X.env).names.lookup x=some .free:=hx;have e:=zcs (env:=X.env) (x:=x) scope.names
  have hl:scope.names.lookup x=some .free\/scope.names.lookup x=some .cell:=by
   cases q:scope.names.lookup x with
   | none=>rw[q] at e;rcases hx' with z|z <;> (have z':=e.symm.trans z;cases z')
   | some k =>
     rw[q,ZC] at e
     by_cases hk:k = .free
     ·rw[hk];exact .inl rfl
     ·have hc:¬ (k == NameKind.free && X.env.scope.kind == .function && X.env.kindOf x == some .cell)=true:=by
       have:(k == NameKind.free)=false:=by simpa using hk
       rw[this];simp
      rw[GT hc] at e;rcases hx' with z|z
      ·have z':=e.symm.trans z;cases z';exact .inr rfl
      ·have z':=e.symm.trans z;cases z';exact .inl rfl
  rcases hl with hl|hl
  ·have hm:=PySem.mem_of_lookup hl;obtain⟨c,hc⟩:=I.ok.has x (S.free _ hm rfl).2;exact⟨c,(zhf _ _ _ (zjd S hm)).trans (ztb hm hc)⟩
  ·exact Z7.mp (PySem.W.cellsFrom_some _ _ _ (.inl hl))
 ·have z:(scope.names.lookup x == some NameKind.cell)=true:=z;have z:scope.names.lookup x=some .cell:=by simpa using z
  rcases zh8 scope.names (s.heap.push { cls := .type "dict", data := .dict #[] }) (clOf scope.names X.env) (x:=x) (c:=c) (by rw[Heap.size_push];exact e) with w|⟨_,w,_⟩
  ·exact absurd (PySem.mem_of_lookup z) (zjd S (zp7 w).1)
  ·rw[Heap.size_push] at w;exact ZK w
 ·rcases(hf b hb).2.2.2.1 with z|z
  ·exact I.ok.noex b o e z
  ·exact absurd (Q7 (Heap.lt_size (I.ok.bs b o e).1) z) (QQ _)
 ·obtain⟨_,f1,f2,_⟩:=hf b hb;rcases Qs.mp (I.stkSub b z) with q|q
  ·exact f1 q
  ·exact f2 q
theorem zib{h:Nat}{N':List Str}{scope:VP}{fp:List Addr}{h':Heap}{tk:Nat}(I:Inv X pins σ H s)(S:ScopeOk h N' X.N scope X.env.scope)(hf:∀ b ∈ fp,FpOk X pins H b)(hlt:∀ b ∈ fp,b<s.heap.objs.size)
 (hn:h'.Ns s.heap.objs.size λ_=>none) (kp:∀ b o,s.heap.get? b=some o->h'.get? b=some o) (hcs:∀ x c,(VA (s.heap.objs.size+1) scope.names (clOf scope.names X.env)).lookup x=some c->(clOf scope.names X.env).lookup x=some c\/((x,NameKind.cell) ∈ scope.names/\s.heap.objs.size+1<=c/\h'.IsCell c none)) :
 Inv (zbr X scope N' s.heap.objs.size s H fp) [] (Qh h none++σ) H { s with heap:=h',toks:=tk }:=by
 have ok:=zx7 I S hf hlt;have cl:=zea I S;refine⟨ok,rfl,I.bare,Un.kept kp,⟨_,hn,λi x v e1 e2 e3=>?_⟩,λx c e=>?_,I.hok.fresh (Qc _),λx c e=>(hcs x c e).elim (λz=>I.freeC x c (cl x c z)) λz=>I.hok.fresh (ZK z.2.1),λp hp=>absurd (show p ∈ ([]:List (Addr × Obj)) from hp) (by simp),I.hok.kept kp,?_⟩
 ·have e1:N'[i]? = some x:=e1
  by_cases hi:i<h
  ·rw[Qz (by simpa using hi),QV,GQ hi] at e2;cases e2
  ·obtain⟨j,rfl⟩:∃ j,i=h+j:=⟨i - h,by omega⟩;rw[Q4 (by simp),QN,Nat.add_sub_cancel_left] at e2;have e3:Vis (relabel scope X.env) x:=e3;have er:=zcs (env:=X.env) (x:=x) scope.names
   have hl:∃ k,scope.names.lookup x=some k/\(k = .local\/k = .cell\/k = .free)/\(relabel scope X.env).names.lookup x=some (if(k == NameKind.free && X.env.scope.kind == .function && X.env.kindOf x == some .cell) then NameKind.cell else k):=by
    cases q:scope.names.lookup x with
    | none=>rw[q] at er;rcases e3 with z|z|z <;> (have z':=er.symm.trans z;cases z')
    | some k =>
      rw[q,ZC] at er;refine⟨k,rfl,?_,er⟩
      by_cases hc:(k == NameKind.free && X.env.scope.kind == .function && X.env.kindOf x == some .cell)=true
      ·simp only[Q5,Te] at hc;exact .inr (.inr hc.1.1)
      ·rw[GT hc] at er;rcases e3 with z|z|z <;> (have z':=er.symm.trans z;cases z';simp)
   obtain⟨k,hk,hkk,hre⟩:=hl;obtain⟨hN,rfl⟩:=S.out j x k e1 hk hkk;have hm:=PySem.mem_of_lookup hk;have hfr:=(S.free _ hm rfl).2;obtain⟨m,hnm,hlk⟩:=I.loc;obtain⟨u,ru,lk⟩:=hlk j x v hN e2 (by rcases hfr with z|z;exact .inr (.inl z);exact .inr (.inr z));refine⟨u,ru,?_⟩;rcases lk with ⟨hloc,_⟩|⟨hkd,c,hc,hcell⟩
   ·have hloc:X.env.scope.names.lookup x=some .local:=hloc;rcases hfr with z|z <;> (rw[hloc] at z;cases z)
   ·refine .inr ⟨?_,c,(zhf _ _ _ (zjd S hm)).trans (ztb hm hc),?_⟩
    ·show(relabel scope X.env).names.lookup x=some .cell\/(relabel scope X.env).names.lookup x=some .free;rw[hre]
     split
     ·exact .inl rfl
     ·exact .inr rfl
    ·obtain⟨o,ho,hd⟩:=hcell;exact⟨o,kp c o ho,hd⟩
 ·rcases hcs x c e with z|z
  ·obtain⟨v,o,ho,hd⟩:=I.cell x c (cl x c z);exact⟨v,o,kp c o ho,hd⟩
  ·exact⟨_,z.2.2⟩
 ·show(Qh h none++σ).length=N'.length;rw[Qj,QN,S.len,I.len]
theorem zl6{h:Nat}{N':List Str}{scope:VP}{fp:List Addr}{pins':List (Addr × Obj)}{σ':St}{H':Hp}{s':Vc}{h':Heap}(I:Inv X pins σ H s)(S:ScopeOk h N' X.N scope X.env.scope)(hf:∀ b ∈ fp,FpOk X pins H b)
 (J:Inv (zbr X scope N' s.heap.objs.size s H fp) pins' σ' H' s') (hs:Heap.SameBut s.heap.objs.size s'.heap h'):Inv X pins σ H' { s' with heap:=h' }:=by
 have ne:∀ b o,s.heap.get? b=some o->b ≠ s.heap.objs.size:=λb o e=>Qm (Heap.lt_size e);have u:Un (frs X.stack) fp H H' s.heap s'.heap:=J.base;have hC:H' s.heap.objs.size=none:=J.free;obtain⟨m0,⟨oC,_,_,hoC,_⟩,_⟩:=id J.loc;refine I.call' (s':={ s' with heap:=h' }) (ch:=fp) J.os ⟨λb o e n hb hx=>(hs.2 b (ne b o e)).trans (u.keep b o e n hb hx),λb o e n hb hx=>?_,u.free,λb o e hx=>?_,u.tups,u.frzs,u.tbls⟩ (λb ob e=>?_) J.bare λb hb=>?_
 ·obtain⟨sl,z⟩:=u.slot b o e n hb hx;exact⟨sl,(hs.2 b (ne b o e)).trans z⟩
 ·obtain⟨o',z⟩:=u.there b o e hx;exact⟨o',(hs.2 b (ne b o e)).trans z⟩
 ·refine(J.hok b ob e).stay (λc w' hc q=>(hs.2 c ?_).trans q) (λ_ q=>q) λ_ _ q=>q;rintro rfl;rcases hc with z|z
  ·rw[<- z,hC] at e;cases e
  ·rw[hC] at z;cases z
 ·obtain⟨_,f1,_,f3,f4,f5⟩:=hf b hb;exact⟨f3,f1,f4,f5⟩
end
theorem zf1{X:Cx}{elt tg iter:Expr}{ifs:List Expr}{scope:VP}{pos:Pos}{wi:TI}{g:TG}{tf:TT}{te:TE}{N':List Str}(h:Nat)(S:ScopeOk h N' X.N scope X.env.scope)(hc:X.calm=true)(hi:PI X tg iter wi)
 (hg:∀ C s H ex,PG (zbr X scope N' C s H ex) tg g) (ho:OwnG h g) (ht:∀ C s H ex,PF (zbr X scope N' C s H ex) ifs tf) (he:∀ C s H ex,PE (zbr X scope N' C s H ex) elt te)
 (hs:∀ x,V7 iter X.env x=pure x:=by intro _;rfl) :
 PE X (.ListComp elt [⟨tg,iter,ifs,0⟩] scope pos) (ze7 h wi g tf te):=by
 intro pins s σ H Q I hq;rw[eval_ListComp];refine UH (use:=none) rfl hs (zhe (env:=X.env) λp hp hk=>I.ok.has p.1 (S.free p hp hk).2) S.kind S.loc ?_;refine thn (hi pins s σ H _ I hq) λv s1 h1=>thn h1 λitv s2 h2=>?_;obtain⟨it,fp,tn,J,H2,rfl,I2,T,st2,f2,hq⟩:=h2;refine Vm ?_ (by show 0<=sizeLine;exact Qw _);have hD:H2 s2.heap.objs.size=none:=I2.hok.fresh (Qc _);have I3:Inv X pins σ (upd H2 s2.heap.objs.size (.lst [])) { s2 with heap:=s2.heap.push { cls := .type "list", data := .seq ([]:List Vb).toArray },toks:=s2.toks }:=I2.lnew (t':=s2.toks) .nil (Qw _);generalize hs3:({ s2 with heap:=s2.heap.push { cls := .type "list", data := .seq ([]:List Vb).toArray },toks:=s2.toks }:Vc)=s3 at I3;have hs3':({ s2 with heap:=s2.heap.push { cls := .type "list", data := .seq ([]:List Vb).toArray } }:Vc)=s3:=hs3;obtain⟨W,⟨m0,w0⟩,turn⟩:=hq s2.heap.objs.size hD
 have olt:∀ b ∈ fp,b<s2.heap.objs.size:=λb hb=>by
  obtain⟨o,e,_⟩:=T.obj _ _ st2 b hb;exact Heap.lt_size e
 have hsz:s3.heap.objs.size=s2.heap.objs.size+1:=by rw[<- hs3];exact Heap.size_push ..
 have k23:∀ b o,s2.heap.get? b=some o->s3.heap.get? b=some o:=λb o e=>by rw[<- hs3];exact Heap.get?_push_of_some _ e
 have f3:∀ b ∈ fp,FpOk X pins (upd H2 s2.heap.objs.size (.lst [])) b:=λb hb=>⟨by rw[zaa (Qm (olt b hb))];exact(f2 b hb).1,(f2 b hb).2⟩;have lt3:∀ b ∈ fp,b<s3.heap.objs.size:=λb hb=>by rw[hsz];exact QI (olt b hb)
 refine zh2 λh4 hn4 k34 cs4=>?_;have I4:=zib (h':=h4) (tk:=s3.toks) I3 S f3 lt3 hn4 k34 cs4;have st4:tn 0 h4:=T.keep _ _ _ st2 λb hb o e=>k34 b o (k23 b o e);generalize hX:zbr X scope N' s3.heap.objs.size s3 (upd H2 s2.heap.objs.size (.lst [])) fp=X' at I4;have hA:X'.A=X.A:=by rw[<- hX];rfl
 -- the iterator's objects,in the block
 have fpX:∀ {H':Hp} {pl:List (Addr × Obj)},(∀ b ∈ fp,H' b=none)->pl = []->∀ b ∈ fp,FpOk X' pl H' b:=λ{H' pl} hn0 hpl b hb=>by
  subst hpl;obtain⟨q0,q1,q2,q3,q4,q5⟩:=f3 b hb;subst hX;refine⟨hn0 b hb,Qm (lt3 b hb),λz=>?_,.inl hb,λx c e=>(ze2 I3 S x c e).elim (q4 x c) λz w=>QQ _ (Q7 (lt3 b hb) (ZK (w ▸ z.2))),λp hp=>absurd (show p ∈ ([]:List (Addr × Obj)) from hp) (by simp)⟩;rcases Qs.mp (I3.stkSub b z) with z|z
  ·exact q1 z
  ·exact q2 z
 have hcX:X'.calm=true:=by rw[<- hX];exact hc
 have hR:∀ s':Vc,(∃ (m:Nat) (i:Nat) (ys:List V) (H':Hp),Inv X' [] (Qh h none++σ) H' s'/\tn i s'.heap/\(∀ b ∈ fp,H' b=none)/\W i m ys H')->True:=λ_ _=>trivial
 have loop:∀ (sL:Vc),(Inv X' [] (Qh h none++σ) (upd H2 s2.heap.objs.size (.lst [])) sL)->tn 0 sL.heap ->
  Uw (model X.prog X.w) X.A (.compLoop (.ListComp elt [⟨tg,iter,ifs,0⟩] scope pos) 0 (.ref it) (.ref s2.heap.objs.size) X'.env)
   (GL (model X.prog X.w) X.A X.xe none (EP X pins σ Q) (.ref s2.heap.objs.size) s3.heap.objs.size) sL:=by
  intro sL IL stL;refine zgm (λn s'=>∃ i ys H',Inv X' [] (Qh h none++σ) H' s'/\tn i s'.heap/\(∀ b ∈ fp,H' b=none)/\W i n ys H') ?_ m0 ⟨0,[],_,IL,stL,λb hb=>(f3 b hb).1,w0⟩;rintro n s5 ⟨i,ys,H5,I5,st5,fr5,w5⟩;obtain⟨hDy,hh⟩:=turn i n ys H5 w5;have eP:X'.prog=X.prog:=by rw[<- hX];rfl
  have eW:X'.w=X.w:=by rw[<- hX];rfl
  have eK:X'.K=X.K:=by rw[<- hX];rfl
  have eE:X'.xe=λ_ _=>False:=by rw[<- hX];rfl
  rcases hh with ⟨stop,qn⟩|⟨go,step⟩
  ·have:=T.done X' eP eW eK hcX i [] s5 _ H5 (λ_ _=>False) I5 (fpX fr5 rfl) st5 stop;rw[hA] at this;refine thn this λr s6 ⟨hr,I6⟩=>?_;subst hr;obtain⟨m6,hm6,_⟩:=id I6.loc;refine⟨m6,?_,λh7 hs7=>?_⟩
   ·rw[<- hX] at hm6;exact hm6
   ·rw[<- hX] at I6;exact⟨.ref s2.heap.objs.size,H5,zl6 I3 S f3 I6 hs7,rfl,qn⟩
  ·have:=T.item X' eP eW eK hcX i [] s5 _ H5 (λ_ _=>False) I5 (fpX fr5 rfl) st5 go;rw[hA] at this;refine thn this λr s6 ⟨u,hr,h6⟩=>?_;subst hr;refine thn h6 λ_ s7 ⟨x,H7,I7,r7,y7,st7,fr7⟩=>?_;have I7':=I7.pinned (fpX fr7 rfl) (T.obj _ _ st7)
   have back:∀ {σ':St} {H':Hp} {s':Vc},Inv X' ([]++zec fp s7.heap) σ' H' s'->σ'.length=(Qh h none++σ:St).length->σ'.drop h=(Qh h none++σ:St).drop h ->
    Inv X' [] (Qh h none++σ) H' s'/\tn (i+1) s'.heap/\∀ b ∈ fp,H' b=none:=by
    intro σ' H' s' I' hl hd;refine⟨I'.unpinned.weak hl.symm λj v e=>?_,T.keep _ _ _ st7 λb hb o e=>?_,λb hb=>?_⟩
    ·by_cases hj:j<h
     ·rw[Qz (by simpa using hj),QV,GQ hj] at e;cases e
     ·have e1:(σ'.drop h)[j - h]? = σ'[j]?:=by rw[QY];congr 1;omega
      have e2:((Qh h none++σ:St).drop h)[j - h]? = (Qh h none++σ:St)[j]?:=by rw[QY];congr 1;omega
      rw[<- e1,hd,e2];exact e
    ·exact(I'.pin (b,o) (Q2 _ (Q2 _ (zb3 hb e)))).1
    ·obtain⟨o,e,_⟩:=T.obj _ _ st7 b hb;exact(I'.pin (b,o) (Q2 _ (Q2 _ (zb3 hb e)))).2.1
   have hg':=hg s3.heap.objs.size s3 (upd H2 s2.heap.objs.size (.lst [])) fp;have ht':=ht s3.heap.objs.size s3 (upd H2 s2.heap.objs.size (.lst [])) fp;have he':=he s3.heap.objs.size s3 (upd H2 s2.heap.objs.size (.lst [])) fp;rw[hX] at hg' ht' he';have hl0:h<=(Qh h none++σ:St).length:=by simp
   have a1:=hg' _ s7 _ H7 x u _ I7' r7 (ho x _ H7 _ hl0 (step x H7 y7));rw[hA,eP,eW,eE] at a1;refine thn a1 λ_ s8 ⟨σ8,H8,I8,q8,l8,d8⟩=>?_;have a2:=ht' _ s8 σ8 H8 _ I8 q8;rw[hA,eP,eW,eE] at a2;refine thn a2 λc s9 ⟨H9,I9,q9⟩=>?_
   cases c with
   | false =>
     obtain⟨m',hm',w'⟩:=q9;obtain⟨b1,b2,b3⟩:=back I9 l8 d8;exact⟨m',hm',i+1,ys,H9,b1,b2,b3,w'⟩
   | true =>
     have a3:=he' _ s9 σ8 H9 _ I9 q9;rw[hA,eP,eW,eE] at a3;refine thn a3 λyv s10 ⟨y,H10,I10,r10,hD10,hz10,m',hm',w'⟩=>?_;have a4:=zfv (X:=X') _ s10 σ8 H10 (.ref s2.heap.objs.size) [y] (.ref s2.heap.objs.size) [yv] (λ_ Hz=>Hz=upd H10 s2.heap.objs.size (.lst (ys ++ [y]))) I10 rfl (.cons r10 .nil) ⟨_,ys,y,rfl,rfl,hD10,hz10,rfl⟩;rw[hA,eP,eW,eE] at a4;refine thn a4 λ_ s11 ⟨_,H11,I11,_,e11⟩=>?_;subst e11;obtain⟨b1,b2,b3⟩:=back I11 l8 d8;exact⟨m',hm',i+1,ys ++ [y],_,b1,b2,b3,w'⟩
 have fin:=UQ (prog:=X.prog) (w:=X.w) (A:=X.A) (R:=GL (model X.prog X.w) X.A X.xe none (EP X pins σ Q) (.ref s2.heap.objs.size) s3.heap.objs.size) (elt:=elt) (target:=tg) (iter:=iter) (ifs:=ifs) (rest := []) (scope:=scope) (pos:=pos) (it := .ref it) (acc := .ref s2.heap.objs.size) (env:=X'.env)
  (loop _ I4 st4) (T.self _ 0 _ _ _ st4 (loop _ I4 st4))
 have hE:X'.env=compEnvC scope (VA (s3.heap.objs.size+1) scope.names (clOf scope.names X.env)) s3.heap.objs.size X.env:=by rw[<- hX];rfl
 rw[hE] at fin;exact fin
theorem zh6{X:Cx}{elt tg iter:Expr}{ifs:List Expr}{scope:VP}{pos py spos:Pos}{wi:TI}{g:TG}{tf:TT}{te:TE}{N':List Str}{n0:Nat}{x0:Str}(hN0:X.N.Nodup)(hi0:X.N[n0]? = some x0)(hx0:X.env.scope.names.lookup x0=some .local)(hsw:VH (.ListComp elt [⟨tg,iter,ifs,0⟩] scope pos) (some (.Name x0 py)) spos.line X.env=pure true)(h:Nat)(S:ScopeOk h N' X.N scope X.env.scope)(hc:X.calm=true)(hi:PI X tg iter wi)
 (hg:∀ C s H ex,PG (zbr X scope N' C s H ex) tg g) (ho:OwnG h g) (ht:∀ C s H ex,PF (zbr X scope N' C s H ex) ifs tf) (he:∀ C s H ex,PE (zbr X scope N' C s H ex) elt te)
 (hs:∀ x,V7 iter X.env x=pure x:=by intro _;rfl) :
 PS X (.Assign [.Name x0 py] (.ListComp elt [⟨tg,iter,ifs,0⟩] scope pos) spos) (tAsg (ze7 h wi g tf te) (zao n0)):=by
 intro pins s σ H DD I hq;rw[exec_Assign_Name_used _ _ _ _ hsw];refine Va (wpAny_standAt (Va ?_));show wpAny _ X.A (do let _ <- comprehension (.ListComp elt [⟨tg,iter,ifs,0⟩] scope pos) scope X.env _ (newList []) false (eval iter X.env) (some (Uo (.Name x0 py) X.env))) _ _ s;refine Va (V0 (UH (use:=some (Uo (.Name x0 py) X.env)) (Q:=λ_ s'=>SP X pins DD .next s') rfl hs (zhe (env:=X.env) λp hp hk=>I.ok.has p.1 (S.free p hp hk).2) S.kind S.loc ?_) (λ_ s' hq=>Vd (Vd hq)) λ_ _ e=>e);refine thn (hi pins s σ H _ I hq) λv s1 h1=>thn h1 λitv s2 h2=>?_;obtain⟨it,fp,tn,J,H2,rfl,I2,T,st2,f2,hq⟩:=h2;refine Vm ?_ (by show 0<=sizeLine;exact Qw _);have hD:H2 s2.heap.objs.size=none:=I2.hok.fresh (Qc _);have I3:Inv X pins σ (upd H2 s2.heap.objs.size (.lst [])) { s2 with heap:=s2.heap.push { cls := .type "list", data := .seq ([]:List Vb).toArray },toks:=s2.toks }:=I2.lnew (t':=s2.toks) .nil (Qw _);generalize hs3:({ s2 with heap:=s2.heap.push { cls := .type "list", data := .seq ([]:List Vb).toArray },toks:=s2.toks }:Vc)=s3 at I3;have hs3':({ s2 with heap:=s2.heap.push { cls := .type "list", data := .seq ([]:List Vb).toArray } }:Vc)=s3:=hs3;obtain⟨W,⟨m0,w0⟩,turn⟩:=hq s2.heap.objs.size hD
 have olt:∀ b ∈ fp,b<s2.heap.objs.size:=λb hb=>by
  obtain⟨o,e,_⟩:=T.obj _ _ st2 b hb;exact Heap.lt_size e
 have hsz:s3.heap.objs.size=s2.heap.objs.size+1:=by rw[<- hs3];exact Heap.size_push ..
 have k23:∀ b o,s2.heap.get? b=some o->s3.heap.get? b=some o:=λb o e=>by rw[<- hs3];exact Heap.get?_push_of_some _ e
 have f3:∀ b ∈ fp,FpOk X pins (upd H2 s2.heap.objs.size (.lst [])) b:=λb hb=>⟨by rw[zaa (Qm (olt b hb))];exact(f2 b hb).1,(f2 b hb).2⟩;have lt3:∀ b ∈ fp,b<s3.heap.objs.size:=λb hb=>by rw[hsz];exact QI (olt b hb)
 refine zh2 λh4 hn4 k34 cs4=>?_;have I4:=zib (h':=h4) (tk:=s3.toks) I3 S f3 lt3 hn4 k34 cs4;have st4:tn 0 h4:=T.keep _ _ _ st2 λb hb o e=>k34 b o (k23 b o e);generalize hX:zbr X scope N' s3.heap.objs.size s3 (upd H2 s2.heap.objs.size (.lst [])) fp=X' at I4;have hA:X'.A=X.A:=by rw[<- hX];rfl
 -- the iterator's objects,in the block
 have fpX:∀ {H':Hp} {pl:List (Addr × Obj)},(∀ b ∈ fp,H' b=none)->pl = []->∀ b ∈ fp,FpOk X' pl H' b:=λ{H' pl} hn0 hpl b hb=>by
  subst hpl;obtain⟨q0,q1,q2,q3,q4,q5⟩:=f3 b hb;subst hX;refine⟨hn0 b hb,Qm (lt3 b hb),λz=>?_,.inl hb,λx c e=>(ze2 I3 S x c e).elim (q4 x c) λz w=>QQ _ (Q7 (lt3 b hb) (ZK (w ▸ z.2))),λp hp=>absurd (show p ∈ ([]:List (Addr × Obj)) from hp) (by simp)⟩;rcases Qs.mp (I3.stkSub b z) with z|z
  ·exact q1 z
  ·exact q2 z
 have hcX:X'.calm=true:=by rw[<- hX];exact hc
 have hR:∀ s':Vc,(∃ (m:Nat) (i:Nat) (ys:List V) (H':Hp),Inv X' [] (Qh h none++σ) H' s'/\tn i s'.heap/\(∀ b ∈ fp,H' b=none)/\W i m ys H')->True:=λ_ _=>trivial
 have loop:∀ (sL:Vc),(Inv X' [] (Qh h none++σ) (upd H2 s2.heap.objs.size (.lst [])) sL)->tn 0 sL.heap ->
  Uw (model X.prog X.w) X.A (.compLoop (.ListComp elt [⟨tg,iter,ifs,0⟩] scope pos) 0 (.ref it) (.ref s2.heap.objs.size) X'.env)
   (GL (model X.prog X.w) X.A X.xe (some (Uo (.Name x0 py) X.env)) (λ_ s'=>SP X pins DD .next s') (.ref s2.heap.objs.size) s3.heap.objs.size) sL:=by
  intro sL IL stL;refine zgm (λn s'=>∃ i ys H',Inv X' [] (Qh h none++σ) H' s'/\tn i s'.heap/\(∀ b ∈ fp,H' b=none)/\W i n ys H') ?_ m0 ⟨0,[],_,IL,stL,λb hb=>(f3 b hb).1,w0⟩;rintro n s5 ⟨i,ys,H5,I5,st5,fr5,w5⟩;obtain⟨hDy,hh⟩:=turn i n ys H5 w5;have eP:X'.prog=X.prog:=by rw[<- hX];rfl
  have eW:X'.w=X.w:=by rw[<- hX];rfl
  have eK:X'.K=X.K:=by rw[<- hX];rfl
  have eE:X'.xe=λ_ _=>False:=by rw[<- hX];rfl
  rcases hh with ⟨stop,qn⟩|⟨go,step⟩
  ·have:=T.done X' eP eW eK hcX i [] s5 _ H5 (λ_ _=>False) I5 (fpX fr5 rfl) st5 stop;rw[hA] at this;refine thn this λr s6 ⟨hr,I6⟩=>?_;subst hr;obtain⟨m6,hm6,_⟩:=id I6.loc;have hC6:H5 s3.heap.objs.size=none:=by rw[<- hX] at I6;exact I6.free
   have hm6:s6.heap.Ns s3.heap.objs.size m6:=by rw[<- hX] at hm6;exact hm6
   have J6:Inv X pins σ H5 s6:=by rw[<- hX] at I6;exact zl6 I3 S f3 I6 (Heap.SameBut.refl ..)
   have neL:s3.heap.objs.size ≠ X.env.locals:=Zs I3.lt
   have neC:∀ x c,X.env.cells.lookup x=some c->c ≠ s3.heap.objs.size:=λx c e=>by
    obtain⟨v,z⟩:=I3.cell x c e;exact Qm z.lt
   show wpAny (model X.prog X.w) X.A (Uo (.Name x0 py) X.env (.ref s2.heap.objs.size)) _ _ s6;refine wpAny_assign_Name (zju (v := .ref s2.heap.objs.size) J6 hN0 hi0 (.inl hx0) rfl (λs7 I7 ⟨a,hsb,ha⟩=>?_) (.inr hx0))
   have hac:s3.heap.objs.size ≠ a:=by
    rcases ha with rfl|ha
    ·exact neL
    ·exact Zj (neC _ _ ha)
   refine⟨m6,hm6.sameBut hsb hac,λh8 hs8=>⟨_,H5,I7.turned (t':=s7.toks) (it:=s3.heap.objs.size) (λb o hb e=>(hs8.2 b hb).trans e) hC6 neL (.inr I3.sz) neC (λp hp=>?_),qn⟩⟩;exact Qm (Heap.lt_size (I3.pin p hp).1)
  ·have:=T.item X' eP eW eK hcX i [] s5 _ H5 (λ_ _=>False) I5 (fpX fr5 rfl) st5 go;rw[hA] at this;refine thn this λr s6 ⟨u,hr,h6⟩=>?_;subst hr;refine thn h6 λ_ s7 ⟨x,H7,I7,r7,y7,st7,fr7⟩=>?_;have I7':=I7.pinned (fpX fr7 rfl) (T.obj _ _ st7)
   have back:∀ {σ':St} {H':Hp} {s':Vc},Inv X' ([]++zec fp s7.heap) σ' H' s'->σ'.length=(Qh h none++σ:St).length->σ'.drop h=(Qh h none++σ:St).drop h ->
    Inv X' [] (Qh h none++σ) H' s'/\tn (i+1) s'.heap/\∀ b ∈ fp,H' b=none:=by
    intro σ' H' s' I' hl hd;refine⟨I'.unpinned.weak hl.symm λj v e=>?_,T.keep _ _ _ st7 λb hb o e=>?_,λb hb=>?_⟩
    ·by_cases hj:j<h
     ·rw[Qz (by simpa using hj),QV,GQ hj] at e;cases e
     ·have e1:(σ'.drop h)[j - h]? = σ'[j]?:=by rw[QY];congr 1;omega
      have e2:((Qh h none++σ:St).drop h)[j - h]? = (Qh h none++σ:St)[j]?:=by rw[QY];congr 1;omega
      rw[<- e1,hd,e2];exact e
    ·exact(I'.pin (b,o) (Q2 _ (Q2 _ (zb3 hb e)))).1
    ·obtain⟨o,e,_⟩:=T.obj _ _ st7 b hb;exact(I'.pin (b,o) (Q2 _ (Q2 _ (zb3 hb e)))).2.1
   have hg':=hg s3.heap.objs.size s3 (upd H2 s2.heap.objs.size (.lst [])) fp;have ht':=ht s3.heap.objs.size s3 (upd H2 s2.heap.objs.size (.lst [])) fp;have he':=he s3.heap.objs.size s3 (upd H2 s2.heap.objs.size (.lst [])) fp;rw[hX] at hg' ht' he';have hl0:h<=(Qh h none++σ:St).length:=by simp
   have a1:=hg' _ s7 _ H7 x u _ I7' r7 (ho x _ H7 _ hl0 (step x H7 y7));rw[hA,eP,eW,eE] at a1;refine thn a1 λ_ s8 ⟨σ8,H8,I8,q8,l8,d8⟩=>?_;have a2:=ht' _ s8 σ8 H8 _ I8 q8;rw[hA,eP,eW,eE] at a2;refine thn a2 λc s9 ⟨H9,I9,q9⟩=>?_
   cases c with
   | false =>
     obtain⟨m',hm',w'⟩:=q9;obtain⟨b1,b2,b3⟩:=back I9 l8 d8;exact⟨m',hm',i+1,ys,H9,b1,b2,b3,w'⟩
   | true =>
     have a3:=he' _ s9 σ8 H9 _ I9 q9;rw[hA,eP,eW,eE] at a3;refine thn a3 λyv s10 ⟨y,H10,I10,r10,hD10,hz10,m',hm',w'⟩=>?_;have a4:=zfv (X:=X') _ s10 σ8 H10 (.ref s2.heap.objs.size) [y] (.ref s2.heap.objs.size) [yv] (λ_ Hz=>Hz=upd H10 s2.heap.objs.size (.lst (ys ++ [y]))) I10 rfl (.cons r10 .nil) ⟨_,ys,y,rfl,rfl,hD10,hz10,rfl⟩;rw[hA,eP,eW,eE] at a4;refine thn a4 λ_ s11 ⟨_,H11,I11,_,e11⟩=>?_;subst e11;obtain⟨b1,b2,b3⟩:=back I11 l8 d8;exact⟨m',hm',i+1,ys ++ [y],_,b1,b2,b3,w'⟩
 have fin:=UQ (prog:=X.prog) (w:=X.w) (A:=X.A) (R:=GL (model X.prog X.w) X.A X.xe (some (Uo (.Name x0 py) X.env)) (λ_ s'=>SP X pins DD .next s') (.ref s2.heap.objs.size) s3.heap.objs.size) (elt:=elt) (target:=tg) (iter:=iter) (ifs:=ifs) (rest := []) (scope:=scope) (pos:=pos) (it := .ref it) (acc := .ref s2.heap.objs.size) (env:=X'.env)
  (loop _ I4 st4) (T.self _ 0 _ _ _ st4 (loop _ I4 st4))
 have hE:X'.env=compEnvC scope (VA (s3.heap.objs.size+1) scope.names (clOf scope.names X.env)) s3.heap.objs.size X.env:=by rw[<- hX];rfl
 rw[hE] at fin;exact fin
end L3
namespace L3
open PySem PySem.Spec PySem.Calls
open PyProof.Rows hiding St
open L2
section
variable {X : Cx} {pins : List (Addr × Obj)} {σ : St} {H : Hp} {s : Vc} {a : Addr}
def XR(a C dx:Addr):HO := .ext λh=>∃ o vs,h.get? a=some o/\o.cls = .ref C/\o.dict=some dx/\o.data = .fields vs
end
mutual
inductive Is (K:PySem.W.Frag) (F:Addr->Prop) (H:Hp):V->Ve->Prop
 | none:Is K F H .non .none
 | bool (b):Is K F H (.bl b) (.bool b)
 | int (i):Is K F H (.int i) (.int i)
 | str (x):Is K F H (.str x) (.str x)
 | list {a xs ds}:F a->H a=some (.lst xs)->IsAll K F H xs ds->Is K F H (.ref a) (.list ds)
 | tuple {a xs ds}:SqT K H a xs->IsAll K F H xs ds->Is K F H (.ref a) (.tuple ds)
inductive IsAll (K:PySem.W.Frag) (F:Addr->Prop) (H:Hp):List V->List Ve->Prop
 | nil:IsAll K F H [] []
 | cons {v vs d ds}:Is K F H v d->IsAll K F H vs ds->IsAll K F H (v::vs) (d::ds)
end
section
variable {K : PySem.W.Frag} {F F' : Addr → Prop} {H H' : Hp}
mutual
theorem Is.to(hL:∀ a xs,F a->H a=some (.lst xs)->F' a/\H' a=some (.lst xs))(hT:∀ a xs,SqT K H a xs->SqT K H' a xs):∀ {v d},Is K F H v d->Is K F' H' v d
 | _,_,.none => .none
 | _,_,.bool b => .bool b
 | _,_,.int i => .int i
 | _,_,.str x => .str x
 | _,_,.list f q r => .list (hL _ _ f q).1 (hL _ _ f q).2 (IsAll.to hL hT r)
 | _,_,.tuple q r => .tuple (hT _ _ q) (IsAll.to hL hT r)
theorem IsAll.to(hL:∀ a xs,F a->H a=some (.lst xs)->F' a/\H' a=some (.lst xs))(hT:∀ a xs,SqT K H a xs->SqT K H' a xs):∀ {vs ds},IsAll K F H vs ds->IsAll K F' H' vs ds
 | _,_,.nil => .nil
 | _,_,.cons r t => .cons (Is.to hL hT r) (IsAll.to hL hT t)
end
theorem IsAll.length:∀ {vs ds},IsAll K F H vs ds->vs.length=ds.length
 | _,_,.nil=>rfl
 | _,_,.cons _ t=>by rw[Qf,Qf,IsAll.length t]
theorem IsAll.get:∀ {vs ds} {i:Nat} {d},IsAll K F H vs ds->ds[i]? = some d->∃ v,vs[i]? = some v/\Is K F H v d
 | _,_,_,_,.nil,e=>by simp at e
 | _,_,0,_,.cons r _,e=>by simp at e;subst e;exact⟨_,rfl,r⟩
 | _,_,i+1,d,.cons _ t,e=>by
   obtain⟨v,h1,h2⟩:=IsAll.get (i:=i) (d:=d) t (by simpa using e);exact⟨v,by simpa using h1,h2⟩
theorem IsAll.append:∀ {vs ds ws es},IsAll K F H vs ds->IsAll K F H ws es->IsAll K F H (vs++ws) (ds++es)
 | _,_,_,_,.nil,s=>s
 | _,_,_,_,.cons r t,s => .cons r (IsAll.append t s)
theorem IsAll.snoc{vs ds v d}(h:IsAll K F H vs ds)(r:Is K F H v d):IsAll K F H (vs ++ [v]) (ds ++ [d]):=h.append (.cons r .nil)
theorem IsAll.take:∀ {vs ds} (n:Nat),IsAll K F H vs ds->IsAll K F H (vs.take n) (ds.take n)
 | _,_,0,_ => .nil
 | _,_,_+1,.nil => .nil
 | _,_,n+1,.cons r t => .cons r (IsAll.take n t)
theorem IsAll.drop:∀ {vs ds} (n:Nat),IsAll K F H vs ds->IsAll K F H (vs.drop n) (ds.drop n)
 | _,_,0,r=>r
 | _,_,_+1,.nil => .nil
 | _,_,n+1,.cons _ t=>IsAll.drop n t
end
def SameB(M:Addr->Prop)(H H':Hp):Prop:=∀ a o,H a=some o->¬ M a->H' a=some o
theorem SameB.refl(M:Addr->Prop)(H:Hp):SameB M H H:=λ_ _ h _=>h
theorem SameB.trans{M:Addr->Prop}{H H1 H2:Hp}(a:SameB M H H1)(b:SameB M H1 H2):SameB M H H2:=λc o h n=>b c o (a c o h n) n
theorem SameB.of{M:Addr->Prop}{H H':Hp}(s:Same H H'):SameB M H H':=λa o h _=>s a o h
theorem SameB.free{M:Addr->Prop}{H H':Hp}(e:SameB M H H'){l:Addr}(hm:¬ M l)(h:H' l=Zl):H l=Zl:=by
 cases q:H l with
 | none=>rfl
 | some o=>rw[e l o q hm] at h;cases h
def TupStay(H H':Hp):Prop:=∀ a u,(∃ xs,u=HO.tup xs\/∃ o,u=HO.frz o (.tup xs))->H a=some u->H' a=some u
theorem SqT.stay{K:PySem.W.Frag}{H H':Hp}{a:Addr}{xs:List V}(e:TupStay H H')(h:SqT K H a xs):SqT K H' a xs:=by
 rcases h with (h|⟨o,h⟩)|h
 ·exact .inl (.inl (e _ _ ⟨xs,.inl rfl⟩ h))
 ·exact .inl (.inr ⟨o,e _ _ ⟨xs,.inr ⟨o,rfl⟩⟩ h⟩)
 ·exact .inr h
structure Ob where
 M:Addr->Prop
 P:Hp->Prop
 v:V
structure Ob.Ok (O:Ob):Prop where
 loc:∀ H H',(∀ a,O.M a->H' a=H a)->O.P H->O.P H'
 mutb:∀ H a o,O.P H->H a=some o->O.M a->(∀ xs,o ≠ .tup xs)/\∀ q u,o ≠ .frz q u
 here:∀ H a,O.P H->O.M a->∃ o,H a=some o
theorem Ob.Ok.grow{O:Ob}(ok:O.Ok)(H H':Hp)(s:Same H H')(p:O.P H):O.P H':=ok.loc H H' (λa m=>by
 obtain⟨o,e⟩:=ok.here H a p m
 rw[e,s a o e]) p
def Ob.plus(O:Ob)(D:Addr)(u:HO):Ob:=⟨λa=>O.M a\/a=D,λH=>O.P H/\H D=some u,O.v⟩
theorem Ob.Ok.plus{O:Ob}(ok:O.Ok)(D:Addr)(xs:List V):(O.plus D (.lst xs)).Ok :=
 ⟨λH H' e p=>⟨ok.loc H H' (λa m=>e a (.inl m)) p.1,(e D (.inr rfl)).trans p.2⟩,
  λH a o p e m=>by
   rcases m with m|rfl
   ·exact ok.mutb H a o p.1 e m
   ·rw[p.2] at e;cases e;exact⟨λ_ h=>(by cases h),λ_ _ h=>(by cases h)⟩,
  λH a p m=>by
   rcases m with m|rfl
   ·exact ok.here H a p.1 m
   ·exact⟨_,p.2⟩⟩
structure Stp (O:Ob) (H H':Hp):Prop where
 s:SameB O.M H H'
 p:O.P H->O.P H'
 t:TupStay H H'
theorem Stp.refl(O:Ob)(H:Hp):Stp O H H:=⟨.refl _ _,λh=>h,λ_ _ _ h=>h⟩
theorem Stp.trans{O:Ob}{H H1 H2:Hp}(a:Stp O H H1)(b:Stp O H1 H2):Stp O H H2:=⟨a.s.trans b.s,λh=>b.p (a.p h),λc u hu h=>b.t c u hu (a.t c u hu h)⟩
theorem Stp.same{O:Ob}(ok:O.Ok){H H':Hp}(s:Same H H'):Stp O H H':=⟨.of s,ok.grow H H' s,λa u _ h=>s a u h⟩
theorem same_new{H:Hp}{p:Addr}(h:H p=none)(o:HO):Same H (upd H p o):=λb u q=>by rw[zaa (zbp q h)];exact q
theorem Stp.new{O:Ob}(ok:O.Ok){H:Hp}{p:Addr}(h:H p=none)(o:HO):Stp O H (upd H p o) := .same ok (same_new h o)
section
variable {K : PySem.W.Frag} {O : Ob} {F F' : Addr → Prop} {H H' : Hp} {v : V} {d : Ve}
theorem Is.stp(s:Stp O H H')(hF:∀ a,F a->F' a)(hM:∀ a,F a->¬ O.M a)(h:Is K F H v d):Is K F' H' v d :=
 h.to (λa xs f q=>⟨hF a f,s.s a _ q (hM a f)⟩) λa xs q=>SqT.stay (h:=q) s.t
theorem IsAll.stp{vs:List V}{ds:List Ve}(s:Stp O H H')(hF:∀ a,F a->F' a)(hM:∀ a,F a->¬ O.M a)(h:IsAll K F H vs ds):IsAll K F' H' vs ds :=
 h.to (λa xs f q=>⟨hF a f,s.s a _ q (hM a f)⟩) λa xs q=>SqT.stay (h:=q) s.t
theorem Is.weak(h:Is K F H v d)(hF:∀ a,F a->F' a):Is K F' H v d:=h.to (λa xs f q=>⟨hF a f,q⟩) λa xs q=>q
theorem IsAll.weak{vs:List V}{ds:List Ve}(h:IsAll K F H vs ds)(hF:∀ a,F a->F' a):IsAll K F' H vs ds:=h.to (λa xs f q=>⟨hF a f,q⟩) λa xs q=>q
end
mutual
def flat:Ve->Bool
 | .none=>true
 | .bool _=>true
 | .int _=>true
 | .str _=>true
 | .tuple ds=>flats ds
 | _=>false
def flats:List Ve->Bool
 | []=>true
 | d::ds=>flat d && flats ds
end
mutual
theorem Is.flat{K:PySem.W.Frag}{F F':Addr->Prop}{H H':Hp}(t:TupStay H H'):∀ {v d},Is K F H v d->L3.flat d=true->Is K F' H' v d
 | _,_,.none,_ => .none
 | _,_,.bool b,_ => .bool b
 | _,_,.int i,_ => .int i
 | _,_,.str x,_ => .str x
 | _,_,.list _ _ _,h=>by simp[L3.flat] at h
 | _,_,.tuple q r,h => .tuple (SqT.stay t q) (IsAll.flats t r (by simpa[L3.flat] using h))
theorem IsAll.flats{K:PySem.W.Frag}{F F':Addr->Prop}{H H':Hp}(t:TupStay H H'):∀ {vs ds},IsAll K F H vs ds->L3.flats ds=true->IsAll K F' H' vs ds
 | _,_,.nil,_ => .nil
 | _,_,.cons r s,h=>by
   rw[L3.flats,Q5] at h;exact .cons (Is.flat t r h.1) (IsAll.flats t s h.2)
end
theorem TupStay.refl(H:Hp):TupStay H H:=λ_ _ _ h=>h
section
variable {X : Cx} {pins : List (Addr × Obj)} {σ : St} {H : Hp} {s : Vc} {F : Addr → Prop}
mutual
theorem Is.reads(I:Inv X pins σ H s):∀ {v d} {u:Vb},Is X.K F H v d->RelV v u->∃ as,U0 s.heap u d as
 | _,_,_,.none,r=>by cases r;exact⟨_,.none⟩
 | _,_,_,.bool b,r=>by cases r;exact⟨_,.bool b⟩
 | _,_,_,.int i,r=>by obtain⟨t,rfl⟩:=r;exact⟨_,.int i t⟩
 | _,_,_,.str x,r=>by obtain⟨t,rfl⟩:=r;exact⟨_,.str x t⟩
 | _,_,_,.list f q rs,r=>by
   cases r;obtain⟨its,rv,⟨o,n,e,c,_,dt⟩,_⟩:=I.list (.of q);obtain⟨as,ra⟩:=IsAll.reads I rs rv;exact⟨_,.list e c dt (by simpa using ra)⟩
 | _,_,_,.tuple q rs,r=>by
   cases r;obtain⟨its,rv,⟨o,e,c,n,dt⟩,_⟩:=I.tuple q;obtain⟨as,ra⟩:=IsAll.reads I rs rv;exact⟨_,.tuple e c dt (by simpa using ra)⟩
theorem IsAll.reads(I:Inv X pins σ H s):∀ {vs ds} {us:List Vb},IsAll X.K F H vs ds->Vals vs us->∃ as,Ud s.heap us ds as
 | _,_,_,.nil,r=>by cases r;exact⟨_,.nil⟩
 | _,_,_,.cons h t,r=>by
   cases r with
   | cons r1 r2 =>
     obtain⟨as,ra⟩:=Is.reads I h r1;obtain⟨bs,rb⟩:=IsAll.reads I t r2;exact⟨_,.cons ra rb⟩
end
end
def IsS(K:PySem.W.Frag)(F:Addr->Prop)(H:Hp)(v:V)(n:Nat):Prop:=∃ a xs,v = .ref a/\xs.length=n/\((F a/\Rd H a (.lst xs))\/∀ H',SqL K H' a xs)
theorem IsS.to{K:PySem.W.Frag}{F F':Addr->Prop}{H H':Hp}{v:V}{n:Nat}(hL:∀ a u,F a->H a=some u->F' a/\H' a=some u)(h:IsS K F H v n):IsS K F' H' v n:=by
 obtain⟨a,xs,e,l,⟨f,q|⟨o,q⟩⟩|q⟩:=h
 ·exact⟨a,xs,e,l,.inl ⟨(hL a _ f q).1,.inl (hL a _ f q).2⟩⟩
 ·exact⟨a,xs,e,l,.inl ⟨(hL a _ f q).1,.inr ⟨o,(hL a _ f q).2⟩⟩⟩
 ·exact⟨a,xs,e,l,.inr q⟩
def DkAt(H:Hp)(v:V)(a:Addr)(ks:List Str):Prop:=v = .ref a/\∃ kvs,H a=some (.dK kvs)/\kvs.map (·.1)=ks.map JA
theorem DkAt.to{H H':Hp}{v:V}{a:Addr}{ks:List Str}(h:DkAt H v a ks)(e:∀ u,H a=some u->H' a=some u):DkAt H' v a ks:=let ⟨h1,kvs,h2,h3⟩:=h; ⟨h1,kvs,e _ h2,h3⟩
inductive R where
 | o (d:Ve)
 | n (ds:List Ve)
def R.d:R->Ve
 | .o d=>d
 | .n ds => .list ds
structure Thg where
 R:PySem.W.Frag->(Addr->Prop)->(Addr->Prop)->Hp->V->Prop
 to:∀ {K:PySem.W.Frag} {F F' W W':Addr->Prop} {H H':Hp} {v:V},(∀ a u,F a->H a=some u->F' a/\H' a=some u)->(∀ a u,W a->H a=some u->W' a/\H' a=some u)->TupStay H H'->R K F W H v->R K F' W' H' v
inductive DV where
 | im (d:Ve)
 | own (ds:List Ve)
 | ob
 | scr (n:Nat)
 | dct (ks:List Str)
   | gen (f:Addr->List V->HO) (ds:List Ve)
   | rd (f:Addr->List V->HO) (ds:List Ve)
   | exc (C:Addr) (ns:List Str) (ds:List Ve)
   | thg (T:Thg)
   | thr (T:Thg)
abbrev DSt:=List (Option DV)
abbrev DE:=DSt->(R->Prop)->Prop
abbrev DT:=DSt->(Bool->Prop)->Prop
abbrev DA:=DSt->(List Ve->Prop)->Prop
def unM(O:Ob):Addr->Prop:=λa=>¬ O.M a
def ExAt(F:Addr->Prop)(H:Hp)(v:V)(C:Addr)(ns:List Str)(xs:List V):Prop:=∃ a dx,v = .ref a/\F a/\F dx/\H a=some (XR a C dx)/\H dx=some (.xd (ns.zip xs))/\xs.length=ns.length
theorem ExAt.to{F F':Addr->Prop}{H H':Hp}{v:V}{C:Addr}{ns:List Str}{xs:List V}(hL:∀ a u,F a->H a=some u->F' a/\H' a=some u)(h:ExAt F H v C ns xs):ExAt F' H' v C ns xs:=by
 obtain⟨a,dx,e,f1,f2,q1,q2,l⟩:=h;exact⟨a,dx,e,(hL a _ f1 q1).1,(hL dx _ f2 q2).1,(hL a _ f1 q1).2,(hL dx _ f2 q2).2,l⟩
def SeenV(K:PySem.W.Frag)(O:Ob)(H:Hp)(v:V):DV->Prop
 | .im d=>Is K (unM O) H v d
 | .own ds=>Is K (unM O) H v (.list ds)
 | .ob=>v=O.v
 | .scr n=>IsS K (unM O) H v n
 | .dct ks=>∃ a,¬ O.M a/\DkAt H v a ks
 | .gen f ds=>∃ a xs,v = .ref a/\¬ O.M a/\H a=some (f a xs)/\IsAll K (unM O) H xs ds
 | .rd f ds=>∃ a xs,v = .ref a/\¬ O.M a/\H a=some (f a xs)/\IsAll K (unM O) H xs ds
 | .exc C ns ds=>∃ xs,ExAt (unM O) H v C ns xs/\IsAll K (unM O) H xs ds
 | .thg T=>∃ W:Addr->Prop,(∀ a,W a->¬ O.M a/\∃ o,H a=some o)/\T.R K (unM O) W H v
 | .thr T=>∃ W:Addr->Prop,(∀ a,W a->¬ O.M a/\∃ o,H a=some o)/\T.R K (unM O) W H v
structure Seen (K:PySem.W.Frag) (O:Ob) (H:Hp) (σ:St) (ρ:DSt):Prop where
 ok:O.Ok
 p:O.P H
 at_:∀ (i:Nat) r,ρ[i]? = some (some r)->∃ v,σ[i]? = some (some v)/\SeenV K O H v r
 len:ρ.length=σ.length
theorem SeenV.stp{K:PySem.W.Frag}{O:Ob}{H H':Hp}{v:V}{r:DV}(s:Stp O H H')(h:SeenV K O H v r):SeenV K O H' v r:=by
 cases r with
 | im d=>exact Is.stp s (λ_ f=>f) (λ_ f=>f) h
 | own ds=>exact Is.stp s (λ_ f=>f) (λ_ f=>f) h
 | ob=>exact h
 | scr n=>exact IsS.to (λa u f q=>⟨f,s.s a u q f⟩) h
 | dct ks=>obtain⟨a,n,h⟩:=h;exact⟨a,n,h.to λu q=>s.s a u q n⟩
 | gen f ds=>obtain⟨a,xs,e,n,q,z⟩:=h;exact⟨a,xs,e,n,s.s a _ q n,IsAll.stp s (λ_ f=>f) (λ_ f=>f) z⟩
 | rd f ds=>obtain⟨a,xs,e,n,q,z⟩:=h;exact⟨a,xs,e,n,s.s a _ q n,IsAll.stp s (λ_ f=>f) (λ_ f=>f) z⟩
 | exc C ns ds=>obtain⟨xs,e,z⟩:=h;exact⟨xs,e.to λa u f q=>⟨f,s.s a u q f⟩,IsAll.stp s (λ_ f=>f) (λ_ f=>f) z⟩
 | thg T=>obtain⟨W,hw,z⟩:=h;exact⟨W,λa w=>⟨(hw a w).1,let ⟨o,e⟩:=(hw a w).2; ⟨o,s.s a o e (hw a w).1⟩⟩,T.to (λa u f q=>⟨f,s.s a u q f⟩) (λa u w q=>⟨w,s.s a u q (hw a w).1⟩) s.t z⟩
 | thr T=>obtain⟨W,hw,z⟩:=h;exact⟨W,λa w=>⟨(hw a w).1,let ⟨o,e⟩:=(hw a w).2; ⟨o,s.s a o e (hw a w).1⟩⟩,T.to (λa u f q=>⟨f,s.s a u q f⟩) (λa u w q=>⟨w,s.s a u q (hw a w).1⟩) s.t z⟩
theorem Seen.stp{K:PySem.W.Frag}{O:Ob}{H H':Hp}{σ:St}{ρ:DSt}(S:Seen K O H σ ρ)(s:Stp O H H'):Seen K O H' σ ρ :=
 ⟨S.ok,s.p S.p,λi r e=>let ⟨v,h1,h2⟩:=S.at_ i r e; ⟨v,h1,h2.stp s⟩,S.len⟩
def Out(K:PySem.W.Frag)(O:Ob)(H H':Hp)(v:V):R->Prop
 | .o d=>Is K (unM O) H' v d
 | .n ds=>∃ a xs,v = .ref a/\H a=none/\H' a=some (.lst xs)/\IsAll K (unM O) H' xs ds
theorem Out.is{K:PySem.W.Frag}{O:Ob}{H H':Hp}{v:V}{r:R}(ok:O.Ok)(p:O.P H)(h:Out K O H H' v r):Is K (unM O) H' v r.d:=by
 cases r with
 | o d=>exact h
 | n ds =>
   obtain⟨a,xs,rfl,hn,e,q⟩:=h;exact .list (λm=>by obtain⟨o,z⟩:=ok.here H a p m;rw[hn] at z;cases z) e q
def ED(K:PySem.W.Frag)(O:Ob)(t:TE)(f:DE):Prop :=
 ∀ (σ:St) (H:Hp) (ρ:DSt) (Q:VK) (Qd:R->Prop),Seen K O H σ ρ->f ρ Qd->(∀ v H' r,Stp O H H'->Out K O H H' v r->Qd r->Q v H')->t σ H Q
def TD(K:PySem.W.Frag)(O:Ob)(t:TT)(f:DT):Prop :=
 ∀ (σ:St) (H:Hp) (ρ:DSt) (Q:Bool->Hp->Prop) (Qd:Bool->Prop),Seen K O H σ ρ->f ρ Qd->(∀ b H',Stp O H H'->Qd b->Q b H')->t σ H Q
def AD(K:PySem.W.Frag)(O:Ob)(t:TA)(f:DA):Prop :=
 ∀ (σ:St) (H:Hp) (ρ:DSt) (Q:List V->Hp->Prop) (Qd:List Ve->Prop),Seen K O H σ ρ->f ρ Qd->(∀ vs H' ds,Stp O H H'->IsAll K (unM O) H' vs ds->Qd ds->Q vs H')->t σ H Q
section
variable {K : PySem.W.Frag} {O : Ob}
def cD(d:Ve):DE:=λ_ Q=>Q (.o d)
theorem z1a{i:Int}:ED K O (tC (.int i)) (cD (.int i)):=λσ H ρ Q Qd S h k=>k _ H (.o (.int i)) (.refl _ _) (Is.int i) h
theorem z0c{x:Str}:ED K O (tC (.str x)) (cD (.str x)):=λσ H ρ Q Qd S h k=>k _ H (.o (.str x)) (.refl _ _) (Is.str x) h
theorem z2w{b:Bool}:ED K O (tC (.bl b)) (cD (.bool b)):=λσ H ρ Q Qd S h k=>k _ H (.o (.bool b)) (.refl _ _) (Is.bool b) h
def seeR:DV->Option Ve
 | .im d=>some d
 | .own ds=>some (.list ds)
 | .ob=>none
 | .scr _=>none
 | .dct _=>none
 | .gen _ _=>none
 | .rd _ _=>none
 | .exc _ _ _=>none
 | .thg _=>none
 | .thr _=>none
def vD(i:Nat):DE:=λρ Q=>∃ r d,ρ[i]? = some (some r)/\seeR r=some d/\Q (.o d)
theorem zzy{i:Nat}:ED K O (tVar i) (vD i):=λσ H ρ Q Qd S h k=>by
 obtain⟨r,d,e,e2,h⟩:=h;obtain⟨v,hv,sv⟩:=S.at_ i r e;refine⟨v,hv,k _ H _ (.refl _ _) ?_ h⟩
 cases r with
 | im d'=>cases e2;exact sv
 | own ds=>cases e2;exact sv
 | ob=>cases e2
 | scr n=>cases e2
 | dct ks=>cases e2
 | gen f ds=>cases e2
 | rd f ds=>cases e2
 | exc C ns ds=>cases e2
 | thg T=>cases e2
 | thr T=>cases e2
def OpD(K:PySem.W.Frag)(O:Ob)(r:R2)(f:Ve->Ve->(R->Prop)->Prop):Prop :=
 ∀ (H:Hp) (x y:V) (d e:Ve) (Q:VK) (Qd:R->Prop),O.Ok->O.P H->Is K (unM O) H x d->Is K (unM O) H y e->f d e Qd->(∀ v H' r,Stp O H H'->Out K O H H' v r->Qd r->Q v H')->r x y H Q
theorem Out.ahead{H H1 H2:Hp}{v:V}{r:R}(ok:O.Ok)(p:O.P H)(s1:Stp O H H1)(h:Out K O H1 H2 v r):Out K O H H2 v r:=by
 cases r with
 | o d=>exact h
 | n ds =>
   obtain⟨a,xs,rfl,hn,e,q⟩:=h;have m:¬ O.M a:=λm=>by obtain⟨o,z⟩:=ok.here H1 a (s1.p p) m;rw[hn] at z;cases z
   exact⟨a,xs,rfl,s1.s.free m hn,e,q⟩
def opDE(f:Ve->Ve->(R->Prop)->Prop)(fa fb:DE):DE:=λρ Q=>fa ρ λa=>fb ρ λb=>f a.d b.d Q
theorem zkq{r:R2}{ta tb:TE}{f:Ve->Ve->(R->Prop)->Prop}{fa fb:DE}(hr:OpD K O r f)(ha:ED K O ta fa)(hb:ED K O tb fb):ED K O (tOp r ta tb) (opDE f fa fb):=λσ H ρ Q Qd S h k=>by
 refine ha σ H ρ _ _ S h λv H1 a s1 o1 h1=>?_;refine hb σ H1 ρ _ _ (S.stp s1) h1 λw H2 b s2 o2 h2=>?_;have p1:=s1.p S.p;refine hr H2 v w a.d b.d _ _ S.ok (s2.p p1) (Is.stp s2 (λ_ f=>f) (λ_ f=>f) (o1.is S.ok S.p)) (o2.is S.ok p1) h2 λz H3 c s3 o3 h3=>?_;exact k z H3 c ((s1.trans s2).trans s3) (Out.ahead S.ok S.p (s1.trans s2) o3) h3
def fn2(F:Ve->Ve->Option R):Ve->Ve->(R->Prop)->Prop:=λa b Q=>∃ r,F a b=some r/\Q r
def bD(f:DE):DT:=λρ Q=>f ρ λr=>∃ b,r.d = .bool b/\Q b
theorem z0y{t:TE}{f:DE}(h:ED K O t f):TD K O (zet t) (bD f):=λσ H ρ Q Qd S hf k=>by
 refine h σ H ρ _ _ S hf λv H1 r s1 o1 ⟨b,e,q⟩=>?_;have i:=o1.is S.ok S.p;rw[e] at i;cases i;exact⟨b,rfl,k b H1 s1 q⟩
theorem zn8{t:TE}{f:DE}(h:ED K O t f):TD K O (tB t) (bD f):=λσ H ρ Q Qd S hf k=>by
 refine h σ H ρ _ _ S hf λv H1 r s1 o1 ⟨b,e,q⟩=>?_;have i:=o1.is S.ok S.p;rw[e] at i;cases i;exact⟨b,rfl,k b H1 s1 q⟩
def andT(f g:DT):DT:=λρ Q=>f ρ λb=>if b=true then g ρ Q else Q false
def orT(f g:DT):DT:=λρ Q=>f ρ λb=>if b=true then Q true else g ρ Q
theorem z0j{t u:TT}{f g:DT}(h:TD K O t f)(h':TD K O u g):TD K O (tAnd t u) (andT f g):=λσ H ρ Q Qd S hf k=>by
 refine h σ H ρ _ _ S hf λb H1 s1 q=>?_
 cases b with
 | true=>exact h' σ H1 ρ _ _ (S.stp s1) q λc H2 s2 q2=>k c H2 (s1.trans s2) q2
 | false=>exact k false H1 s1 q
theorem z3g{t u:TT}{f g:DT}(h:TD K O t f)(h':TD K O u g):TD K O (tOr t u) (orT f g):=λσ H ρ Q Qd S hf k=>by
 refine h σ H ρ _ _ S hf λb H1 s1 q=>?_
 cases b with
 | false=>exact h' σ H1 ρ _ _ (S.stp s1) q λc H2 s2 q2=>k c H2 (s1.trans s2) q2
 | true=>exact k true H1 s1 q
def andV(f g:DE):DE:=λρ Q=>f ρ λr=>∃ b,r.d = .bool b/\if b=true then g ρ Q else Q (.o (.bool false))
def orV(f g:DE):DE:=λρ Q=>f ρ λr=>∃ b,r.d = .bool b/\if b=true then Q (.o (.bool true)) else g ρ Q
theorem zx0{t u:TE}{f g:DE}(h:ED K O t f)(h':ED K O u g):ED K O (zvq t u) (andV f g):=λσ H ρ Q Qd S hf k=>by
 refine h σ H ρ _ _ S hf λv H1 r s1 o1 ⟨b,e,q⟩=>?_;have i:=o1.is S.ok S.p;rw[e] at i;cases i;refine⟨b,rfl,?_⟩
 cases b with
 | true=>exact h' σ H1 ρ _ _ (S.stp s1) q λc H2 r s2 o2 q2=>k c H2 r (s1.trans s2) (o2.ahead S.ok S.p s1) q2
 | false=>exact k (.bl false) H1 (.o (.bool false)) s1 (.bool false) q
theorem zz7{t u:TE}{f g:DE}(h:ED K O t f)(h':ED K O u g):ED K O (tOrV t u) (orV f g):=λσ H ρ Q Qd S hf k=>by
 refine h σ H ρ _ _ S hf λv H1 r s1 o1 ⟨b,e,q⟩=>?_;have i:=o1.is S.ok S.p;rw[e] at i;cases i;refine⟨b,rfl,?_⟩
 cases b with
 | false=>exact h' σ H1 ρ _ _ (S.stp s1) q λc H2 r s2 o2 q2=>k c H2 r (s1.trans s2) (o2.ahead S.ok S.p s1) q2
 | true=>exact k (.bl true) H1 (.o (.bool true)) s1 (.bool true) q
def aNil:DA:=λ_ Q=>Q []
def zcg(f:DE)(g:DA):DA:=λρ Q=>f ρ λr=>g ρ λds=>Q (r.d::ds)
theorem zz9:AD K O tNil aNil:=λσ H ρ Q Qd S h k=>k [] H [] (.refl _ _) .nil h
theorem zxb{t:TE}{u:TA}{f:DE}{g:DA}(h:ED K O t f)(h':AD K O u g):AD K O (zaj t u) (zcg f g):=λσ H ρ Q Qd S hf k=>by
 refine h σ H ρ _ _ S hf λv H1 r s1 o1 q=>?_;refine h' σ H1 ρ _ _ (S.stp s1) q λvs H2 ds s2 o2 q2=>?_;exact k (v::vs) H2 (r.d::ds) (s1.trans s2) (.cons (Is.stp s2 (λ_ f=>f) (λ_ f=>f) (o1.is S.ok S.p)) o2) q2
def tupD(g:DA):DE:=λρ Q=>g ρ λds=>ds.length<=sizeLine/\Q (.o (.tuple ds))
def lstD(g:DA):DE:=λρ Q=>g ρ λds=>ds.length<=sizeLine/\Q (.n ds)
theorem z0v{u:TA}{g:DA}(h:AD K O u g):ED K O (tTup u) (tupD g):=λσ H ρ Q Qd S hf k=>by
 refine h σ H ρ _ _ S hf λvs H1 ds s1 o1 ⟨z,q⟩=>⟨by rw[o1.length];exact z,λp hp=>?_⟩;have s2:Stp O H1 (upd H1 p (.tup vs)) := .new S.ok hp _;exact k _ _ (.o (.tuple ds)) (s1.trans s2) (.tuple (.of zad) (o1.stp s2 (λ_ f=>f) (λ_ f=>f))) q
theorem z0s{u:TA}{g:DA}(h:AD K O u g):ED K O (tLst u) (lstD g):=λσ H ρ Q Qd S hf k=>by
 refine h σ H ρ _ _ S hf λvs H1 ds s1 o1 ⟨z,q⟩=>⟨by rw[o1.length];exact z,λp hp=>?_⟩;have s2:Stp O H1 (upd H1 p (.lst vs)) := .new S.ok hp _;have m:¬ O.M p:=λm=>by obtain⟨o,z⟩:=S.ok.here H1 p (s1.p S.p) m;rw[hp] at z;cases z
 exact k _ _ (.n ds) (s1.trans s2) ⟨p,vs,rfl,s1.s.free m hp,zad,o1.stp s2 (λ_ f=>f) (λ_ f=>f)⟩ q
def zdc(K:PySem.W.Frag)(O:Ob)(r:List V->Hp->VK->Prop)(f:List Ve->(R->Prop)->Prop):Prop :=
 ∀ (H:Hp) (vs:List V) (ds:List Ve) (Q:VK) (Qd:R->Prop),O.Ok->O.P H->IsAll K (unM O) H vs ds->f ds Qd->(∀ v H' r,Stp O H H'->Out K O H H' v r->Qd r->Q v H')->r vs H Q
def zba(f:List Ve->(R->Prop)->Prop)(g:DA):DE:=λρ Q=>g ρ λds=>f ds Q
theorem zlq{r:List V->Hp->VK->Prop}{u:TA}{f:List Ve->(R->Prop)->Prop}{g:DA}(hr:zdc K O r f)(h:AD K O u g):ED K O (tCB r u) (zba f g):=λσ H ρ Q Qd S hf k=>by
 refine h σ H ρ _ _ S hf λvs H1 ds s1 o1 q=>?_;exact hr H1 vs ds _ _ S.ok (s1.p S.p) o1 q λv H2 r s2 o2 q2=>k v H2 r (s1.trans s2) (o2.ahead S.ok S.p s1) q2
def fn1(F:List Ve->Option R):List Ve->(R->Prop)->Prop:=λds Q=>∃ r,F ds=some r/\Q r
end
abbrev DG:=Ve->DSt->(DSt->Prop)->Prop
def gN(i:Nat):DG:=λd ρ Q=>Q (ρ.set i (some (.im d)))
def gTD:List Nat->List Ve->DSt->(DSt->Prop)->Prop
 | [],[],ρ,Q=>Q ρ
 | i::is,d::ds,ρ,Q=>gTD is ds (ρ.set i (some (.im d))) Q
 | _,_,_,_=>False
def gT(is:List Nat):DG:=λd ρ Q=>∃ ds,d = .tuple ds/\gTD is ds ρ Q
def GS(K:PySem.W.Frag)(O:Ob)(t:TG)(g:DG):Prop :=
 ∀ (σ:St) (H:Hp) (ρ:DSt) (v:V) (d:Ve) (Q:St->Hp->Prop) (Qd:DSt->Prop),Seen K O H σ ρ->Is K (unM O) H v d->g d ρ Qd->(∀ σ' ρ',Seen K O H σ' ρ'->Qd ρ'->Q σ' H)->t v σ H Q
section
variable {K : PySem.W.Frag} {O : Ob}
theorem Seen.set{H:Hp}{σ:St}{ρ:DSt}{i:Nat}{v:V}{r:DV}(S:Seen K O H σ ρ)(h:SeenV K O H v r):Seen K O H (σ.set i (some v)) (ρ.set i (some r)):=by
 have hl:=S.len;refine⟨S.ok,S.p,λj r' e=>?_,by rw[Zb,Zb];exact S.len⟩
 by_cases hj:i=j
 ·subst hj
  have hi:i<ρ.length:=by
   rcases Zu i ρ.length with z|z
   ·exact z
   ·rw[Qu (by simpa using z)] at e;cases e
  rw[QB hi] at e;cases e;exact⟨v,QB (by omega),h⟩
 ·rw[QL hj] at e;obtain⟨w,h1,h2⟩:=S.at_ j r' e;exact⟨w,by rw[QL hj];exact h1,h2⟩
theorem zxc{i:Nat}:GS K O (zao i) (gN i):=λσ H ρ v d Q Qd S i h k=>k _ _ (S.set (r := .im d) i) h
def GSs(K:PySem.W.Frag)(O:Ob)(t:TGs)(is:List Nat):Prop :=
 ∀ (σ:St) (H:Hp) (ρ:DSt) (vs:List V) (ds:List Ve) (Q:St->Hp->Prop) (Qd:DSt->Prop),Seen K O H σ ρ->IsAll K (unM O) H vs ds->gTD is ds ρ Qd->(∀ σ' ρ',Seen K O H σ' ρ'->Qd ρ'->Q σ' H)->t vs σ H Q
theorem zx8:GSs K O gNil []:=λσ H ρ vs ds Q Qd S i h k=>by
 cases i with
 | nil=>exact⟨rfl,k σ ρ S h⟩
 | cons _ _=>exact h.elim
theorem ztg{i:Nat}{is:List Nat}{t:TGs}(ht:GSs K O t is):GSs K O (zcl (zao i) t) (i::is):=λσ H ρ vs ds Q Qd S h q k=>by
 cases h with
 | nil=>exact q.elim
 | cons h1 h2=>exact⟨_,_,rfl,ht _ H _ _ _ _ _ (S.set (r := .im _) h1) h2 q k⟩
theorem zi1:∀ {is:List Nat} {ds:List Ve} {ρ:DSt} {Q:DSt->Prop},gTD is ds ρ Q->ds.length=is.length
 | [],[],_,_,_=>rfl
 | [],_::_,_,_,h=>h.elim
 | _::_,[],_,_,h=>h.elim
 | _::is,_::ds,ρ,Q,h=>by
   have e:=zi1 (is:=is) (ds:=ds) (Q:=Q) h;rw[Qf,Qf,e]
theorem z0d{is:List Nat}{t:TGs}{n:Nat}(hn:is.length=n)(ht:GSs K O t is):GS K O (gTup K n t) (gT is):=λσ H ρ v d Q Qd S i h k=>by
 obtain⟨ds,rfl,h⟩:=h
 cases i with
 | tuple q r=>exact⟨_,_,rfl,q,by rw[r.length,zi1 h];exact hn,ht σ H ρ _ ds Q Qd S r h k⟩
structure Walk (K:PySem.W.Frag) (O:Ob) (H H1:Hp) (J:It) (ds:List Ve) (B:Addr->Prop):Prop where
 st:Stp O H H1
 hb:∀ a,B a->¬ O.M a/\∃ o,H1 a=some o
 stop:∀ H2 i,(∀ a o,B a->H1 a=some o->H2 a=some o)->TupStay H1 H2->ds.length<=i->J.stop i H2
 item:∀ H2 i d,(∀ a o,B a->H1 a=some o->H2 a=some o)->TupStay H1 H2->ds[i]? = some d->(flat d=true\/∀ a o,H1 a=some o->¬ O.M a->H2 a=some o) ->
  J.go i H2/\∀ x H3,J.yld i H2 x H3->Same H2 H3/\Is K (λa=>¬ O.M a/\(flat d=true\/∃ o,H1 a=some o)) H3 x d
abbrev DI:=DSt->(Bool->List Ve->Prop)->Prop
def SrcS(K:PySem.W.Frag)(O:Ob)(wi:TI)(f:DI):Prop :=
 ∀ (σ:St) (H:Hp) (ρ:DSt) (R:It->Hp->Prop) (Qd:Bool->List Ve->Prop),Seen K O H σ ρ->f ρ Qd ->
   (∀ (J:It) (H1:Hp) (ds:List Ve) (B:Addr->Prop) (fr:Bool),Walk K O H H1 J ds B->(fr=true->∀ a,B a->H a=none)->Qd fr ds->R J H1)->wi σ H R
end
def za4(h:Nat)(g:DG)(ft:DT)(fe:DE)(ρ:DSt)(Q:List Ve->Prop):List Ve->List Ve->Prop
 | [],acc=>Q acc
 | d::ds,acc=>g d (Qh h none++ρ) λρ2=>ft ρ2 λb=>if b=true then fe ρ2 λr=>acc.length<sizeLine/\za4 h g ft fe ρ Q ds (acc ++ [r.d]) else za4 h g ft fe ρ Q ds acc
def zh0(h:Nat)(f:DI)(g:DG)(ft:DT)(fe:DE):DE:=λρ Q=>f ρ λ_ ds=>za4 h g ft fe ρ (λes=>Q (.n es)) ds []
section
variable {K : PySem.W.Frag} {O : Ob}
theorem zus{H:Hp}{σ:St}{ρ:DSt}(S:Seen K O H σ ρ)(h:Nat):Seen K O H (Qh h none++σ) (Qh h none++ρ):=by
 refine⟨S.ok,S.p,λi r e=>?_,by rw[Qj,Qj,QN,QN,S.len]⟩
 by_cases hi:i<h
 ·rw[Qz (by simpa using hi),QV,GQ hi] at e;cases e
 ·rw[Q4 (by simpa using Jd hi),QN] at e;obtain⟨v,h1,h2⟩:=S.at_ _ r e;exact⟨v,by rw[Q4 (by simpa using Jd hi),QN];exact h1,h2⟩
theorem zsp{H:Hp}{σ:St}{ρ:DSt}{D:Addr}{xs:List V}(S:Seen K O H σ ρ)(hD:H D=none):Seen K (O.plus D (.lst xs)) (upd H D (.lst xs)) σ ρ:=by
 have gr:Same H (upd H D (.lst xs)):=same_new hD _;refine⟨S.ok.plus D xs,⟨S.ok.grow _ _ gr S.p,zad⟩,λi r e=>?_,S.len⟩;obtain⟨v,h1,h2⟩:=S.at_ i r e
 have go:∀ d,Is K (unM O) H v d->Is K (unM (O.plus D (.lst xs))) (upd H D (.lst xs)) v d:=λd z =>
  z.to (λa ys f q=>⟨λm=>(by
   rcases m with m|rfl
   ·exact f m
   ·rw[hD] at q;cases q),gr _ _ q⟩) λa ys q=>SqT.stay (h:=q) λb u _ hb=>gr b u hb
 refine⟨v,h1,?_⟩
 cases r with
 | im d=>exact go d h2
 | own ds=>exact go _ h2
 | ob=>exact h2
 | scr n=>exact IsS.to (λa u f q=>⟨λm=>(by
  rcases m with m|rfl
  ·exact f m
  ·rw[hD] at q;cases q),gr _ _ q⟩) h2
 | dct ks =>
   obtain⟨a,n,h2⟩:=h2;refine⟨a,λm=>?_,h2.to λu q=>gr _ _ q⟩;rcases m with m|rfl
   ·exact n m
   ·obtain⟨_,kvs,q,_⟩:=h2;rw[hD] at q;cases q
 | gen f ds =>
   obtain⟨a,ys,e,n,q,z⟩:=h2
   refine⟨a,ys,e,λm=>?_,gr _ _ q,z.to (λa ys f q=>⟨λm=>(by
    rcases m with m|rfl
    ·exact f m
    ·rw[hD] at q;cases q),gr _ _ q⟩) λa ys q=>SqT.stay (h:=q) λb u _ hb=>gr b u hb⟩
   rcases m with m|rfl
   ·exact n m
   ·rw[hD] at q;cases q
 | rd f ds =>
   obtain⟨a,ys,e,n,q,z⟩:=h2
   refine⟨a,ys,e,λm=>?_,gr _ _ q,z.to (λa ys f q=>⟨λm=>(by
    rcases m with m|rfl
    ·exact f m
    ·rw[hD] at q;cases q),gr _ _ q⟩) λa ys q=>SqT.stay (h:=q) λb u _ hb=>gr b u hb⟩
   rcases m with m|rfl
   ·exact n m
   ·rw[hD] at q;cases q
 | exc C ns ds =>
   obtain⟨ys,e,z⟩:=h2
   have mv:∀ a u,unM O a->H a=some u->unM (O.plus D (.lst xs)) a/\upd H D (.lst xs) a=some u:=λa u f q=>⟨λm=>(by
    rcases m with m|rfl
    ·exact f m
    ·rw[hD] at q;cases q),gr _ _ q⟩
   exact⟨ys,e.to mv,z.to (λa ys f q=>mv a _ f q) λa ys q=>SqT.stay (h:=q) λb u _ hb=>gr b u hb⟩
 | thg T =>
   obtain⟨W,hw,z⟩:=h2
   exact⟨W,λa w=>⟨λm=>(by
    obtain⟨n,o,q⟩:=hw a w;rcases m with m|rfl
    ·exact n m
    ·rw[hD] at q;cases q),let ⟨o,q⟩:=(hw a w).2; ⟨o,gr _ _ q⟩⟩,T.to (λa u f q=>⟨λm=>(by
    rcases m with m|rfl
    ·exact f m
    ·rw[hD] at q;cases q),gr _ _ q⟩) (λa u w q=>⟨w,gr _ _ q⟩) (λb u _ hb=>gr b u hb) z⟩
 | thr T =>
   obtain⟨W,hw,z⟩:=h2
   exact⟨W,λa w=>⟨λm=>(by
    obtain⟨n,o,q⟩:=hw a w;rcases m with m|rfl
    ·exact n m
    ·rw[hD] at q;cases q),let ⟨o,q⟩:=(hw a w).2; ⟨o,gr _ _ q⟩⟩,T.to (λa u f q=>⟨λm=>(by
    rcases m with m|rfl
    ·exact f m
    ·rw[hD] at q;cases q),gr _ _ q⟩) (λa u w q=>⟨w,gr _ _ q⟩) (λb u _ hb=>gr b u hb) z⟩
theorem zox{h:Nat}{wi:TI}{tg:TG}{tf:TT}{te:TE}{f:DI}{g:DG}{ft:DT}{fe:DE}(hs:SrcS K O wi f)(hg:∀ O':Ob,GS K O' tg g)
 (hf:∀ (D:Addr) (xs:List V),¬ O.M D->TD K (O.plus D (.lst xs)) tf ft) (he:∀ (D:Addr) (xs:List V),¬ O.M D->ED K (O.plus D (.lst xs)) te fe):ED K O (ze7 h wi tg tf te) (zh0 h f g ft fe):=by
 intro σ H ρ Q Qd S hq k;refine hs σ H ρ _ _ S hq λJ H1 ds B fr W _ hgo D hD=>?_;have S1:=S.stp W.st;have nM:¬ O.M D:=λm=>by obtain⟨o,z⟩:=S.ok.here H1 D S1.p m;rw[hD] at z;cases z
 have aD:∀ a o,H1 a=some o->a ≠ D:=λa o e z=>by rw[z,hD] at e;cases e
 refine⟨λi m ys H2=>m=ds.length - i/\i<=ds.length/\H2 D=some (.lst ys)/\(∀ a o,H1 a=some o->¬ O.M a->H2 a=some o)/\TupStay H1 H2/\Seen K (O.plus D (.lst ys)) H2 σ ρ /\
  ∃ acc,IsAll K (λa=>¬ (O.M a\/a=D)) H2 ys acc/\za4 h g ft fe ρ (λes=>Qd (.n es)) (ds.drop i) acc,⟨ds.length,rfl,Qw _,zad,λa o e _=>by rw[zaa (aD a o e)];exact e,λa u _ e=>by rw[zaa (aD a u e)];exact e,zsp S1 hD,[],.nil,by simpa using hgo⟩,?_⟩
 rintro i m ys H2 ⟨rfl,hi,hDy,kp,tst,S2,acc,hacc,go⟩;refine⟨hDy,?_⟩;have kB:∀ a o,B a->H1 a=some o->H2 a=some o:=λa o b e=>kp a o e (W.hb a b).1
 by_cases hlt:i<ds.length
 ·right;have hd:ds[i]? = some ds[i]:=Qa hlt;rw[QC hlt] at go;obtain⟨hgo1,hy⟩:=W.item H2 i ds[i] kB tst hd (.inr kp);refine⟨hgo1,λx H3 y=>?_⟩;obtain⟨sm,ix⟩:=hy x H3 y;have st3:Stp (O.plus D (.lst ys)) H2 H3 := .same S2.ok sm;have S3:=S2.stp st3
  have ix':Is K (unM (O.plus D (.lst ys))) H3 x ds[i]:=by
   by_cases hfl:flat ds[i]=true
   ·exact Is.flat (TupStay.refl H3) ix hfl
   ·exact ix.weak λa ha mm=>by
     rcases mm with mm|mm
     ·exact ha.1 mm
     ·rcases ha.2 with z|⟨o,z⟩
      ·exact hfl z
      ·exact aD a o z mm
  refine hg _ _ H3 _ x ds[i] _ _ (zus S3 h) ix' go λσ2 ρ2 Sg q=>?_;refine hf D ys nM σ2 H3 ρ2 _ _ Sg q λb H4 st4 q4=>?_;have st34:=st3.trans st4;have acc4:∀ {H':Hp},Stp (O.plus D (.lst ys)) H2 H'->IsAll K (λa=>¬ (O.M a\/a=D)) H' ys acc:=λst=>hacc.stp st (λ_ z=>z) (λ_ z=>z)
  cases b with
  | false =>
    refine⟨ds.length - (i+1),by omega,rfl,hlt,st34.s D _ hDy |> λz=>(st34.p S2.p).2,λa o e n=>?_,λa u hu e=>st34.t a u hu (tst a u hu e),S2.stp st34,acc,acc4 st34,q4⟩
    exact st34.s a o (kp a o e n) λmm=>by
     rcases mm with mm|mm
     ·exact n mm
     ·exact aD a o e mm
  | true =>
    refine he D ys nM σ2 H4 ρ2 _ _ (Sg.stp st4) q4 λyv H5 r st5 o5 ⟨hz,q5⟩=>?_;have st25:=st34.trans st5;have S5:=S2.stp st25;have hD5:H5 D=some (.lst ys):=(st25.p S2.p).2;have iy:=o5.is (Sg.stp st4).ok (Sg.stp st4).p;have a5:=acc4 st25;refine⟨hD5,by rw[hacc.length];exact hz,ds.length - (i+1),by omega,rfl,hlt,zad,λa o e n=>?_,λa u hu e=>?_,?_,acc ++ [r.d],?_,q5⟩
    ·rw[zaa (aD a o e)]
     exact st25.s a o (kp a o e n) λmm=>by
      rcases mm with mm|mm
      ·exact n mm
      ·exact aD a o e mm
    ·rw[zaa (aD a u e)];exact st25.t a u hu (tst a u hu e)
    ·have p5:O.P (upd H5 D (.lst (ys ++ [yv]))):=S.ok.loc H5 _ (λa m=>zaa λz=>nM (z ▸ m)) S5.p.1;refine⟨S.ok.plus D _,⟨p5,zad⟩,λj r' e=>?_,S5.len⟩;obtain⟨v',h1,h2⟩:=S5.at_ j r' e
     have go:∀ d,Is K (unM (O.plus D (.lst ys))) H5 v' d->Is K (unM (O.plus D (.lst (ys ++ [yv])))) (upd H5 D (.lst (ys ++ [yv]))) v' d:=λd z =>
      z.to (λa xs fa qa=>⟨fa,by rw[zaa λz=>fa (.inr z)];exact qa⟩) λa xs qa=>SqT.stay (h:=qa) λb u hu hb=>by
       rw[zaa λz=>?_]
       ·exact hb
       ·obtain⟨us,e1|⟨o',e1⟩⟩:=hu <;> (rw[z,hD5] at hb;cases hb;cases e1)
     refine⟨v',h1,?_⟩
     cases r' with
     | im d=>exact go d h2
     | own es=>exact go _ h2
     | ob=>exact h2
     | scr n=>exact IsS.to (λa u fa qa=>⟨fa,by rw[zaa λz=>fa (.inr z)];exact qa⟩) h2
     | dct ks=>obtain⟨a,fa,h2⟩:=h2;exact⟨a,fa,h2.to λu qa=>by rw[zaa λz=>fa (.inr z)];exact qa⟩
     | gen f ds =>
       obtain⟨a,xs,e,fa,q,z⟩:=h2;refine⟨a,xs,e,fa,by rw[zaa λz=>fa (.inr z)];exact q,z.to (λa xs fa qa=>⟨fa,by rw[zaa λz=>fa (.inr z)];exact qa⟩) λa xs qa=>SqT.stay (h:=qa) λb u hu hb=>?_⟩;rw[zaa λz=>?_]
       ·exact hb
       ·obtain⟨us,e1|⟨o',e1⟩⟩:=hu <;> (rw[z,hD5] at hb;cases hb;cases e1)
     | rd f ds =>
       obtain⟨a,xs,e,fa,q,z⟩:=h2;refine⟨a,xs,e,fa,by rw[zaa λz=>fa (.inr z)];exact q,z.to (λa xs fa qa=>⟨fa,by rw[zaa λz=>fa (.inr z)];exact qa⟩) λa xs qa=>SqT.stay (h:=qa) λb u hu hb=>?_⟩;rw[zaa λz=>?_]
       ·exact hb
       ·obtain⟨us,e1|⟨o',e1⟩⟩:=hu <;> (rw[z,hD5] at hb;cases hb;cases e1)
     | exc C ns ds =>
       obtain⟨xs,e,z⟩:=h2;have mv:∀ a u,unM (O.plus D (.lst ys)) a->H5 a=some u->unM (O.plus D (.lst (ys ++ [yv]))) a/\upd H5 D (.lst (ys ++ [yv])) a=some u:=λa u fa qa=>⟨fa,by rw[zaa λz=>fa (.inr z)];exact qa⟩;refine⟨xs,e.to mv,z.to (λa xs fa qa=>mv a _ fa qa) λa xs qa=>SqT.stay (h:=qa) λb u hu hb=>?_⟩;rw[zaa λz=>?_]
       ·exact hb
       ·obtain⟨us,e1|⟨o',e1⟩⟩:=hu <;> (rw[z,hD5] at hb;cases hb;cases e1)
     | thg T =>
       obtain⟨W,hw,z⟩:=h2;refine⟨W,λa w=>⟨(hw a w).1,let ⟨o,q⟩:=(hw a w).2; ⟨o,by rw[zaa λz=>(hw a w).1 (.inr z)];exact q⟩⟩,T.to (λa u fa qa=>⟨fa,by rw[zaa λz=>fa (.inr z)];exact qa⟩) (λa u w q=>⟨w,by rw[zaa λz=>(hw a w).1 (.inr z)];exact q⟩) (λb u hu hb=>?_) z⟩;rw[zaa λz=>?_]
       ·exact hb
       ·obtain⟨us,e1|⟨o',e1⟩⟩:=hu <;> (rw[z,hD5] at hb;cases hb;cases e1)
     | thr T =>
       obtain⟨W,hw,z⟩:=h2;refine⟨W,λa w=>⟨(hw a w).1,let ⟨o,q⟩:=(hw a w).2; ⟨o,by rw[zaa λz=>(hw a w).1 (.inr z)];exact q⟩⟩,T.to (λa u fa qa=>⟨fa,by rw[zaa λz=>fa (.inr z)];exact qa⟩) (λa u w q=>⟨w,by rw[zaa λz=>(hw a w).1 (.inr z)];exact q⟩) (λb u hu hb=>?_) z⟩;rw[zaa λz=>?_]
       ·exact hb
       ·obtain⟨us,e1|⟨o',e1⟩⟩:=hu <;> (rw[z,hD5] at hb;cases hb;cases e1)
    ·have mv:∀ {vs es},IsAll K (λa=>¬ (O.M a\/a=D)) H5 vs es->IsAll K (λa=>¬ (O.M a\/a=D)) (upd H5 D (.lst (ys ++ [yv]))) vs es:=λz =>
      z.to (λa xs fa qa=>⟨fa,by rw[zaa λz=>fa (.inr z)];exact qa⟩) λa xs qa=>SqT.stay (h:=qa) λb u hu hb=>by
       rw[zaa λz=>?_]
       ·exact hb
       ·obtain⟨us,e1|⟨o',e1⟩⟩:=hu <;> (rw[z,hD5] at hb;cases hb;cases e1)
     exact mv (a5.snoc iy)
 ·left;have e:i=ds.length:=by omega
  subst e;rw[Z6] at go;refine⟨W.stop H2 _ kB tst (Qc _),k _ H2 (.n acc) ?_ ⟨D,ys,rfl,W.st.s.free nM hD,hDy,hacc.weak λa z m=>z (.inl m)⟩ go⟩;refine W.st.trans ⟨λa o e n=>kp a o e n,λ_=>S2.p.1,tst⟩
end
section
variable {K : PySem.W.Frag} {O : Ob}
theorem zw1{H1 H2:Hp}{xs:List V}{ds:List Ve}{i:Nat}{d:Ve}(h:IsAll K (unM O) H1 xs ds)(hd:ds[i]? = some d)(t:TupStay H1 H2)(c:flat d=true\/∀ a o,H1 a=some o->¬ O.M a->H2 a=some o) :
 ∃ v,xs[i]? = some v/\Is K (λa=>¬ O.M a/\(flat d=true\/∃ o,H1 a=some o)) H2 v d:=by
 obtain⟨v,hv,iv⟩:=h.get hd;refine⟨v,hv,?_⟩;rcases c with c|c
 ·exact Is.flat t iv c
 ·exact iv.to (λa ys f q=>⟨⟨f,.inr ⟨_,q⟩⟩,c a _ q f⟩) λa ys q=>SqT.stay (h:=q) t
def R.isN:R->Bool
 | .n _=>true
 | .o _=>false
def srcL(f:DE):DI:=λρ Q=>f ρ λr=>∃ ds,r.d = .list ds/\Q r.isN ds
theorem ztu{t:TE}{f:DE}(h:ED K O t f):SrcS K O (zgi K t) (srcL f):=λσ H ρ R Qd S hf k=>by
 refine h σ H ρ _ _ S hf λv H1 r st o1 ⟨ds,e,q⟩=>?_;have i1:=o1.is S.ok S.p;rw[e] at i1
 cases i1 with
 | list f0 ha hs =>
   rename_i a xs
   refine⟨a,rfl,⟨xs,.of ha⟩,k (Itl K a) H1 ds (λb=>b=a) r.isN ⟨st,λb hb=>by subst hb;exact⟨f0,_,ha⟩,λH2 i kb _ hi=>?_,λH2 i d kb t2 hd c=>?_⟩ (λz b hb=>?_) q⟩
   ·exact⟨xs,.of (kb a _ rfl ha),by rw[hs.length];exact hi⟩
   ·obtain⟨w,hw,iw⟩:=zw1 (O:=O) hs hd t2 c;have q2:SqL K H2 a xs := .of (kb a _ rfl ha);refine⟨⟨xs,w,q2,hw⟩,λx H3 ⟨e3,y⟩=>?_⟩;subst e3;have:=y xs q2;rw[hw] at this;cases this;exact⟨Same.refl _,iw⟩
   ·subst hb
    cases r with
    | o d=>cases z
    | n es =>
      obtain⟨a',xs',e',hn,_⟩:=o1;cases e';exact hn
def zc7(lo:Int)(n:Nat):List Ve:=(Qx n).map λk => .int (lo+(k:Nat))
theorem zfs{lo:Int}{n i:Nat}{d:Ve}(h:(zc7 lo n)[i]? = some d):i<n/\d = .int (lo+(i:Nat)):=by
 unfold zc7 at h;rw[Qk] at h
 by_cases hi:i<n
 ·rw[Jf hi] at h;cases h;exact⟨hi,rfl⟩
 ·rw[Qu (by simpa using hi)] at h;cases h
theorem zqj{H H1:Hp}(st:Stp O H H1)(lo:Int)(n:Nat):Walk K O H H1 (Itr lo n) (zc7 lo n) (λ_=>False) :=
 ⟨st,λb hb=>hb.elim,λH2 i _ _ hi=>(show n<=i by simpa[zc7] using hi),λH2 i d _ t2 hd c=>by
  obtain⟨hi,rfl⟩:=zfs hd;refine⟨hi,λx H3 ⟨e3,y⟩=>?_⟩;subst e3 y
  exact⟨Same.refl _,.int _⟩⟩
def zwn(g:DA):DI:=λρ Q=>g ρ λds=>∃ j:Int,ds = [.int j]/\-(2 ^ 62)<=j/\j<2 ^ 62/\Q true (zc7 0 j.toNat)
theorem zu4{t:TA}{g:DA}(h:AD K O t g):SrcS K O (zo5 t) (zwn g):=λσ H ρ R Qd S hf k=>by
 refine h σ H ρ _ _ S hf λvs H1 ds st is ⟨j,e,b1,b2,q⟩=>?_;subst e
 cases is with
 | cons i0 is =>
   cases is;cases i0;exact⟨j,rfl,b1,b2,k _ H1 _ _ true (zqj st 0 j.toNat) (λ_ _ hb=>hb.elim) q⟩
end
def sg(c:Nat):Str:=⟨#[c]⟩
def Its(x:Str):It:=⟨λi _=>i<x.cps.size,λi H v H'=>H'=H/\∃ c,x.cps[i]? = some c/\v = .str (sg c),λi _=>x.cps.size<=i⟩
theorem zl1{P:Vf}{w:Vk}{K:PySem.W.Frag}{tg:Expr}{it:Addr}{x:Str}{t:Tok}{ty:String}(hty:["enumerate", "zip", "dict_itemiterator", "dict_reverseitemiterator", "odict_iterator", "itertools.zip_longest", "itertools.pairwise"].contains ty=false)
 (W:∀ A':Vl,A'.handled=none->Walks P w A' it [it] [it] x.cps.size (SignAt x) (λi h=>h.IsStrIter it ty x t i))
 (hself:∀ (A:Vl) (i:Nat) (s:Vc) (Q:Vb->Vc->Prop) (E:Vb->Vc->Prop),s.heap.IsStrIter it ty x t i->Q (.ref it) s->wpAny (model P w) A (U2 (.ref it)) Q E s) :
 Turn P w K tg (Its x) [it] it (λi h=>i<=x.cps.size/\h.IsStrIter it ty x t i) where
 mem:=by simp
 obj:=λi h st b hb=>by
  have e:b=it:=by simpa using hb
  subst e;obtain⟨_,o,e,c,d⟩:=st;exact⟨o,e,λv z=>by rw[d] at z;cases z⟩
 keep:=λi h h' st k=>⟨st.1,by
  obtain⟨_,o,e,c⟩:=st
  exact⟨o,k it (by simp) o e,c⟩⟩
 item:=by
  intro X hP hw hK hc i pins s σ H E I hf st hg;subst hP hw hK;obtain⟨f0,f1,f2,f3,f4,f5⟩:=hf it (by simp);refine(W X.A (I.ok.hd hc)).item i s _ _ hg st.2 λv h' tk hv st' kk=>?_;obtain⟨c,u,hcx,rfl⟩:=hv;have I1:Inv X pins σ H { s with heap:=h',toks:=tk }:=I.turned (λb o hb e=>kk b o (by simpa using hb) e) f0 f1 f3 f4 f5;obtain⟨o,e,hcl,hdt⟩:=id st';exact⟨_,rfl,zkr (s:={ s with heap:=h',toks:=tk }) e hcl hdt hty ⟨.str (sg c),H,I1,⟨u,rfl⟩,⟨rfl,c,hcx,rfl⟩,⟨hg,st'⟩,λb hb=>(hf b hb).1⟩⟩
 done:=by
  intro X hP hw hK hc i pins s σ H E I hf st hg;subst hP hw hK;obtain⟨f0,f1,f2,f3,f4,f5⟩:=hf it (by simp);have hi:i=x.cps.size:=Nat.le_antisymm st.1 hg;subst hi;exact(W X.A (I.ok.hd hc)).done s _ _ st.2 λh' tk kk=>⟨rfl,I.turned (λb o hb e=>kk b o (by simpa using hb) e) f0 f1 f3 f4 f5⟩
 self:=λA i s Q E st h=>hself A i s Q E st.2 h
def iStr(t:TE):TI:=λσ H R=>t σ H λv H1=>∃ x,v = .str x/\R (Its x) H1
theorem z0m{X:Cx}{tg l:Expr}{tl:TE}(hl:PE X l tl):PI X tg l (iStr tl):=by
 intro pins s σ H R I h;refine thn (hl pins s σ H _ I h) λv s1 ⟨y,H1,I1,r1,q1⟩=>?_;obtain⟨x,e,q⟩:=q1;subst e;obtain⟨t,rfl⟩:=r1
 have fin:∀ (o:Obj) (T:Nat->Heap->Prop),Turn X.prog X.w X.K tg (Its x) [s1.heap.objs.size] s1.heap.objs.size T->T 0 (s1.heap.push o)->PIE X pins σ tg R (.ref s1.heap.objs.size) { s1 with heap:=s1.heap.push o }:=λo T hT h0=>by
  refine⟨s1.heap.objs.size,[s1.heap.objs.size],T,Its x,H1,rfl,I1.kept (t':=s1.toks) λb o e=>Heap.get?_push_of_some _ e,hT,h0,λb hb=>?_,q⟩;have e:b=s1.heap.objs.size:=by simpa using hb
  subst e;exact I1.fpOk (Qc _) (I1.hok.fresh (Qc _))
 cases ha:x.cps.all (· < 128)
 ·exact wpAny_pyIter_wide ha (fin _ _ (zl1 (by decide) (λA' hA=>Walks.strWide hA _ x t) λ_ _ _ _ _ st h=>wpAny_pyIter_striter_wide st h) ⟨Qw _,_,Heap.get?_push_size _ rfl,rfl,rfl⟩)
 ·exact wpAny_pyIter_ascii ha (fin _ _ (zl1 (by decide) (λA' hA=>Walks.strAscii hA _ x t) λ_ _ _ _ _ st h=>wpAny_pyIter_striter_ascii st h) ⟨Qw _,_,Heap.get?_push_size _ rfl,rfl,rfl⟩)
def sgs(x:Str):List Ve:=x.cps.toList.map λc => .str (sg c)
def srcS(f:DE):DI:=λρ Q=>f ρ λr=>∃ x,r.d = .str x/\Q true (sgs x)
theorem zw6{K:PySem.W.Frag}{O:Ob}{t:TE}{f:DE}(h:ED K O t f):SrcS K O (iStr t) (srcS f):=λσ H ρ R Qd S hf k=>by
 refine h σ H ρ _ _ S hf λv H1 r st o1 ⟨x,e,q⟩=>?_;have i1:=o1.is S.ok S.p;rw[e] at i1;cases i1;refine⟨x,rfl,k (Its x) H1 (sgs x) (λ_=>False) true ⟨st,λb hb=>hb.elim,λH2 i _ _ hi=>(show x.cps.size<=i by simpa[sgs] using hi),λH2 i d _ t2 hd c=>?_⟩ (λ_ _ hb=>hb.elim) q⟩;unfold sgs at hd;rw[Qk] at hd;obtain⟨n,hn,rfl⟩:=Q0.mp hd;have hn':x.cps[i]? = some n:=by simpa using hn
 have hi:i<x.cps.size:=by
  obtain⟨z,_⟩:=JD.mp hn';exact z
 refine⟨hi,λy H3 ⟨e3,n',h1,h2⟩=>?_⟩;subst e3 h2;rw[hn'] at h1;cases h1;exact⟨Same.refl _,.str _⟩
structure DEnds where
 nx:DSt->Prop
 rt:R->Prop
 bk:DSt->Prop:=λ_=>False
 ct:DSt->Prop:=λ_=>False
abbrev DS:=DEnds->DSt->Prop
def unO(O:Ob)(A:Nat->Addr->Prop):Addr->Prop:=λa=>¬ O.M a/\∀ j,¬ A j a
def OwnO(o:HO):Prop:=∀ us,o ≠ .tup us/\∀ o',o ≠ .frz o' (.tup us)
theorem OwnO.lst{xs:List V}:OwnO (.lst xs):=λ_=>⟨λz=>(nomatch z),λ_ z=>(nomatch z)⟩
def RepV(K:PySem.W.Frag)(O:Ob)(A:Nat->Addr->Prop)(H:Hp)(i:Nat)(v:V):DV->Prop
 | .im d=>Is K (unO O A) H v d
 | .own ds=>∃ a xs,v = .ref a/\A i a/\H a=some (.lst xs)/\IsAll K (unO O A) H xs ds
 | .ob=>v=O.v
 | .scr n=>IsS K (unO O A) H v n
 | .dct ks=>∃ a,A i a/\DkAt H v a ks
 | .gen f ds=>∃ a xs,v = .ref a/\A i a/\H a=some (f a xs)/\IsAll K (unO O A) H xs ds
 | .rd f ds=>∃ a xs,v = .ref a/\unO O A a/\H a=some (f a xs)/\IsAll K (unO O A) H xs ds
 | .exc C ns ds=>∃ xs,ExAt (unO O A) H v C ns xs/\IsAll K (unO O A) H xs ds
 | .thg T=>T.R K (unO O A) (A i) H v
 | .thr T=>∃ W:Addr->Prop,(∀ a,W a->unO O A a/\∃ o,H a=some o)/\T.R K (unO O A) W H v
structure Rep (K:PySem.W.Frag) (O:Ob) (H₀:Hp) (A:Nat->Addr->Prop) (H:Hp) (σ:St) (ρ:DSt):Prop where
 ok:O.Ok
 p:O.P H
 p0:O.P H₀
 st:Stp O H₀ H
 dis:∀ i j a,A i a->A j a->i=j
 own:∀ i a,A i a->H₀ a=none/\(∃ o,H a=some o/\OwnO o)/\¬ O.M a
 at_:∀ (i:Nat) r,ρ[i]? = some (some r)->∃ v,σ[i]? = some (some v)/\RepV K O A H i v r
 len:ρ.length=σ.length
def Frm(O:Ob)(A:Nat->Addr->Prop)(H:Hp)(A':Nat->Addr->Prop)(H':Hp):Prop:=∀ a o,H a=some o->unO O A a->H' a=some o/\unO O A' a
theorem Frm.refl{O:Ob}{A:Nat->Addr->Prop}{H:Hp}:Frm O A H A H:=λ_ _ h u=>⟨h,u⟩
theorem Frm.trans{O:Ob}{A A1 A2:Nat->Addr->Prop}{H H1 H2:Hp}(a:Frm O A H A1 H1)(b:Frm O A1 H1 A2 H2):Frm O A H A2 H2:=λc o h u=>let ⟨h1,u1⟩:=a c o h u;b c o h1 u1
structure Post (K:PySem.W.Frag) (O:Ob) (H₀:Hp) (A:Nat->Addr->Prop) (H:Hp) (D:Ends) (Dd:DEnds):Prop where
 nx:∀ A' σ' H' ρ',Rep K O H₀ A' H' σ' ρ'->Frm O A H A' H'->Dd.nx ρ'->D.nx σ' H'
 bk:∀ A' σ' H' ρ',Rep K O H₀ A' H' σ' ρ'->Frm O A H A' H'->Dd.bk ρ'->D.bk σ' H'
 ct:∀ A' σ' H' ρ',Rep K O H₀ A' H' σ' ρ'->Frm O A H A' H'->Dd.ct ρ'->D.ct σ' H'
 rt:∀ H' v r,Stp O H₀ H'->Out K O H₀ H' v r->Dd.rt r->D.rt v H'
def SD(K:PySem.W.Frag)(O:Ob)(t:TS)(g:DS):Prop :=
 ∀ (H₀:Hp) (A:Nat->Addr->Prop) (σ:St) (H:Hp) (ρ:DSt) (D:Ends) (Dd:DEnds),Rep K O H₀ A H σ ρ->g Dd ρ->Post K O H₀ A H D Dd->t D σ H
section
variable {K : PySem.W.Frag} {O : Ob} {H₀ H H' : Hp} {A : Nat → Addr → Prop} {σ : St} {ρ : DSt}
theorem Rep.seen(r:Rep K O H₀ A H σ ρ):Seen K O H σ ρ:=by
 refine⟨r.ok,r.p,λi x e=>?_,r.len⟩;obtain⟨v,hv,h⟩:=r.at_ i x e;refine⟨v,hv,?_⟩
 cases x with
 | im d=>exact h.weak λa u=>u.1
 | own ds =>
   obtain⟨a,xs,rfl,ha,hl,hs⟩:=h;exact .list (r.own i a ha).2.2 hl (hs.weak λa u=>u.1)
 | ob=>exact h
 | scr n=>exact IsS.to (λa u f q=>⟨f.1,q⟩) h
 | dct ks=>obtain⟨a,ha,h⟩:=h;exact⟨a,(r.own i a ha).2.2,h⟩
 | gen f ds=>obtain⟨a,xs,e,ha,q,z⟩:=h;exact⟨a,xs,e,(r.own i a ha).2.2,q,z.weak λa u=>u.1⟩
 | rd f ds=>obtain⟨a,xs,e,ha,q,z⟩:=h;exact⟨a,xs,e,ha.1,q,z.weak λa u=>u.1⟩
 | exc C ns ds=>obtain⟨xs,e,z⟩:=h;exact⟨xs,e.to λa u f q=>⟨f.1,q⟩,z.weak λa u=>u.1⟩
 | thg T=>exact⟨A i,λa w=>⟨(r.own i a w).2.2,let ⟨o,q,_⟩:=(r.own i a w).2.1; ⟨o,q⟩⟩,T.to (λa u f q=>⟨f.1,q⟩) (λa u w q=>⟨w,q⟩) (TupStay.refl _) h⟩
 | thr T=>obtain⟨W,hw,z⟩:=h;exact⟨W,λa w=>⟨(hw a w).1.1,(hw a w).2⟩,T.to (λa u f q=>⟨f.1,q⟩) (λa u w q=>⟨w,q⟩) (TupStay.refl _) z⟩
theorem Rep.stp(r:Rep K O H₀ A H σ ρ)(s:Stp O H H'):Rep K O H₀ A H' σ ρ:=by
 refine⟨r.ok,s.p r.p,r.p0,r.st.trans s,r.dis,λi a ha=>?_,λi x e=>?_,r.len⟩
 ·obtain⟨h0,⟨xs,hx,ho⟩,hm⟩:=r.own i a ha;exact⟨h0,⟨xs,s.s a _ hx hm,ho⟩,hm⟩
 ·obtain⟨v,hv,h⟩:=r.at_ i x e;refine⟨v,hv,?_⟩
  cases x with
  | im d=>exact Is.stp s (λ_ z=>z) (λ_ z=>z.1) h
  | own ds =>
    obtain⟨a,xs,rfl,ha,hl,hs⟩:=h;exact⟨a,xs,rfl,ha,s.s a _ hl (r.own i a ha).2.2,hs.stp s (λ_ z=>z) (λ_ z=>z.1)⟩
  | ob=>exact h
  | scr n=>exact IsS.to (λa u f q=>⟨f,s.s a u q f.1⟩) h
  | dct ks=>obtain⟨a,ha,h⟩:=h;exact⟨a,ha,h.to λu q=>s.s a u q (r.own i a ha).2.2⟩
  | gen f ds=>obtain⟨a,xs,e,ha,q,z⟩:=h;exact⟨a,xs,e,ha,s.s a _ q (r.own i a ha).2.2,z.stp s (λ_ z=>z) (λ_ z=>z.1)⟩
  | rd f ds=>obtain⟨a,xs,e,ha,q,z⟩:=h;exact⟨a,xs,e,ha,s.s a _ q ha.1,z.stp s (λ_ z=>z) (λ_ z=>z.1)⟩
  | exc C ns ds=>obtain⟨xs,e,z⟩:=h;exact⟨xs,e.to λa u f q=>⟨f,s.s a u q f.1⟩,z.stp s (λ_ z=>z) (λ_ z=>z.1)⟩
  | thg T=>exact T.to (λa u f q=>⟨f,s.s a u q f.1⟩) (λa u w q=>⟨w,s.s a u q (r.own i a w).2.2⟩) s.t h
  | thr T=>obtain⟨W,hw,z⟩:=h;exact⟨W,λa w=>let ⟨f,o,q⟩:=hw a w; ⟨f,o,s.s a o q f.1⟩,T.to (λa u f q=>⟨f,s.s a u q f.1⟩) (λa u w q=>⟨w,s.s a u q (hw a w).1.1⟩) s.t z⟩
theorem Frm.stp(s:Stp O H H'):Frm O A H A H':=λa o e u=>⟨s.s a o e u.1,u⟩
theorem Rep.setIm{i:Nat}{v:V}{d:Ve}(r:Rep K O H₀ A H σ ρ)(h:Is K (unO O A) H v d):Rep K O H₀ (λj a=>j ≠ i/\A j a) H (σ.set i (some v)) (ρ.set i (some (.im d))):=by
 have un:∀ a,unO O A a->unO O (λj a=>j ≠ i/\A j a) a:=λa u=>⟨u.1,λj z=>u.2 j z.2⟩;refine⟨r.ok,r.p,r.p0,r.st,λj k a x y=>r.dis j k a x.2 y.2,λj a x=>r.own j a x.2,λj x e=>?_,by rw[Zb,Zb];exact r.len⟩
 by_cases hj:i=j
 ·subst hj
  have hi:i<ρ.length:=by
   rcases Zu i ρ.length with z|z
   ·exact z
   ·rw[Qu (by simpa using z)] at e;cases e
  rw[QB hi] at e;cases e;exact⟨v,QB (by have:=r.len;omega),h.weak un⟩
 ·rw[QL hj] at e;obtain⟨w,h1,h2⟩:=r.at_ j x e;refine⟨w,by rw[QL hj];exact h1,?_⟩
  cases x with
  | im d=>exact h2.weak un
  | own ds =>
    obtain⟨a,xs,rfl,ha,hl,hs⟩:=h2;exact⟨a,xs,rfl,⟨λz=>hj z.symm,ha⟩,hl,hs.weak un⟩
  | ob=>exact h2
  | scr n=>exact IsS.to (λa u f q=>⟨un a f,q⟩) h2
  | dct ks=>obtain⟨a,ha,h2⟩:=h2;exact⟨a,⟨λz=>hj z.symm,ha⟩,h2⟩
  | gen f ds=>obtain⟨a,xs,e,ha,q,z⟩:=h2;exact⟨a,xs,e,⟨λz=>hj z.symm,ha⟩,q,z.weak un⟩
  | rd f ds=>obtain⟨a,xs,e,ha,q,z⟩:=h2;exact⟨a,xs,e,un a ha,q,z.weak un⟩
  | exc C ns ds=>obtain⟨xs,e,z⟩:=h2;exact⟨xs,e.to λa u f q=>⟨un a f,q⟩,z.weak un⟩
  | thg T=>exact T.to (λa u f q=>⟨un a f,q⟩) (λa u w q=>⟨⟨λz=>hj z.symm,w⟩,q⟩) (TupStay.refl _) h2
  | thr T=>obtain⟨W,hw,z⟩:=h2;exact⟨W,λa w=>⟨un a (hw a w).1,(hw a w).2⟩,T.to (λa u f q=>⟨un a f,q⟩) (λa u w q=>⟨w,q⟩) (TupStay.refl _) z⟩
theorem Rep.setOwn{i:Nat}{a:Addr}{xs:List V}{ds:List Ve}(r:Rep K O H₀ A H σ ρ)(s:Stp O H H')(hn:H a=none)(hl:H' a=some (.lst xs))(hf:IsAll K (unM O) H' xs ds)(fl:flats ds=true) :
 Rep K O H₀ (λj b=>(j ≠ i/\A j b)\/(j=i/\b=a)) H' (σ.set i (some (.ref a))) (ρ.set i (some (.own ds))):=by
 have hm:¬ O.M a:=λm=>by obtain⟨o,z⟩:=r.ok.here H a r.p m;rw[hn] at z;cases z
 have new:∀ j,¬ A j a:=λj z=>by obtain⟨_,⟨ys,q,_⟩,_⟩:=r.own j a z;rw[hn] at q;cases q
 have un:∀ b o,H b=some o->unO O A b->unO O (λj b=>(j ≠ i/\A j b)\/(j=i/\b=a)) b:=λb o e u=>⟨u.1,λj z=>by
  rcases z with z|z
  ·exact u.2 j z.2
  ·rw[z.2,hn] at e;cases e⟩
 have mv:∀ {v d},Is K (unO O A) H v d->Is K (unO O (λj b=>(j ≠ i/\A j b)\/(j=i/\b=a))) H' v d:=λz =>
  z.to (λb ys f q=>⟨un b _ q f,s.s b _ q f.1⟩) λb ys q=>SqT.stay (h:=q) s.t
 have mvs:∀ {v d},IsAll K (unO O A) H v d->IsAll K (unO O (λj b=>(j ≠ i/\A j b)\/(j=i/\b=a))) H' v d:=λz =>
  z.to (λb ys f q=>⟨un b _ q f,s.s b _ q f.1⟩) λb ys q=>SqT.stay (h:=q) s.t
 refine⟨r.ok,s.p r.p,r.p0,r.st.trans s,λj k b x y=>?_,λj b x=>?_,λj x e=>?_,by rw[Zb,Zb];exact r.len⟩
 ·rcases x with x|x <;> rcases y with y|y
  ·exact r.dis j k b x.2 y.2
  ·exact absurd (y.2 ▸ x.2) (new j)
  ·exact absurd (x.2 ▸ y.2) (new k)
  ·exact x.1.trans y.1.symm
 ·rcases x with x|x
  ·obtain⟨h0,⟨ys,q,ho⟩,m⟩:=r.own j b x.2;exact⟨h0,⟨ys,s.s b _ q m,ho⟩,m⟩
  ·obtain⟨rfl,rfl⟩:=x;exact⟨r.st.s.free hm hn,⟨_,hl,.lst⟩,hm⟩
 ·by_cases hj:i=j
  ·subst hj
   have hi:i<ρ.length:=by
    rcases Zu i ρ.length with z|z
    ·exact z
    ·rw[Qu (by simpa using z)] at e;cases e
   rw[QB hi] at e;cases e;exact⟨.ref a,QB (by have:=r.len;omega),a,xs,rfl,.inr ⟨rfl,rfl⟩,hl,IsAll.flats (TupStay.refl H') hf fl⟩
  ·rw[QL hj] at e;obtain⟨w,h1,h2⟩:=r.at_ j x e;refine⟨w,by rw[QL hj];exact h1,?_⟩
   cases x with
   | im d=>exact mv h2
   | own es =>
     obtain⟨b,ys,rfl,hb,hlb,hs⟩:=h2;exact⟨b,ys,rfl,.inl ⟨λz=>hj z.symm,hb⟩,s.s b _ hlb (r.own j b hb).2.2,mvs hs⟩
   | ob=>exact h2
   | scr n=>exact IsS.to (λb u f q=>⟨un b u q f,s.s b u q f.1⟩) h2
   | dct ks=>obtain⟨b,hb,h2⟩:=h2;exact⟨b,.inl ⟨λz=>hj z.symm,hb⟩,h2.to λu q=>s.s b u q (r.own j b hb).2.2⟩
   | gen f ds=>obtain⟨b,xs,e,hb,q,z⟩:=h2;exact⟨b,xs,e,.inl ⟨λz=>hj z.symm,hb⟩,s.s b _ q (r.own j b hb).2.2,mvs z⟩
   | rd f ds=>obtain⟨b,xs,e,hb,q,z⟩:=h2;exact⟨b,xs,e,un b _ q hb,s.s b _ q hb.1,mvs z⟩
   | exc C ns ds=>obtain⟨xs,e,z⟩:=h2;exact⟨xs,e.to λb u f q=>⟨un b _ q f,s.s b _ q f.1⟩,mvs z⟩
   | thg T=>exact T.to (λb u f q=>⟨un b u q f,s.s b u q f.1⟩) (λb u w q=>⟨.inl ⟨λz=>hj z.symm,w⟩,s.s b u q (r.own j b w).2.2⟩) s.t h2
   | thr T=>obtain⟨W,hw,z⟩:=h2;exact⟨W,λb w=>let ⟨f,o,q⟩:=hw b w; ⟨un b o q f,o,s.s b o q f.1⟩,T.to (λb u f q=>⟨un b u q f,s.s b u q f.1⟩) (λb u w q=>⟨w,s.s b u q (hw b w).1.1⟩) s.t z⟩
theorem Frm.setIm{i:Nat}(s:Stp O H H'):Frm O A H (λj a=>j ≠ i/\A j a) H':=λa o e u=>⟨s.s a o e u.1,u.1,λj z=>u.2 j z.2⟩
theorem Frm.setOwn{i:Nat}{a:Addr}(s:Stp O H H')(hn:H a=none):Frm O A H (λj b=>(j ≠ i/\A j b)\/(j=i/\b=a)) H':=λb o e u=>⟨s.s b o e u.1,u.1,λj z=>by
 rcases z with z|z
 ·exact u.2 j z.2
 ·rw[z.2,hn] at e;cases e⟩
theorem Rep.change{i:Nat}{a:Addr}{ys:List V}{ds es:List Ve}(r:Rep K O H₀ A H σ ρ)(e:ρ[i]? = some (some (.own ds)))(hv:σ[i]? = some (some (.ref a)))(ha:A i a)(hs:IsAll K (unO O A) H ys es) :
 Rep K O H₀ A (upd H a (.lst ys)) σ (ρ.set i (some (.own es))):=by
 obtain⟨h0,⟨oo,hz,hoo⟩,hm⟩:=r.own i a ha
 have ts:TupStay H (upd H a (.lst ys)):=λb u hu hb=>by
  rw[zaa λz=>?_]
  ·exact hb
  ·rw[z,hz] at hb;cases hb;obtain⟨us,e1|⟨o',e1⟩⟩:=hu
   ·exact absurd e1 (hoo us).1
   ·exact absurd e1 ((hoo us).2 o')
 have mv:∀ {v d},Is K (unO O A) H v d->Is K (unO O A) (upd H a (.lst ys)) v d:=λz=>z.to (λb us f q=>⟨f,by rw[zaa (show b ≠ a from λw=>f.2 i (by rw[w];exact ha))];exact q⟩) λb us q=>SqT.stay (h:=q) ts;have mvs:∀ {v d},IsAll K (unO O A) H v d->IsAll K (unO O A) (upd H a (.lst ys)) v d:=λz=>z.to (λb us f q=>⟨f,by rw[zaa (show b ≠ a from λw=>f.2 i (by rw[w];exact ha))];exact q⟩) λb us q=>SqT.stay (h:=q) ts;have pp:O.P (upd H a (.lst ys)):=r.ok.loc H _ (λb m=>zaa λz=>hm (z ▸ m)) r.p;refine⟨r.ok,pp,r.p0,⟨λb o hb n=>?_,λ_=>pp,λb u hu hb=>ts b u hu (r.st.t b u hu hb)⟩,r.dis,λj b hb=>?_,λj x ej=>?_,by rw[Zb];exact r.len⟩
 ·rw[zaa λz=>?_]
  ·exact r.st.s b o hb n
  ·rw[z,h0] at hb;cases hb
 ·obtain⟨k0,⟨us,k1,ko⟩,k2⟩:=r.own j b hb
  by_cases hba:b=a
  ·subst hba;exact⟨k0,⟨_,zad,.lst⟩,k2⟩
  ·exact⟨k0,⟨us,by rw[zaa hba];exact k1,ko⟩,k2⟩
 ·by_cases hj:i=j
  ·subst hj;have hi:i<ρ.length:=(Qi.mp e).1;rw[QB hi] at ej;cases ej;exact⟨.ref a,hv,a,ys,rfl,ha,zad,mvs hs⟩
  ·rw[QL hj] at ej;obtain⟨w,h1,h2⟩:=r.at_ j x ej;refine⟨w,h1,?_⟩
   cases x with
   | im d=>exact mv h2
   | own fs =>
     obtain⟨b,us,rfl,hb,hlb,hs2⟩:=h2;exact⟨b,us,rfl,hb,by rw[zaa (show b ≠ a from λz=>hj (r.dis i j a ha (by rw[<- z];exact hb)))];exact hlb,mvs hs2⟩
   | ob=>exact h2
   | scr n=>exact IsS.to (λb u f q=>⟨f,by rw[zaa (show b ≠ a from λw=>f.2 i (by rw[w];exact ha))];exact q⟩) h2
   | dct ks=>obtain⟨b,hb,h2⟩:=h2;exact⟨b,hb,h2.to λu q=>by rw[zaa (show b ≠ a from λz=>hj (r.dis i j a ha (by rw[<- z];exact hb)))];exact q⟩
   | gen f ds=>obtain⟨b,xs,e,hb,q,z⟩:=h2;exact⟨b,xs,e,hb,by rw[zaa (show b ≠ a from λz=>hj (r.dis i j a ha (by rw[<- z];exact hb)))];exact q,mvs z⟩
   | rd f ds=>obtain⟨b,xs,e,hb,q,z⟩:=h2;exact⟨b,xs,e,hb,by rw[zaa (show b ≠ a from λw=>hb.2 i (by rw[w];exact ha))];exact q,mvs z⟩
   | exc C ns ds=>obtain⟨xs,e,z⟩:=h2;exact⟨xs,e.to λb u f q=>⟨f,by rw[zaa (show b ≠ a from λw=>f.2 i (by rw[w];exact ha))];exact q⟩,mvs z⟩
   | thg T=>exact T.to (λb u f q=>⟨f,by rw[zaa (show b ≠ a from λw=>f.2 i (by rw[w];exact ha))];exact q⟩) (λb u w q=>⟨w,by rw[zaa (show b ≠ a from λz=>hj (r.dis i j a ha (by rw[<- z];exact w)))];exact q⟩) ts h2
   | thr T=>obtain⟨W,hw,z⟩:=h2;exact⟨W,λb w=>let ⟨f,o,q⟩:=hw b w; ⟨f,o,by rw[zaa (show b ≠ a from λw=>f.2 i (by rw[w];exact ha))];exact q⟩,T.to (λb u f q=>⟨f,by rw[zaa (show b ≠ a from λw=>f.2 i (by rw[w];exact ha))];exact q⟩) (λb u w q=>⟨w,by rw[zaa (show b ≠ a from λy=>(hw b w).1.2 i (by rw[y];exact ha))];exact q⟩) ts z⟩
theorem Frm.change{i:Nat}{a:Addr}{o:HO}(ha:A i a):Frm O A H A (upd H a o):=λb u e n=>⟨by rw[zaa (show b ≠ a from λz=>n.2 i (by rw[z];exact ha))];exact e,n⟩
end
section
variable {K : PySem.W.Frag} {O : Ob}
theorem Post.frm{H₀:Hp}{A A1:Nat->Addr->Prop}{H H1:Hp}{D:Ends}{Dd:DEnds}(P:Post K O H₀ A H D Dd)(f:Frm O A H A1 H1):Post K O H₀ A1 H1 D Dd :=
 ⟨λA' σ' H' ρ' r g=>P.nx A' σ' H' ρ' r (f.trans g),λA' σ' H' ρ' r g=>P.bk A' σ' H' ρ' r (f.trans g),λA' σ' H' ρ' r g=>P.ct A' σ' H' ρ' r (f.trans g),P.rt⟩
def seqD(g k:DS):DS:=λDd ρ=>g { Dd with nx:=k Dd } ρ
theorem zzi{t u:TS}{g k:DS}(h:SD K O t g)(h':SD K O u k):SD K O (tSeq t u) (seqD g k):=λH₀ A σ H ρ D Dd r q P =>
 h H₀ A σ H ρ _ _ r q ⟨λA' σ' H' ρ' r' f q'=>h' H₀ A' σ' H' ρ' D Dd r' q' (P.frm f),P.bk,P.ct,P.rt⟩
theorem zw3:SD K O zpc (λDd ρ=>Dd.nx ρ):=λH₀ A σ H ρ D Dd r q P=>P.nx A σ H ρ r .refl q
def ifS(c:DT)(g k:DS):DS:=λDd ρ=>c ρ λb=>if b=true then g Dd ρ else k Dd ρ
theorem z2d{c:TT}{t u:TS}{fc:DT}{g k:DS}(hc:TD K O c fc)(h:SD K O t g)(h':SD K O u k):SD K O (tIfS c t u) (ifS fc g k):=λH₀ A σ H ρ D Dd r q P=>by
 refine hc σ H ρ _ _ r.seen q λb H1 s1 q1=>?_
 cases b with
 | true=>exact h H₀ A σ H1 ρ D Dd (r.stp s1) q1 (P.frm (.stp s1))
 | false=>exact h' H₀ A σ H1 ρ D Dd (r.stp s1) q1 (P.frm (.stp s1))
def retS(f:DE):DS:=λDd ρ=>f ρ Dd.rt
theorem zzh{t:TE}{f:DE}(h:ED K O t f):SD K O (tRet t) (retS f):=λH₀ A σ H ρ D Dd r q P=>by
 refine h σ H ρ _ _ r.seen q λv H1 x s1 o1 q1=>P.rt H1 v x (r.st.trans s1) (o1.ahead r.ok r.p0 r.st) q1
def asgS(i:Nat)(f:DE):DS:=λDd ρ=>f ρ λr=>match r with
 | .o d=>flat d=true/\Dd.nx (ρ.set i (some (.im d)))
 | .n ds=>flats ds=true/\Dd.nx (ρ.set i (some (.own ds)))
theorem zsl{i:Nat}{t:TE}{f:DE}(h:ED K O t f):SD K O (tAsg t (zao i)) (asgS i f):=λH₀ A σ H ρ D Dd r q P=>by
 refine h σ H ρ _ _ r.seen q λv H1 x s1 o1 q1=>?_
 cases x with
 | o d =>
   obtain⟨fl,q1⟩:=q1;exact P.nx _ _ H1 _ ((r.stp s1).setIm (Is.flat (TupStay.refl H1) o1 fl)) (.setIm s1) q1
 | n ds =>
   obtain⟨fl,q1⟩:=q1;obtain⟨a,xs,rfl,hn,hl,hs⟩:=o1;exact P.nx _ _ H1 _ (r.setOwn s1 hn hl hs fl) (.setOwn s1 hn) q1
def appS(i:Nat)(f:DE):DS:=λDd ρ=>∃ ds,ρ[i]? = some (some (.own ds))/\f ρ λr=>flat r.d=true/\ds.length<sizeLine/\Dd.nx (ρ.set i (some (.own (ds ++ [r.d]))))
theorem zr7{i:Nat}{t:TE}{f:DE}(h:ED K O t f):SD K O (zev (tBM K "list" zf7 (tVar i) (zaj t tNil))) (appS i f):=λH₀ A σ H ρ D Dd r q P=>by
 obtain⟨ds,e,q⟩:=q;obtain⟨v,hv,a,xs,rfl,ha,hl,hs⟩:=r.at_ i _ e;refine⟨_,hv,?_⟩;refine⟨.inl ⟨rfl,xs,.of hl⟩,?_⟩;refine h σ H ρ _ _ r.seen q λw H1 x s1 o1 ⟨fl,hz,q1⟩=>?_;have r1:=r.stp s1;obtain⟨v1,hv1,a1,xs1,e1,ha1,hl1,hs1⟩:=r1.at_ i _ e;rw[hv] at hv1;cases hv1;cases e1;refine⟨a,xs1,w,rfl,rfl,hl1,by rw[hs1.length];exact hz,?_⟩;have iw:Is K (unO O A) H1 w x.d:=Is.flat (TupStay.refl H1) (o1.is r.ok r.p) fl;exact P.nx A σ _ _ (r1.change e hv ha (hs1.snoc iw)) ((Frm.stp s1).trans (.change ha)) q1
end
def GR(K:PySem.W.Frag)(O:Ob)(t:TG)(g:DG):Prop :=
 ∀ (H₀:Hp) (A:Nat->Addr->Prop) (σ:St) (H:Hp) (ρ:DSt) (v:V) (d:Ve) (Q:St->Hp->Prop) (Qd:DSt->Prop),Rep K O H₀ A H σ ρ->flat d=true->Is K (unO O A) H v d->g d ρ Qd ->
   (∀ A' σ' ρ',Rep K O H₀ A' H σ' ρ'->Frm O A H A' H->Qd ρ'->Q σ' H)->t v σ H Q
section
variable {K : PySem.W.Frag} {O : Ob}
theorem zzd{i:Nat}:GR K O (zao i) (gN i):=λH₀ A σ H ρ v d Q Qd r _ h q k=>k _ _ _ (r.setIm h) (.setIm (.refl _ _)) q
def GRs(K:PySem.W.Frag)(O:Ob)(t:TGs)(is:List Nat):Prop :=
 ∀ (H₀:Hp) (A:Nat->Addr->Prop) (σ:St) (H:Hp) (ρ:DSt) (vs:List V) (ds:List Ve) (Q:St->Hp->Prop) (Qd:DSt->Prop),Rep K O H₀ A H σ ρ->flats ds=true->IsAll K (unO O A) H vs ds->gTD is ds ρ Qd ->
   (∀ A' σ' ρ',Rep K O H₀ A' H σ' ρ'->Frm O A H A' H->Qd ρ'->Q σ' H)->t vs σ H Q
theorem zyy:GRs K O gNil []:=λH₀ A σ H ρ vs ds Q Qd r _ i h k=>by
 cases i with
 | nil=>exact⟨rfl,k A σ ρ r .refl h⟩
 | cons _ _=>exact h.elim
theorem zuf{i:Nat}{is:List Nat}{t:TGs}(ht:GRs K O t is):GRs K O (zcl (zao i) t) (i::is):=λH₀ A σ H ρ vs ds Q Qd r fl h q k=>by
 cases h with
 | nil=>exact q.elim
 | cons h1 h2 =>
   rw[flats,Q5] at fl;have f1:Frm O A H (λj a=>j ≠ i/\A j a) H := .setIm (.refl _ _);refine⟨_,_,rfl,ht _ _ _ H _ _ _ _ _ (r.setIm h1) fl.2 (IsAll.flats (TupStay.refl H) h2 fl.2) q λA' σ' ρ' r' f q'=>k A' σ' ρ' r' (f1.trans f) q'⟩
theorem z1i{is:List Nat}{t:TGs}{n:Nat}(hn:is.length=n)(ht:GRs K O t is):GR K O (gTup K n t) (gT is):=λH₀ A σ H ρ v d Q Qd r fl i h k=>by
 obtain⟨ds,rfl,h⟩:=h
 cases i with
 | tuple q is'=>exact⟨_,_,rfl,q,by rw[is'.length,zi1 h];exact hn,ht H₀ A σ H ρ _ ds Q Qd r (by simpa[flat] using fl) is' h k⟩
def zc9(g:DG)(gb:DS)(Dd:DEnds):List Ve->DSt->Prop
 | [],ρ=>Dd.nx ρ
 | d::ds,ρ=>flat d=true/\g d ρ λρ2=>gb { Dd with nx:=zc9 g gb Dd ds,ct:=zc9 g gb Dd ds,bk:=Dd.nx } ρ2
abbrev DJ:=DSt->(List Ve->Prop)->Prop
def SrcR(K:PySem.W.Frag)(O:Ob)(wi:TI)(f:DJ):Prop :=
 ∀ (H₀:Hp) (A:Nat->Addr->Prop) (σ:St) (H:Hp) (ρ:DSt) (R:It->Hp->Prop) (Qd:List Ve->Prop),Rep K O H₀ A H σ ρ->f ρ Qd ->
   (∀ (J:It) (H1:Hp) (ds:List Ve) (B:Addr->Prop),Walk K O H H1 J ds B->(∀ a,B a->unO O A a)->Qd ds->R J H1)->wi σ H R
def newJ(f:DI):DJ:=λρ Q=>f ρ λfr ds=>fr=true/\Q ds
theorem zxd{wi:TI}{f:DI}(h:SrcS K O wi f):SrcR K O wi (newJ f):=λH₀ A σ H ρ R Qd r q k=>by
 refine h σ H ρ _ _ r.seen q λJ H1 ds B fr W hfr ⟨e,q1⟩=>k J H1 ds B W (λa b=>⟨(W.hb a b).1,λj z=>?_⟩) q1;obtain⟨_,⟨xs,q,_⟩,_⟩:=r.own j a z;rw[hfr e a b] at q;cases q
def forS(f:DJ)(g:DG)(gb:DS):DS:=λDd ρ=>f ρ λds=>zc9 g gb Dd ds ρ
theorem Rep.tupStay{H₀:Hp}{A A2:Nat->Addr->Prop}{H1 H2:Hp}{σ:St}{ρ:DSt}(r:Rep K O H₀ A H1 σ ρ)(f:Frm O A H1 A2 H2):TupStay H1 H2:=λa u hu e=>by
 refine(f a u e ⟨λm=>?_,λj z=>?_⟩).1
 ·have mm:=r.ok.mutb H1 a u r.p e m;obtain⟨xs,e1|⟨o,e1⟩⟩:=hu
  ·exact mm.1 xs e1
  ·exact mm.2 o _ e1
 ·obtain⟨_,⟨xs,q,ho⟩,_⟩:=r.own j a z;rw[e] at q;cases q;obtain⟨ys,e1|⟨o,e1⟩⟩:=hu
  ·exact(ho ys).1 e1
  ·exact(ho ys).2 o e1
theorem zzv{wi:TI}{tg:TG}{tb:TS}{f:DJ}{g:DG}{gb:DS}(hs:SrcR K O wi f)(hg:GR K O tg g)(hb:SD K O tb gb):SD K O (tFor wi tg tb) (forS f g gb):=λH₀ A σ H ρ D Dd r q P=>by
 refine hs H₀ A σ H ρ _ _ r q λJ H1 ds B W uB go=>?_;have r1:=r.stp W.st;have f1:Frm O A H A H1 := .stp W.st;refine⟨λi m σ2 H2=>m=ds.length - i/\i<=ds.length/\∃ A2 ρ2,Rep K O H₀ A2 H2 σ2 ρ2/\Frm O A H1 A2 H2/\zc9 g gb Dd (ds.drop i) ρ2,⟨ds.length,rfl,Qw _,A,ρ,r1,.refl,by simpa using go⟩,?_⟩;rintro i m σ2 H2 ⟨rfl,hi,A2,ρ2,r2,f2,go2⟩;have kB:∀ a o,B a->H1 a=some o->H2 a=some o:=λa o b e=>(f2 a o e (uB a b)).1;have ts:TupStay H1 H2:=r1.tupStay f2
 by_cases hlt:i<ds.length
 ·right;have hd:ds[i]? = some ds[i]:=Qa hlt;rw[QC hlt] at go2;obtain⟨fl,go2⟩:=go2;obtain⟨hgo,hy⟩:=W.item H2 i ds[i] kB ts hd (.inl fl);refine⟨hgo,λσ' H'=>∃ A' ρ',Rep K O H₀ A' H' σ' ρ'/\Frm O A H1 A' H'/\zc9 g gb Dd (ds.drop (i+1)) ρ',λσ' H' ⟨A',ρ',x1,x2,x3⟩=>⟨ds.length - (i+1),by omega,rfl,hlt,A',ρ',x1,x2,x3⟩,λx H3 y=>?_⟩;obtain⟨sm,ix⟩:=hy x H3 y;have st3:Stp O H2 H3 := .same r2.ok sm;have r3:=r2.stp st3;refine hg H₀ A2 σ2 H3 ρ2 x ds[i] _ _ r3 fl (Is.flat (TupStay.refl H3) ix fl) go2 λA3 σ3 ρ3 r3' f3 q3=>?_;have f13:Frm O A H1 A3 H3:=(f2.trans (.stp st3)).trans f3;refine hb H₀ A3 σ3 H3 ρ3 _ _ r3' q3 ⟨λA' σ' H' ρ' r' f' q'=>⟨A',ρ',r',f13.trans f',q'⟩,λA' σ' H' ρ' r' f' q'=>P.nx A' σ' H' ρ' r' (f1.trans (f13.trans f')) q',λA' σ' H' ρ' r' f' q'=>⟨A',ρ',r',f13.trans f',q'⟩,P.rt⟩
 ·left;have e:i=ds.length:=by omega
  subst e;rw[Z6] at go2;exact⟨W.stop H2 _ kB ts (Qc _),P.nx A2 σ2 H2 ρ2 r2 (f1.trans f2) go2⟩
end
def spO(K:PySem.W.Frag)(φ:Ob->Prop)(n:Nat)(f:List Ve->(R->Prop)->Prop):Sp:=λvs H Q _ =>
 ∃ (O:Ob) (ds:List Ve) (Qr:R->Prop),O.Ok/\φ O/\O.P H/\ds.length=n/\IsAll K (unM O) H vs ds/\f ds Qr/\∀ r,Qr r->∀ v H',Stp O H H'->Out K O H H' v r->Q v H'
def spD(K:PySem.W.Frag)(φ:Ob->Prop)(n:Nat)(f:List Ve->(R->Prop)->Prop):Sp:=λvs H Q _ =>
 ∃ (O:Ob) (ds:List Ve) (ws:List V) (Qr:R->Prop),O.Ok/\φ O/\O.P H/\ds.length=n/\vs=O.v::ws/\IsAll K (unM O) H ws ds/\f ds Qr/\∀ r,Qr r->∀ v H',Stp O H H'->Out K O H H' v r->Q v H'
def zbu(N:List Str)(rs:List DV):DSt:=rs.map some++Qh (N.length - rs.length) none
section
variable {K : PySem.W.Frag} {O : Ob}
theorem zjt{N:List Str}{H:Hp}{vs:List V}{rs:List DV}(ok:O.Ok)(p:O.P H)(hl:vs.length=rs.length)(h:∀ (i:Nat) r,rs[i]? = some r->∃ v,vs[i]? = some v/\((∃ d,r = .im d/\Is K (unM O) H v d)\/(r = .ob/\v=O.v))) :
 Rep K O H (λ_ _=>False) H (L2.start N vs) (zbu N rs):=by
 refine⟨ok,p,p,.refl _ _,λ_ _ _ z=>z.elim,λ_ _ z=>z.elim,λi r e=>?_,?_⟩
 ·unfold zbu at e
  by_cases hi:i<rs.length
  ·rw[Qz (by simpa using hi),Qk] at e
   cases q:rs[i]? with
   | none=>rw[q] at e;cases e
   | some r' =>
     rw[q] at e;have e':r'=r:=QS (QS e);subst e';obtain⟨v,hv,hh⟩:=h i r' q;refine⟨v,?_,?_⟩
     ·unfold L2.start;rw[Qz (by rw[Qe,hl];exact hi),Qk,hv];rfl
     ·rcases hh with ⟨d,rfl,hd⟩|⟨rfl,hd⟩
      ·exact hd.weak λa u=>⟨u,λj z=>z⟩
      ·exact hd
  ·rw[Q4 (by simpa using hi),QV] at e
   split at e <;> cases e
 ·unfold zbu L2.start;rw[Qj,Qj,Qe,Qe,QN,QN,hl]
theorem z2v{N:List Str}{t:TS}{g:DS}{H:Hp}{vs:List V}{ds:List Ve}{Q:VK}{Qr:R->Prop}(h:SD K O t g)(ok:O.Ok)(p:O.P H)(ia:IsAll K (unM O) H vs ds)
 (hg:g { nx:=λ_=>Qr (.o .none),rt:=Qr } (zbu N (ds.map .im))) (hQ:∀ r,Qr r->∀ v H',Stp O H H'->Out K O H H' v r->Q v H'):t { nx:=λ_ H'=>Q .non H',rt:=Q } (L2.start N vs) H:=by
 refine h H _ _ H _ _ _ (zjt ok p (by rw[Qe];exact ia.length) λi r e=>?_) hg ⟨λA' σ' H' ρ' r' _ q=>hQ _ q .non H' r'.st Is.none,λA' σ' H' ρ' r' _ q=>q.elim,λA' σ' H' ρ' r' _ q=>q.elim,λH' v r s o q=>hQ r q v H' s o⟩;rw[Qk] at e;obtain⟨d,hd,rfl⟩:=Q0.mp e;obtain⟨v,hv,iv⟩:=ia.get hd;exact⟨v,hv,.inl ⟨d,rfl,iv⟩⟩
theorem z2i{N:List Str}{t:TS}{g:DS}{H:Hp}{ws:List V}{ds:List Ve}{Q:VK}{Qr:R->Prop}(h:SD K O t g)(ok:O.Ok)(p:O.P H)(ia:IsAll K (unM O) H ws ds)
 (hg:g { nx:=λ_=>Qr (.o .none),rt:=Qr } (zbu N (.ob::ds.map .im))) (hQ:∀ r,Qr r->∀ v H',Stp O H H'->Out K O H H' v r->Q v H'):t { nx:=λ_ H'=>Q .non H',rt:=Q } (L2.start N (O.v::ws)) H:=by
 refine h H _ _ H _ _ _ (zjt ok p (by rw[Qf,Qf,Qe,ia.length]) λi r e=>?_) hg ⟨λA' σ' H' ρ' r' _ q=>hQ _ q .non H' r'.st Is.none,λA' σ' H' ρ' r' _ q=>q.elim,λA' σ' H' ρ' r' _ q=>q.elim,λH' v r s o q=>hQ r q v H' s o⟩
 cases i with
 | zero=>cases e;exact⟨O.v,rfl,.inr ⟨rfl,rfl⟩⟩
 | succ i =>
   rw[ZO,Qk] at e;obtain⟨d,hd,rfl⟩:=Q0.mp e;obtain⟨v,hv,iv⟩:=ia.get hd;exact⟨v,by rw[ZO];exact hv,.inl ⟨d,rfl,iv⟩⟩
def calD(n:Nat)(f:List Ve->(R->Prop)->Prop)(g:DA):DE:=λρ Q=>g ρ λds=>ds.length=n/\f ds Q
theorem zyj{φ:Ob->Prop}{n:Nat}{f:List Ve->(R->Prop)->Prop}{E:XK}{t:TA}{g:DA}(hφ:φ O)(h:AD K O t g):ED K O (zcv (spO K φ n f) [] E t) (calD n f g):=λσ H ρ Q Qd S q k=>by
 refine h σ H ρ _ _ S q λvs H1 ds s1 is ⟨hn,q1⟩=>?_;rw[QD];exact⟨O,ds,Qd,S.ok,hφ,s1.p S.p,hn,is,q1,λr qr v H' s2 o2=>k v H' r (s1.trans s2) (o2.ahead S.ok S.p s1) qr⟩
def calO(i:Nat)(n:Nat)(f:List Ve->(R->Prop)->Prop)(g:DA):DE:=λρ Q=>ρ[i]? = some (some .ob)/\g ρ λds=>ds.length=n/\f ds Q
theorem zto{φ:Ob->Prop}{i n:Nat}{f:List Ve->(R->Prop)->Prop}{E:XK}{t:TA}{g:DA}(hφ:φ O)(h:AD K O t g):ED K O (zcv (spD K φ n f) [] E (zaj (tVar i) t)) (calO i n f g):=λσ H ρ Q Qd S q k=>by
 obtain⟨e,q⟩:=q;obtain⟨v,hv,hh⟩:=S.at_ i _ e;refine⟨v,hv,?_⟩;refine h σ H ρ _ _ S q λvs H1 ds s1 is ⟨hn,q1⟩=>?_;show spD K φ n f ((v::vs) ++ []) H1 Q E;rw[QD];exact⟨O,ds,vs,Qd,S.ok,hφ,s1.p S.p,hn,by rw[show v=O.v from hh],is,q1,λr qr v H' s2 o2=>k v H' r (s1.trans s2) (o2.ahead S.ok S.p s1) qr⟩
theorem zyd{φ:Ob->Prop}{n:Nat}{f:List Ve->(R->Prop)->Prop}{ps:List Str}(hn:ps.length=n):∀ vs H Q E,spO K φ n f vs H Q E->vs.length=ps.length:=λvs H Q E zz=>by obtain⟨O,ds,_,_,_,_,h,is,_⟩:=zz;rw[is.length,h,hn]
theorem zi3{φ:Ob->Prop}{n:Nat}{f:List Ve->(R->Prop)->Prop}{ps:List Str}(hn:ps.length=n+1):∀ vs H Q E,spD K φ n f vs H Q E->vs.length=ps.length:=λvs H Q E zz=>by obtain⟨O,ds,ws,_,_,_,_,h,e,is,_⟩:=zz;rw[e,Qf,is.length,h,hn]
end
section
variable {X : Cx}
def rEqD(K:PySem.W.Frag)(neg:Bool):R2:=λx y H Q=>∃ F G d e,Is K F H x d/\Is K G H y e/\d.canLay0=true/\e.canLay0=true/\d.depth<=60/\Q (.bl (if neg then !PyData.eqv d e else PyData.eqv d e)) H
theorem zzq(hu:X.A.units+64<cLine):OpR X (VG .Eq) (rEqD X.K false):=by
 intro pins s σ H x y v u Q I rx ry h;obtain⟨F,G,d,e,i1,i2,h1,h2,h3,q⟩:=h;obtain⟨as,ra⟩:=i1.reads I rx;obtain⟨bs,rb⟩:=i2.reads I ry;exact SeqAt.compareEq_reads ra rb h1 h2 (by omega) ⟨.bl _,H,I,rfl,q⟩
theorem zzm(hu:X.A.units+64<cLine):OpR X (VG .NotEq) (rEqD X.K true):=by
 intro pins s σ H x y v u Q I rx ry h;obtain⟨F,G,d,e,i1,i2,h1,h2,h3,q⟩:=h;obtain⟨as,ra⟩:=i1.reads I rx;obtain⟨bs,rb⟩:=i2.reads I ry;exact SeqAt.compareNe_reads ra rb h1 h2 (by omega) ⟨.bl _,H,I,rfl,q⟩
theorem zn3:∀ {bs:List Bool} {us:List Vb},Vals (bs.map V.bl) us->us=bs.map Value.bool
 | [],_,r=>by cases r;rfl
 | b::bs,_,r=>by
   rw[Qn] at r
   cases r with
   | cons h t=>rw[zn3 t,show _=Value.bool b from h];rfl
theorem zsa{bs:List Bool}:(Qx bs.length).all (λi=>bs[i]?.getD false)=bs.all id:=by
 apply ZI.mpr;rw[ZN,ZN];constructor
 ·intro h x hx;obtain⟨i,hi,e⟩:=Yv.mp hx;have:=h i (by simpa using hi);rw[Qa hi] at this;rw[<- e];simpa using this
 ·intro h i hi;have hi':i<bs.length:=by simpa using hi
  rw[Qa hi'];simpa using h _ (Zc hi')
def rAll(any:Bool):List V->Hp->VK->Prop:=λxs H Q=>∃ (p:Addr) (bs:List Bool),xs = [.ref p]/\H p=some (.lst (bs.map V.bl))/\Q (.bl (if any then bs.any id else bs.all id)) H
theorem zsv(hc:X.calm=true):CallR X (.builtin "all") (rAll false):=by
 intro pins s σ H xs us Q I r h;obtain⟨p,bs,rfl,hH,q⟩:=h;obtain⟨u,rfl,ru⟩:=Vals.one r;cases ru;obtain⟨z,its,n,rv,hl,e⟩:=I.lstM hH;have ei:=zn3 rv;subst ei;have pl:s.heap.IsList p (bs.map Value.bool).toArray:=⟨_,e,rfl,_,rfl⟩;have hne:p ≠ s.heap.objs.size:=Qm (Heap.lt_size e);refine call_all_walk (Ut pl ?_);refine⟨s.heap.objs.size,_,_,_,_,_,λi=>bs[i]?.getD false,rfl,Walks.list (A:=X.A.in1) (I.ok.hd hc) _ p hne (bs.map Value.bool).toArray,⟨⟨_,Heap.get?_push_size _ rfl,rfl,rfl⟩,_,Heap.get?_push_of_some _ e,rfl,_,rfl⟩,?_,λh' tk kk=>?_⟩
 ·intro i v s' Q' E' hv hq;have hv:(bs.map Value.bool).toArray[i]? = some v:=hv;rw[Yo,Qk] at hv;obtain⟨b,hb,rfl⟩:=Q0.mp hv;have hq:Q' (bs[i]?.getD false) s':=hq;rw[hb] at hq;exact VI hq
 ·have I1:Inv X pins σ H { s with heap:=h',toks:=tk }:=I.kept λb o eb=>kk b o (by simp;exact Qm (Heap.lt_size eb)) (Heap.get?_push_of_some _ eb);refine⟨.bl _,H,I1,?_,q⟩;show Value.bool _=Value.bool _;rw[Qo,Qe,zsa];rfl
theorem ze1:∀ {ys:List Str} {us:List Vb},Vals (ys.map V.str) us->UO us ys
 | [],_,r=>by cases r;exact .nil
 | y::ys,_,r=>by
   rw[Qn] at r
   cases r with
   | cons h t=>obtain⟨tk,rfl⟩:=h;exact .cons y tk (ze1 t)
theorem zdn:∀ {ys:List Str} {us:List Vb},UO us ys->Vals (ys.map V.str) us
 | _,_,.nil => .nil
 | _,_,.cons y t r => .cons ⟨t,rfl⟩ (zdn r)
def zij:V->List V->Hp->VK->Prop:=λx vs H Q=>∃ sep p ys,x = .str sep/\vs = [.ref p]/\H p=some (.lst (ys.map V.str))/\(ys.map (·.length)).sum+ys.length * sep.length<=16777216/\Q (.str (Txt.join sep ys)) H
theorem zyw:MtM X "str.join" zij:=by
 intro pins s σ H x vs v us Q I rx rv h;obtain⟨sep,p,ys,rfl,rfl,hH,hz,q⟩:=h;obtain⟨t,rfl⟩:=rx;obtain⟨u,rfl,ru⟩:=rv.one;cases ru;obtain⟨z,its,n,r,hl,e⟩:=I.lstM hH;exact join_list ⟨_,e,rfl,_,rfl⟩ (by simpa using ze1 r) hz λt' k=>⟨.str _,H,I.tok _,⟨_,rfl⟩,q⟩
def zqn:List V->Hp->VK->Prop:=λxs H Q=>∃ p ys,xs = [.ref p]/\H p=some (.lst (ys.map V.str))/\ys.length<64/\∀ zs l,zs.Perm ys->UV zs=true->H l=none->Q (.ref l) (upd H l (.lst (zs.map V.str)))
theorem zpw:CallR X (.builtin "sorted") zqn:=by
 intro pins s σ H xs us Q I r h;obtain⟨p,ys,rfl,hH,hz,q⟩:=h;obtain⟨u,rfl,ru⟩:=Vals.one r;cases ru;obtain⟨z,its,n,rv,hl,e⟩:=I.lstM hH;refine sorted_strs (ss:=ys) ⟨_,e,rfl,_,rfl⟩ (ze1 rv) (by rw[<- hl,Qe];exact hz) λout zs h1 h2 h3=>?_;obtain⟨c,he⟩:=sortedAll_at s.heap its out;have hn:H (s.heap.objs.size+1)=none:=I.hok.fresh (Z8 _);refine⟨.ref _,_,I.laid (a:=s.heap.objs.size+1) (o := .lst (zs.map V.str)) (t':=s.toks) (λb o eb=>sortedAll_old eb) (Z8 _) ?_,rfl,q zs _ h2 h3 hn⟩;refine⟨?_,out.toList,c,zdn h1,by simpa using he⟩;rw[Qe,h2.length_eq];have:sizeLine=16777216:=Vj;omega
theorem zqc{P:Nat->Vb->Prop}{acc:Array Vb}{ys:List V}(h:ItemsOf P acc ys.length)(hv:∀ i v,P i v->∃ y,ys[i]? = some y/\RelV y v):Vals ys acc.toList:=by
 have go:∀ (k:Nat) (zs:List V) (l:List Vb),zs.length=l.length->(∀ (i:Nat) v,l[i]? = some v->∃ y,zs[i]? = some y/\RelV y v)->Vals zs l:=by
  intro k zs l
  induction l generalizing zs with
  | nil=>intro e _;cases zs with
    | nil=>exact .nil
    | cons _ _=>simp at e
  | cons a l ih=>intro e hh;cases zs with
    | nil=>simp at e
    | cons z zs =>
      obtain⟨y,h1,h2⟩:=hh 0 a rfl;simp at h1;subst h1;exact .cons h2 (ih zs (by simpa using e) λi v ev=>by simpa using hh (i+1) v (by simpa using ev))
 refine go 0 ys acc.toList (by have e:=h.1;simp[e]) λi v e=>hv i v (h.2 i v (by simpa using e))
def zle:List V->Hp->VK->Prop:=λxs H Q=>∃ x:Str,xs = [.str x]/\x.cps.size<=sizeLine/\∀ l,H l=none->Q (.ref l) (upd H l (.lst (x.cps.toList.map λc=>V.str (sg c))))
theorem zif(hc:X.calm=true):CallR X (.type "list") zle:=by
 intro pins s σ H xs us Q I r h;obtain⟨x,rfl,hz,q⟩:=h;obtain⟨u,rfl,ru⟩:=Vals.one r;obtain⟨t,rfl⟩:=ru;refine call_list_str (I.ok.hd hc) x t (λh' tk acc c kk e it=>?_) hz;refine⟨.ref _,_,I.laid (a:=s.heap.objs.size) (o := .lst (x.cps.toList.map λc=>V.str (sg c))) kk (Qc _) ?_,rfl,q _ I.fresh⟩;refine⟨by simpa using hz,acc.toList,c,zqc (P:=SignAt x) (by simpa using it) λi v hv=>?_,by simpa using e⟩;obtain⟨cc,uu,h1,rfl⟩:=hv;exact⟨.str (sg cc),by rw[Qk];simp[h1],⟨uu,rfl⟩⟩
def zv8(K:PySem.W.Frag):List V->Hp->VK->Prop:=λxs H Q=>∃ v F d,xs = [v]/\Is K F H v d/\d.showable=true/\d.hasDict=false/\d.depth<=60/\d.shown.length<=sizeLine/\Q (.str d.shown) H
theorem zpu(hg:X.A.guards=some [])(hu:X.A.units+64<cLine):CallR X (.builtin "repr") (zv8 X.K):=by
 intro pins s σ H xs us Q I r h;obtain⟨v,F,d,rfl,i,h1,h2,h3,h4,q⟩:=h;obtain⟨u,rfl,ru⟩:=Vals.one r;have fin:∀ h' u tk,(∀ b o,s.heap.get? b=some o->h'.get? b=some o)->EP X pins σ Q (.str d.shown u) { s with heap:=h',toks:=tk }:=λh' u tk kk=>⟨.str _,H,I.kept kk,⟨_,rfl⟩,q⟩;have fin':∀ u tk,EP X pins σ Q (.str d.shown u) { s with toks:=tk }:=λu tk=>⟨.str _,H,I.tok _,⟨_,rfl⟩,q⟩;obtain⟨as,ra⟩:=i.reads I ru
 cases i with
 | none=>cases ru;exact PySem.P.repr_of_none (fin' _ _)
 | bool b=>cases ru;exact PySem.P.repr_of_bool (fin' _ _)
 | int n=>obtain⟨t,rfl⟩:=ru;exact PySem.P.repr_of_int (by simpa[PyData.showable] using h1) (fin' _ _)
 | str x=>obtain⟨t,rfl⟩:=ru;exact PySem.P.repr_of_str (fin' _ _) h4
 | list _ _ _=>cases ru;exact repr_of_reads' ra h1 (λz=>by rw[h2] at z;cases z) hg (by omega) (λ_ _ e=>e) fin h4
 | tuple _ _=>cases ru;exact repr_of_reads' ra h1 (λz=>by rw[h2] at z;cases z) hg (by omega) (λ_ _ e=>e) fin h4
end
def tx(l:List Nat):Str:=⟨l.toArray⟩
theorem zr6(x:Str):tx x.cps.toList=x:=by cases x;simp[tx]
theorem zbe(l:List Nat):(tx l).cps.toList=l:=by simp[tx]
theorem zrr(l:List Nat):(tx l).length=l.length:=by simp[tx,Str.length]
def cutL{α:Type}(xs:List α)(lo hi:Option Int):List α:=(xs.drop (HT.sIx xs.length 0 lo)).take (HT.sIx xs.length xs.length hi - HT.sIx xs.length 0 lo)
theorem zg1(n d:Nat)(v:Int):max (0:Int) (min (if v<0 then v+n else v) n)=((HT.sIx n d (some v):Nat):Int):=by
 rw[<- HT.clip_eq v n d]
 by_cases h:v<0
 ·rw[GQ h,GQ h];omega
 ·rw[GT h,GT h];omega
theorem zmy(lo hi:Option Int)(n:Nat):Builtin.Str.strSliceIndices lo hi 1 n=(Qx (HT.sIx n n hi - HT.sIx n 0 lo)).map λk=>HT.sIx n 0 lo+k:=by
 have e1:(match lo with|none=>(0:Int)|some i=>max 0 (min (if i<0 then i+(n:Int) else i) n))=((HT.sIx n 0 lo:Nat):Int):=by
  cases lo with
  | none=>rfl
  | some v=>exact zg1 n 0 v
 have e2:(match hi with|none=>(n:Int)|some i=>max 0 (min (if i<0 then i+(n:Int) else i) n))=((HT.sIx n n hi:Nat):Int):=by
  cases hi with
  | none=>rfl
  | some v=>exact zg1 n n v
 have e0:Builtin.Str.strSliceIndices lo hi 1 n=sliceRange ((HT.sIx n 0 lo:Nat):Int) ((HT.sIx n n hi:Nat):Int) 1:=by
  rw[<- e1,<- e2];cases lo <;> cases hi <;> rfl
 rw[e0];generalize HT.sIx n 0 lo=a;generalize HT.sIx n n hi=b;simp only[sliceRange,show((1:Int) > 0)=True from by simp,Ta]
 by_cases hlt:(a:Int)<b
 ·have e3:(((b:Int) - a+1 - 1) / 1).toNat=b - a:=by first|omega|(simp;done)|(simp;omega)
  simp only[hlt,Ta,e3];refine Jg λk _=>?_;omega
 ·have:b - a=0:=by omega
  simp[hlt,this]
theorem zrw{α:Type}(l:List α):∀ (n a:Nat),a+n<=l.length->((Qx n).map λk=>a+k).filterMap (λi=>l[i]?)=(l.drop a).take n
 | 0,_,_=>by simp
 | n+1,a,h=>by
   have hlt:a+n<l.length:=by omega
   rw[List.range_succ,Qy,List.filterMap_append,zrw l n a (by omega),Zh,QY];simp[Qa hlt]
section
variable {X : Cx}
def rSlS:V->Option Int->Option Int->Hp->VK->Prop:=λx lo hi H Q=>∃ z:Str,x = .str z/\z.length<=sizeLine/\Q (.str (tx (cutL z.cps.toList lo hi))) H
theorem zzw:SlR X rSlS:=by
 intro pins s σ H x v vl vu lo hi sl Q I rx hs pl pu h;obtain⟨z,rfl,hz,q⟩:=h;obtain⟨t,rfl⟩:=rx;refine⟨"str", _,PySem.F.slot_str_getitem.lookup,UY s z t,?_⟩;have hl:z.cps.toList.length=z.length:=by simp[Str.length]
 have hi':HT.sIx z.length z.length hi<=z.length:=HT.sIx_le _ _ (Qc _) hi
 have key:∀ l u:Option (Int × Tok),l.map (·.1)=lo->u.map (·.1)=hi->s.heap.IsSlice sl l u none->wpAny (model X.prog X.w) X.A (Ux (.str z t) (.ref sl)) (EP X pins σ Q) X.xe s:=by
  intro l u el eu hsl
  have e:Gp z l u none=(Qx (HT.sIx z.length z.length hi - HT.sIx z.length 0 lo)).map λk=>HT.sIx z.length 0 lo+k:=by
   unfold Gp;rw[el,eu];exact zmy lo hi z.length
  have ec:tx (cutL z.cps.toList lo hi)=⟨((Gp z l u none).filterMap (z.cps[·]?)).toArray⟩:=by
   rw[e];unfold cutL tx;rw[hl]
   by_cases hij:HT.sIx z.length 0 lo<=HT.sIx z.length z.length hi
   ·have p:=zrw z.cps.toList (HT.sIx z.length z.length hi - HT.sIx z.length 0 lo) (HT.sIx z.length 0 lo) (by rw[hl];omega);rw[<- p];simp
   ·have:HT.sIx z.length z.length hi - HT.sIx z.length 0 lo=0:=by omega
    rw[this];simp
  refine wpAny_getItem_str_slice hsl rfl ?_;unfold sliceMade
  split
  ·rename_i hc
   have hw:(Gp z l u none).length=z.length:=by simpa using hc
   have ex:tx (cutL z.cps.toList lo hi)=z:=by
    rw[e,Qe,QF] at hw;unfold cutL;rw[hl];have h0:HT.sIx z.length 0 lo=0\/z.length=0:=by omega
    rcases h0 with h0|h0
    ·rw[h0] at hw ⊢;rw[ZZ,ZD (by rw[hl];omega)];exact zr6 z
    ·have hn:z.cps.toList = []:=QM (by rw[hl];exact h0);rw[hn];simp only[List.drop_nil,Y9];rw[<- hn];exact zr6 z
   exact⟨.str _,H,I,⟨t,by rw[ex]⟩,q⟩
  ·rw[<- ec]
   have hlen:(tx (cutL z.cps.toList lo hi)).length<=sizeLine:=by
    rw[zrr];unfold cutL;rw[QJ,Q9,hl];omega
   first
    | exact⟨.str _,H,I.tok _,⟨_,rfl⟩,q⟩
    | exact⟨hlen,.str _,H,I.tok _,⟨_,rfl⟩,q⟩
    | exact λ_=>⟨.str _,H,I.tok _,⟨_,rfl⟩,q⟩
 obtain⟨o,ho,hc,hd⟩:=hs
 cases pl with
 | none=>cases pu with
   | none=>exact key none none rfl rfl ⟨o,ho,hc,hd⟩
   | int j t'=>exact key none (some (j,t')) rfl rfl ⟨o,ho,hc,hd⟩
 | int i ti=>cases pu with
   | none=>exact key (some (i,ti)) none rfl rfl ⟨o,ho,hc,hd⟩
   | int j t'=>exact key (some (i,ti)) (some (j,t')) rfl rfl ⟨o,ho,hc,hd⟩
def zwi(K:PySem.W.Frag):V->Option Int->Option Int->Hp->VK->Prop:=λx lo hi H Q=>∃ a xs,x = .ref a/\SqT K H a xs/\(HT.sIx xs.length 0 lo=0/\HT.sIx xs.length xs.length hi=xs.length)/\Q (.ref a) H
theorem zfh{prog:Vf}{w:Vk}{A:Vl}{E:Vb->Vc->Prop}{s:Vc}{t sl:Addr}{items:Array Vb}{vl vu:Vb}{lo hi:Option Int}{Q:Vb->Vc->Prop}(ht:IsTup s.heap t items)(hs:s.heap.IsSliceOf sl vl vu .none)(pl:UN vl lo)(pu:UN vu hi)
 (hw:HT.sIx items.size 0 lo=0/\HT.sIx items.size items.size hi=items.size) (h:Q (.ref t) s):wpAny (model prog w) A (Ux (.ref t) (.ref sl)) Q E s:=by
 obtain⟨os,hos,hcs,hds⟩:=id hs;have hTs:s.TypeIs (.ref sl) "slice" := ⟨os,hos,hcs⟩;unfold Ux
 try with_reducible refine Vr ?_
 first|refine Va (Vd ?_)|skip
 refine Va (wpAny_sequenceKey ht.typeIs (by decide) ?_)
 refine Va (Vx (name:=Str.ofString "__getitem__") ht.typeIs QU
  (Vn QU ht.typeIs entry_tuple_getitem ?_ (args_tuple_getitem _ _)))
 show wpAny _ _ (Builtin.Tuple.tupleItemsOf (.ref t) >>= _) _ _ s;refine Va (tupleItemsOf_ ht ?_);refine Va (V9 hTs ?_);rw[GQ (by decide)];refine Va (HT.sliceApplied_gen hs pl pu ?_)
 have hno:(((HT.sIx items.size 0 lo:Nat):Int) == 0 && (1:Int) == 1 && (HT.sIx items.size items.size hi - HT.sIx items.size 0 lo) == items.size)=true:=by
  rw[hw.1,hw.2];simp
 show wpAny _ _ (if(((HT.sIx items.size 0 lo:Nat):Int) == 0 && (1:Int) == 1 && (HT.sIx items.size items.size hi - HT.sIx items.size 0 lo) == items.size)=true then _ else _) _ _ s;rw[GQ hno];obtain⟨o,ho,hc,n,hd⟩:=id ht;refine Va ?_;unfold Builtin.Tuple.tupleIsExact;refine Va (V9 ht.typeIs (Vd ?_));show wpAny _ _ (if((Value.type "tuple") == (Value.type "tuple"))=true then _ else _) _ _ s;rw[GQ (by decide)];exact Va (V1 (Vd ⟨_,rfl,Vd h⟩))
theorem sl_tupW:SlR X (zwi X.K):=by
 intro pins s σ H x v vl vu lo hi sl Q I rx hs pl pu h;obtain⟨a,xs,rfl,hx,hw,q⟩:=h;cases rx;obtain⟨its,r,ht,hz⟩:=I.tuple hx;have hlen:its.toArray.size=xs.length:=by rw[Qo];exact r.length.symm
 exact⟨"tuple", _,QU.lookup,ht.typeIs,zfh ht hs pl pu (by rw[hlen];exact hw) ⟨.ref a,H,I,rfl,q⟩⟩
def rSl(K:PySem.W.Frag):V->Option Int->Option Int->Hp->VK->Prop:=λx lo hi H Q=>rSlL K x lo hi H Q\/rSlT K x lo hi H Q\/zwi K x lo hi H Q\/rSlS x lo hi H Q
theorem z0o:SlR X (rSl X.K):=sl_list.or (sl_tup.or (sl_tupW.or zzw))
def zqq(K:PySem.W.Frag):R2:=λx y H Q=>∃ a b ys,x = .ref a/\y = .ref b/\SqT K H a []/\SqT K H b ys/\Q (.ref b) H
theorem zux:OpR X (binaryOp .Add) (zqq X.K):=by
 intro pins s σ H x y v u Q I rx ry h;obtain⟨a,b,ys,rfl,rfl,ha,hb,q⟩:=h;cases rx;cases ry;obtain⟨its,r1,p1,_⟩:=I.tuple ha;obtain⟨its2,r2,p2,_⟩:=I.tuple hb;cases r1;obtain⟨⟨cls,dd,data,sl⟩,ho,hc,n,hd⟩:=id p1;obtain⟨⟨cls2,dd2,data2,sl2⟩,ho2,hc2,n2,hd2⟩:=id p2;simp only at hc hd hc2 hd2;subst hc hd hc2 hd2
 exact G8 ⟨_,ho,rfl⟩ ⟨_,ho2,rfl⟩ UJ Gz PySem.F.slot_tuple_add PySem.F.entry_tuple_add (PySem.F.args_tuple_add_2 _ _)
  (tuple_addW0 a b _ its2.toArray n n2 dd dd2 sl sl2 (by simp)) ⟨ho,ho2,⟨.ref b,H,I,rfl,q⟩⟩
end
section
variable {K : PySem.W.Frag} {O : Ob} {F : Addr → Prop} {H : Hp}
theorem zhn:∀ {vs:List V} {ys:List Str},IsAll K F H vs (ys.map .str)->vs=ys.map V.str
 | _,[],h=>by cases h;rfl
 | _,y::ys,h=>by
   rw[Qn] at h
   cases h with
   | cons h1 h2=>cases h1;rw[zhn h2];rfl
theorem zgn:∀ {vs:List V} {bs:List Bool},IsAll K F H vs (bs.map .bool)->vs=bs.map V.bl
 | _,[],h=>by cases h;rfl
 | _,y::ys,h=>by
   rw[Qn] at h
   cases h with
   | cons h1 h2=>cases h1;rw[zgn h2];rfl
theorem zil:∀ (ys:List Str),IsAll K F H (ys.map V.str) (ys.map .str)
 | [] => .nil
 | y::ys => .cons (.str y) (zil ys)
theorem zjp{vs:List V}{ds:List Ve}{i:Int}{d:Ve}(h:IsAll K F H vs ds)(e:atI ds i=some d):∃ v,atI vs i=some v/\Is K F H v d:=by
 unfold atI at e ⊢;rw[h.length]
 cases q:ixN ds.length i with
 | none=>rw[q] at e;cases e
 | some j =>
   rw[q] at e;obtain⟨v,hv,iv⟩:=h.get (i:=j) e;exact⟨v,hv,iv⟩
theorem zfr{vs:List V}{ds:List Ve}(h:IsAll K F H vs ds)(lo hi:Option Int):IsAll K F H (cutV vs lo hi) (cutL ds lo hi):=by
 unfold cutV cutL;rw[h.length];exact(h.drop _).take _
theorem zbx{H:Hp}{p:Addr}{vs:List V}{ds:List Ve}(ok:O.Ok)(hp:H p=none)(h:IsAll K (unM O) H vs ds):Stp O H (upd H p (.lst vs))/\Out K O H (upd H p (.lst vs)) (.ref p) (.n ds):=by
 have s:Stp O H (upd H p (.lst vs)) := .new ok hp _;exact⟨s,p,vs,rfl,hp,zad,h.stp s (λ_ z=>z) (λ_ z=>z)⟩
theorem zix{H:Hp}{p:Addr}{vs:List V}{ds:List Ve}(ok:O.Ok)(hp:H p=none)(h:IsAll K (unM O) H vs ds):Stp O H (upd H p (.tup vs))/\Out K O H (upd H p (.tup vs)) (.ref p) (.o (.tuple ds)):=by
 have s:Stp O H (upd H p (.tup vs)) := .new ok hp _;exact⟨s,Is.tuple (.of zad) (h.stp s (λ_ z=>z) (λ_ z=>z))⟩
def okD(d:Ve):Bool:=d.canLay0 && decide (d.depth<=60)
def eqF(neg:Bool):Ve->Ve->Option R:=λd e=>if(okD d && e.canLay0)=true then some (.o (.bool (if neg then !PyData.eqv d e else PyData.eqv d e))) else none
theorem zmg(neg:Bool):OpD K O (rEqD K neg) (fn2 (eqF neg)):=λH x y d e Q Qd ok p ix iy ⟨r,hr,q⟩ k=>by
 unfold eqF at hr
 split at hr
 ·rename_i hc
  cases hr;simp only[Q5,okD,GY] at hc;exact⟨_,_,d,e,ix,iy,hc.1.1,hc.2,hc.1.2,k _ H (.o _) (.refl _ _) (Is.bool _) q⟩
 ·cases hr
def inF(neg:Bool):Ve->Ve->Option R:=λd e=>match d,e with
 | .str x,.str y=>some (.o (.bool (if neg then !(!(Builtin.Str.occurrences y x 0 y.length 1).isEmpty) else !(Builtin.Str.occurrences y x 0 y.length 1).isEmpty)))
 | d,.list es=>if(okD d && PyData.canLayAll0 es)=true then some (.o (.bool (if neg then !es.any (λy=>PyData.eqv y d) else es.any λy=>PyData.eqv y d))) else none
 | d,.tuple es=>if(okD d && PyData.canLayAll0 es)=true then some (.o (.bool (if neg then !es.any (λy=>PyData.eqv y d) else es.any λy=>PyData.eqv y d))) else none
 | _,_=>none
def intF(g:Int->Int->Ve):Ve->Ve->Option R
 | .int i,.int j=>some (.o (g i j))
 | _,_=>none
theorem zug{g:Int->Int->V}{G:Int->Int->Ve}(h:∀ i j H,Is K (unM O) H (g i j) (G i j)):OpD K O (rI0 g) (fn2 (intF G)):=λH x y d e Q Qd ok p ix iy ⟨r,hr,q⟩ k=>by
 unfold intF at hr
 split at hr
 ·cases ix;cases iy;cases hr;exact⟨_,_,rfl,rfl,k _ H (.o _) (.refl _ _) (h _ _ H) q⟩
 ·cases hr
theorem zsi:OpD K O (rI0 λi j => .bl (decide (i<j))) (fn2 (intF λi j => .bool (decide (i<j)))):=zug λ_ _ _ => .bool _
def zvr(K:PySem.W.Frag):R2:=λx y H Q=>rI0 (λi j => .int (i+j)) x y H Q\/(∃ i j,x = .str i/\y = .str j/\i.length+j.length<=sizeLine/\Q (.str (i++j)) H)\/rCat x y H Q\/zvw K x y H Q\/zqq K x y H Q
theorem zxi{X:Cx}:OpR X (binaryOp .Add) (zvr X.K):=op_add.or (op_add_str.or (op_cat.or (op_catT.or zux)))
def addF:Ve->Ve->Option R:=λd e=>match d,e with
 | .int i,.int j=>some (.o (.int (i+j)))
 | .str x,.str y=>if x.length+y.length<=sizeLine then some (.o (.str (x++y))) else none
 | .list a,.list b=>if a.length+b.length<=sizeLine then some (.n (a++b)) else none
 | .tuple a,.tuple b=>if a.length+b.length<=sizeLine then some (.o (.tuple (a++b))) else none
 | _,_=>none
theorem zxu:OpD K O (zvr K) (fn2 addF):=λH x y d e Q Qd ok p ix iy ⟨r,hr,q⟩ k=>by
 unfold addF at hr
 split at hr
 ·cases ix;cases iy;cases hr;exact .inl ⟨_,_,rfl,rfl,k _ H (.o _) (.refl _ _) (Is.int _) q⟩
 ·split at hr
  ·rename_i hz
   cases ix;cases iy;cases hr;exact .inr (.inl ⟨_,_,rfl,rfl,hz,k _ H (.o _) (.refl _ _) (Is.str _) q⟩)
  ·cases hr
 ·split at hr
  ·rename_i hz
   cases hr
   cases ix with
   | list f1 h1 s1 =>
     cases iy with
     | list f2 h2 s2 =>
       refine .inr (.inr (.inl ⟨_,_,_,_,rfl,rfl,h1,h2,by rw[s1.length,s2.length];exact hz,λp' hp=>?_⟩));obtain⟨a1,a2⟩:=zbx ok hp (s1.append s2);exact k _ _ _ a1 a2 q
  ·cases hr
 ·split at hr
  ·rename_i hz
   cases hr
   cases ix with
   | tuple h1 s1 =>
     cases iy with
     | tuple h2 s2 =>
       rename_i a xs b ys
       cases xs with
       | nil =>
         cases s1;exact .inr (.inr (.inr (.inr ⟨a,b,ys,rfl,rfl,h1,h2,k _ H (.o _) (.refl _ _) (Is.tuple h2 s2) q⟩)))
       | cons z zs =>
         refine .inr (.inr (.inr (.inl ⟨a,b,_,ys,rfl,rfl,h1,h2,by simp,by rw[s1.length,s2.length];exact hz,λe=>?_,λ_ p' hp=>?_⟩)))
         ·subst e;cases s2;rw[QD] at q;exact k _ H (.o _) (.refl _ _) (Is.tuple h1 s1) q
         ·obtain⟨a1,a2⟩:=zix ok hp (s1.append s2);exact k _ _ _ a1 a2 q
  ·cases hr
 ·cases hr
def idxF:Ve->Ve->Option R:=λd e=>match d,e with
 | .list ds,.int i=>(atI ds i).map .o
 | .tuple ds,.int i=>(atI ds i).map .o
 | .str x,.int i=>if x.length<=sizeLine then(atI x.cps.toList i).map λc => .o (.str (sg c)) else none
 | _,_=>none
theorem zx3:OpD K O (rIx K) (fn2 idxF):=λH x y d e Q Qd ok p ix iy ⟨r,hr,q⟩ k=>by
 unfold idxF at hr
 split at hr
 ·obtain⟨z,hz,rfl⟩:=Q0.mp hr;cases iy
  cases ix with
  | list f1 h1 s1 =>
    obtain⟨v,hv,iv⟩:=zjp s1 hz;exact .inl ⟨_,_,_,v,rfl,rfl,.of h1,hv,k v H (.o z) (.refl _ _) iv q⟩
 ·obtain⟨z,hz,rfl⟩:=Q0.mp hr;cases iy
  cases ix with
  | tuple h1 s1 =>
    obtain⟨v,hv,iv⟩:=zjp s1 hz;exact .inr (.inl ⟨_,_,_,v,rfl,rfl,h1,hv,k v H (.o z) (.refl _ _) iv q⟩)
 ·split at hr
  ·rename_i hl
   obtain⟨c,hc,rfl⟩:=Q0.mp hr;cases iy;cases ix;exact .inr (.inr ⟨_,_,c,rfl,rfl,hl,hc,k _ H (.o _) (.refl _ _) (Is.str _) q⟩)
  ·cases hr
 ·cases hr
abbrev DO:=DSt->(Option Int->Prop)->Prop
def OD(K:PySem.W.Frag)(O:Ob)(t:TO)(f:DO):Prop :=
 ∀ (σ:St) (H:Hp) (ρ:DSt) (Q:Option Int->Hp->Prop) (Qd:Option Int->Prop),Seen K O H σ ρ->f ρ Qd->(∀ o H',Stp O H H'->Qd o->Q o H')->t σ H Q
def noO:DO:=λ_ Q=>Q none
def zws(f:DE):DO:=λρ Q=>f ρ λr=>∃ i,r.d = .int i/\Q (some i)
theorem zx5:OD K O zn7 noO:=λσ H ρ Q Qd S h k=>k none H (.refl _ _) h
theorem zyk{t:TE}{f:DE}(h:ED K O t f):OD K O (zks t) (zws f):=λσ H ρ Q Qd S hf k=>by
 refine h σ H ρ _ _ S hf λv H1 r s1 o1 ⟨i,e,q⟩=>?_;have iv:=o1.is S.ok S.p;rw[e] at iv;cases iv;exact⟨i,rfl,k (some i) H1 s1 q⟩
def slcF(lo hi:Option Int):Ve->Option R
 | .list ds=>some (.n (cutL ds lo hi))
 | .tuple ds=>some (.o (.tuple (cutL ds lo hi)))
 | .str x=>if x.length<=sizeLine then some (.o (.str (tx (cutL x.cps.toList lo hi)))) else none
 | _=>none
def slD(f:DE)(a b:DO):DE:=λρ Q=>f ρ λr=>a ρ λlo=>b ρ λhi=>∃ s,slcF lo hi r.d=some s/\Q s
theorem ztn{t:TE}{tl th:TO}{f:DE}{a b:DO}(h:ED K O t f)(ha:OD K O tl a)(hb:OD K O th b):ED K O (tSl (rSl K) t tl th) (slD f a b):=λσ H ρ Q Qd S hf k=>by
 refine h σ H ρ _ _ S hf λv H1 r s1 o1 q1=>?_;refine ha σ H1 ρ _ _ (S.stp s1) q1 λlo H2 s2 q2=>?_;refine hb σ H2 ρ _ _ ((S.stp s1).stp s2) q2 λhi H3 s3 ⟨s,hr,q⟩=>?_;have st:=(s1.trans s2).trans s3;have iv:Is K (unM O) H3 v r.d:=Is.stp (s2.trans s3) (λ_ z=>z) (λ_ z=>z) (o1.is S.ok S.p);revert hr;generalize r.d=d at iv;intro hr;unfold slcF at hr
 split at hr
 ·cases hr
  cases iv with
  | list f1 h1 z1 =>
    refine .inl ⟨_,_,rfl,.of h1,λp hp=>?_⟩;obtain⟨a1,a2⟩:=zbx S.ok hp (zfr z1 lo hi);exact k _ _ _ (st.trans a1) (Out.ahead S.ok S.p st a2) q
 ·cases hr
  cases iv with
  | tuple h1 z1 =>
    rename_i a' xs
    by_cases hw:HT.sIx xs.length 0 lo=0/\HT.sIx xs.length xs.length hi=xs.length
    ·refine .inr (.inr (.inl ⟨a',xs,rfl,h1,hw,k _ H3 (.o _) st ?_ q⟩))
     have e:cutV xs lo hi=xs:=by
      unfold cutV;rw[hw.1,hw.2,ZZ,Yh,QP]
     have z2:=zfr z1 lo hi;rw[e] at z2;exact Is.tuple h1 z2
    ·refine .inr (.inl ⟨a',xs,rfl,h1,hw,λp hp=>?_⟩);obtain⟨a1,a2⟩:=zix S.ok hp (zfr z1 lo hi);exact k _ _ _ (st.trans a1) (Out.ahead S.ok S.p st a2) q
 ·split at hr
  ·rename_i hl
   cases hr;cases iv;exact .inr (.inr (.inr ⟨_,rfl,hl,k _ H3 (.o _) st (Is.str _) q⟩))
  ·cases hr
 ·cases hr
def lenF:List Ve->Option R
 | [.str x]=>if x.length<=sizeLine then some (.o (.int x.length)) else none
 | [.list ds]=>some (.o (.int ds.length))
 | [.tuple ds]=>some (.o (.int ds.length))
 | _=>none
theorem zav{vs:List V}{d:Ve}(h:IsAll K F H vs [d]):∃ v,vs = [v]/\Is K F H v d:=by
 cases h with
 | cons h1 h2=>cases h2;exact⟨_,rfl,h1⟩
theorem z0k:zdc K O (λxs H Q=>∃ x n,xs = [x]/\LenV K x H n/\Q (.int n) H) (fn1 lenF):=λH vs ds Q Qd ok p is ⟨r,hr,q⟩ k=>by
 unfold lenF at hr
 split at hr
 ·split at hr
  ·rename_i hl
   obtain⟨v,rfl,iv⟩:=zav is;cases iv;cases hr;exact⟨_,_,rfl,⟨hl,rfl⟩,k _ H (.o _) (.refl _ _) (Is.int _) q⟩
  ·cases hr
 ·obtain⟨v,rfl,iv⟩:=zav is;cases hr
  cases iv with
  | list f1 h1 s1=>exact⟨_,_,rfl,.inl ⟨_,.of h1,s1.length.symm⟩,k _ H (.o _) (.refl _ _) (Is.int _) q⟩
 ·obtain⟨v,rfl,iv⟩:=zav is;cases hr
  cases iv with
  | tuple h1 s1=>exact⟨_,_,rfl,.inr ⟨_,h1,s1.length.symm⟩,k _ H (.o _) (.refl _ _) (Is.int _) q⟩
 ·cases hr
def allD(any:Bool):List Ve->(R->Prop)->Prop:=λds Q=>∃ bs:List Bool,ds = [.list (bs.map .bool)]/\Q (.o (.bool (if any then bs.any id else bs.all id)))
theorem zzj(any:Bool):zdc K O (rAll any) (allD any):=λH vs ds Q Qd ok p is ⟨bs,e,q⟩ k=>by
 subst e;obtain⟨v,rfl,iv⟩:=zav is
 cases iv with
 | list f1 h1 s1 =>
   rw[zgn s1] at h1;exact⟨_,bs,rfl,h1,k _ H (.o _) (.refl _ _) (Is.bool _) q⟩
def zo4:List Ve->Option R
 | [.int i]=>some (.o (.int i))
 | [.bool b]=>some (.o (.int (if b then 1 else 0)))
 | _=>none
theorem z1c:zdc K O (λxs H Q=>(∃ i,xs = [.int i]/\Q (.int i) H)\/∃ k,xs = [.bl k]/\Q (.int (if k then 1 else 0)) H) (fn1 zo4):=λH vs ds Q Qd ok p is ⟨r,hr,q⟩ k=>by
 unfold zo4 at hr
 split at hr
 ·obtain⟨v,rfl,iv⟩:=zav is;cases hr;cases iv;exact .inl ⟨_,rfl,k _ H (.o _) (.refl _ _) (Is.int _) q⟩
 ·obtain⟨v,rfl,iv⟩:=zav is;cases hr;cases iv;exact .inr ⟨_,rfl,k _ H (.o _) (.refl _ _) (Is.int _) q⟩
 ·cases hr
def zq4(K:PySem.W.Frag):List V->Hp->VK->Prop:=λxs H Q=>zle xs H Q\/(∃ p ys,xs = [.ref p]/\(SqL K H p ys\/SqT K H p ys)/\∀ l,H l=none->Q (.ref l) (upd H l (.lst ys)))
theorem zo1{X:Cx}(hc:X.calm=true):CallR X (.type "list") (zq4 X.K):=(zif hc).or zlh
def zo2:List Ve->Option R
 | [.str x]=>if x.length<=sizeLine then some (.n (sgs x)) else none
 | [.list ds]=>some (.n ds)
 | [.tuple ds]=>some (.n ds)
 | _=>none
theorem zqu(x:Str):IsAll K F H (x.cps.toList.map λc=>V.str (sg c)) (sgs x):=by
 have e:=zil (K:=K) (F:=F) (H:=H) (x.cps.toList.map sg);rw[QG,QG] at e;exact e
theorem zy1:zdc K O (zq4 K) (fn1 zo2):=λH vs ds Q Qd ok p is ⟨r,hr,q⟩ k=>by
 unfold zo2 at hr
 split at hr
 ·split at hr
  ·rename_i hl
   obtain⟨v,rfl,iv⟩:=zav is;cases iv;cases hr;refine .inl ⟨_,rfl,hl,λl hl=>?_⟩;obtain⟨a1,a2⟩:=zbx (K:=K) ok hl (zqu _);exact k _ _ _ a1 a2 q
  ·cases hr
 ·obtain⟨v,rfl,iv⟩:=zav is;cases hr
  cases iv with
  | list f1 h1 s1 =>
    refine .inr ⟨_,_,rfl,.inl (.of h1),λl hl=>?_⟩;obtain⟨a1,a2⟩:=zbx ok hl s1;exact k _ _ _ a1 a2 q
 ·obtain⟨v,rfl,iv⟩:=zav is;cases hr
  cases iv with
  | tuple h1 s1 =>
    refine .inr ⟨_,_,rfl,.inr h1,λl hl=>?_⟩;obtain⟨a1,a2⟩:=zbx ok hl s1;exact k _ _ _ a1 a2 q
 ·cases hr
def zge:List Ve->Option R
 | [d]=>if(d.showable && !d.hasDict && decide (d.depth<=60) && decide (d.shown.length<=sizeLine))=true then some (.o (.str d.shown)) else none
 | _=>none
theorem zyp:zdc K O (zv8 K) (fn1 zge):=λH vs ds Q Qd ok p is ⟨r,hr,q⟩ k=>by
 unfold zge at hr
 split at hr
 ·split at hr
  ·rename_i hc
   cases hr;obtain⟨v,rfl,iv⟩:=zav is;simp only[Q5,GY,Zv] at hc;exact⟨v,_,_,rfl,iv,hc.1.1.1,hc.1.1.2,hc.1.2,hc.2,k _ H (.o _) (.refl _ _) (Is.str _) q⟩
  ·cases hr
 ·cases hr
def zv9(fo:DE)(fa:DE):DE:=λρ Q=>fo ρ λr0=>∃ sep,r0.d = .str sep/\fa ρ λr=>∃ ys:List Str,r.d = .list (ys.map .str)/\(ys.map (·.length)).sum+ys.length * sep.length<=16777216/\Q (.o (.str (Txt.join sep ys)))
theorem zx6{to ta:TE}{fo fa:DE}(ho:ED K O to fo)(ha:ED K O ta fa):ED K O (tBM K "str" zij to (zaj ta tNil)) (zv9 fo fa):=λσ H ρ Q Qd S hf k=>by
 refine ho σ H ρ _ _ S hf λv H1 r0 s1 o1 ⟨sep,e0,q1⟩=>?_;have i0:=o1.is S.ok S.p;rw[e0] at i0;cases i0;refine⟨rfl,?_⟩;refine ha σ H1 ρ _ _ (S.stp s1) q1 λw H2 r s2 o2 ⟨ys,e,hz,q⟩=>?_;have i1:=o2.is S.ok (s1.p S.p);rw[e] at i1
 cases i1 with
 | list f1 h1 z1 =>
   rw[zhn z1] at h1;exact⟨sep,_,ys,rfl,rfl,h1,hz,k _ H2 (.o _) (s1.trans s2) (Is.str _) q⟩
end
structure Ctx3 {ι:Type} (P:Vf) (w:Vk) (K:PySem.W.Frag) (mg:Str->Option Vb) (base:Heap) (k:Nat) (X:ι->Cx):Prop where
 hP:∀ i,(X i).prog=P
 hw:∀ i,(X i).w=w
 hK:∀ i,(X i).K=K
 hmg:∀ i,(X i).mg=mg
 hb:∀ i,(X i).base=base
 calm:∀ i,(X i).calm=true
 room:∀ i,Room k (X i).A
 xe:∀ i,(X i).xe=λ_ _=>False
def E3{ι κ:Type}(K:PySem.W.Frag)(X:ι->Cx)(O:κ->Ob)(e:Expr)(f:DE):Prop:=∃ t,(∀ i,PE (X i) e t)/\∀ j,ED K (O j) t f
def T3{ι κ:Type}(K:PySem.W.Frag)(X:ι->Cx)(O:κ->Ob)(e:Expr)(f:DT):Prop:=∃ t,(∀ i,PT (X i) e t)/\∀ j,TD K (O j) t f
def W3{ι κ:Type}(K:PySem.W.Frag)(X:ι->Cx)(O:κ->Ob)(e:Expr)(f:DT):Prop:=∃ t,(∀ i,PW (X i) e t)/\∀ j,TD K (O j) t f
def A3{ι κ:Type}(K:PySem.W.Frag)(X:ι->Cx)(O:κ->Ob)(es:List Expr)(f:DA):Prop:=∃ t,(∀ i,PA (X i) es t)/\∀ j,AD K (O j) t f
def I3{ι κ:Type}(K:PySem.W.Frag)(X:ι->Cx)(O:κ->Ob)(tg e:Expr)(f:DI):Prop:=∃ t,(∀ i,PI (X i) tg e t)/\∀ j,SrcS K (O j) t f
def J3{ι κ:Type}(K:PySem.W.Frag)(X:ι->Cx)(O:κ->Ob)(tg e:Expr)(f:DJ):Prop:=∃ t,(∀ i,PI (X i) tg e t)/\∀ j,SrcR K (O j) t f
def S3{ι κ:Type}(K:PySem.W.Frag)(X:ι->Cx)(O:κ->Ob)(s:Stmt)(g:DS):Prop:=∃ t,(∀ i,PS (X i) s t)/\∀ j,SD K (O j) t g
def Ss3{ι κ:Type}(K:PySem.W.Frag)(X:ι->Cx)(O:κ->Ob)(s:List Stmt)(g:DS):Prop:=∃ t,(∀ i,PSs (X i) s t)/\∀ j,SD K (O j) t g
def O3{ι κ:Type}(K:PySem.W.Frag)(X:ι->Cx)(O:κ->Ob)(e:Option Expr)(f:DO):Prop:=∃ t,(∀ i,PO (X i) e t)/\∀ j,OD K (O j) t f
def G3{ι:Type}(K:PySem.W.Frag)(X:ι->Cx)(h:Nat)(tg:Expr)(g:DG):Prop:=∃ t,(∀ i,PG (X i) tg t)/\(∀ O:Ob,GS K O t g)/\(∀ O:Ob,GR K O t g)/\OwnG h t
section
variable {ι κ : Type} {P : Vf} {w : Vk} {K : PySem.W.Frag} {mg : Str → Option Vb} {base : Heap} {k : Nat} {X : ι → Cx} {O : κ → Ob} {a b c : Expr} {fa fb fc : DE} {pos : Pos}
theorem zab(n:Nat){x:Str}(hN:∀ i,(X i).N[n]? = some x:=by intro i;rfl)(hv:∀ i,Vis (X i).env.scope x:=by intro i;first|exact Or.inl rfl|exact Or.inr (Or.inl rfl)|exact Or.inr (Or.inr rfl))
 (hd:(x == ("__debug__" : Str))=false:=by decide) (hcd:(x == ("__classdict__" : Str))=false:=by decide):E3 K X O (.Name x pos) (vD n):=⟨_,λi=>zag (hN i) (hv i) hd hcd,λj=>zzy⟩
theorem zan{n:Int}{j:Nat}:E3 K X O (.Constant (.int n) j pos) (cD (.int n)):=⟨_,λi=>zar,λj=>z1a⟩
theorem zdx{x:Str}{j:Nat}:E3 K X O (.Constant (.str x) j pos) (cD (.str x)):=⟨_,λi=>za6,λj=>z0c⟩
theorem e_bl{x:Bool}{j:Nat}:E3 K X O (.Constant (.bool x) j pos) (cD (.bool x)):=⟨_,λi=>zwo,λj=>z2w⟩
theorem e_op{op:Operator}{r:R2}{F:Ve->Ve->(R->Prop)->Prop}(ho:∀ i,OpR (X i) (binaryOp op) r)(hd:∀ j,OpD K (O j) r F)(ha:E3 K X O a fa)(hb:E3 K X O b fb):E3 K X O (.BinOp a op b pos) (opDE F fa fb) :=
 let ⟨_,p1,d1⟩:=ha;let ⟨_,p2,d2⟩:=hb; ⟨_,λi=>zax (ho i) (p1 i) (p2 i),λj=>zkq (hd j) (d1 j) (d2 j)⟩
theorem zay(C:Ctx3 P w K mg base k X)(ha:E3 K X O a fa)(hb:E3 K X O b fb):E3 K X O (.BinOp a .Add b pos) (opDE (fn2 addF) fa fb):=e_op (λi=>by have h:=zxi (X:=X i);rw[C.hK] at h;exact h) (λ_=>zxu) ha hb
theorem zvx{op:CmpOp}{r:R2}{F:Ve->Ve->(R->Prop)->Prop}(ho:∀ i,OpR (X i) (VG op) r)(hd:∀ j,OpD K (O j) r F)(ha:E3 K X O a fa)(hb:E3 K X O b fb)(hm:VS op b=false):E3 K X O (.Compare a [op] [b] pos) (opDE F fa fb) :=
 let ⟨_,p1,d1⟩:=ha;let ⟨_,p2,d2⟩:=hb; ⟨_,λi=>zyi (ho i) (p1 i) (p2 i) hm,λj=>zkq (hd j) (d1 j) (d2 j)⟩
theorem zpj{op:CmpOp}{r:R2}{F:Ve->Ve->(R->Prop)->Prop}(ho:∀ i,OpR (X i) (VG op) r)(hd:∀ j,OpD K (O j) r F)(ha:E3 K X O a fa)(hb:E3 K X O b fb)(hm:VS op b=false):T3 K X O (.Compare a [op] [b] pos) (bD (opDE F fa fb)) :=
 let ⟨_,p1,d1⟩:=ha;let ⟨_,p2,d2⟩:=hb; ⟨_,λi=>zef (ho i) (p1 i) (p2 i) hm,λj=>z0y (zkq (hd j) (d1 j) (d2 j))⟩
theorem zvv(C:Ctx3 P w K mg base k X):∀ i,OpR (X i) (VG .Eq) (rEqD K false):=λi=>by have h:=zzq (X:=X i) (C.room i).units;rw[C.hK] at h;exact h
theorem z2p(C:Ctx3 P w K mg base k X):∀ i,OpR (X i) (VG .NotEq) (rEqD K true):=λi=>by have h:=zzm (X:=X i) (C.room i).units;rw[C.hK] at h;exact h
theorem e_eq(C:Ctx3 P w K mg base k X)(ha:E3 K X O a fa)(hb:E3 K X O b fb):E3 K X O (.Compare a [.Eq] [b] pos) (opDE (fn2 (eqF false)) fa fb):=zvx (zvv C) (λ_=>zmg false) ha hb (zcf b)
theorem e_lt(ha:E3 K X O a fa)(hb:E3 K X O b fb):E3 K X O (.Compare a [.Lt] [b] pos) (opDE (fn2 (intF λi j => .bool (decide (i<j)))) fa fb):=zvx (λi=>zvn) (λ_=>zsi) ha hb (zcf b)
theorem t_eq(C:Ctx3 P w K mg base k X)(ha:E3 K X O a fa)(hb:E3 K X O b fb):T3 K X O (.Compare a [.Eq] [b] pos) (bD (opDE (fn2 (eqF false)) fa fb)):=zpj (zvv C) (λ_=>zmg false) ha hb (zcf b)
theorem t_ne(C:Ctx3 P w K mg base k X)(ha:E3 K X O a fa)(hb:E3 K X O b fb):T3 K X O (.Compare a [.NotEq] [b] pos) (bD (opDE (fn2 (eqF true)) fa fb)):=zpj (z2p C) (λ_=>zmg true) ha hb (zcf b)
theorem t_lt(ha:E3 K X O a fa)(hb:E3 K X O b fb):T3 K X O (.Compare a [.Lt] [b] pos) (bD (opDE (fn2 (intF λi j => .bool (decide (i<j)))) fa fb)):=zpj (λi=>zvn) (λ_=>zsi) ha hb (zcf b)
variable {ft fu : DT} {rest : List Expr}
theorem zwh(ha:E3 K X O a fa)(he:∀ i whole,isTrue a (X i).env whole=(do let v <- whole;standAt a.pos;holding [v] (truthy v)):=by intro _ _;rfl):T3 K X O a (bD fa):=let ⟨_,p,d⟩:=ha; ⟨_,λi=>z1e (p i) (he i),λj=>zn8 (d j)⟩
theorem zlw(h:T3 K X O a ft):W3 K X O (.BoolOp .And [a] pos) ft:=let ⟨_,p,d⟩:=h; ⟨_,λi=>zop (p i),d⟩
theorem zwc(h:T3 K X O a ft):W3 K X O (.BoolOp .Or [a] pos) ft:=let ⟨_,p,d⟩:=h; ⟨_,λi=>z0e (p i),d⟩
theorem zpd(h:T3 K X O a ft)(h':W3 K X O (.BoolOp .And (b::rest) pos) fu):W3 K X O (.BoolOp .And (a::b::rest) pos) (andT ft fu):=let ⟨_,p,d⟩:=h;let ⟨_,p2,d2⟩:=h'; ⟨_,λi=>zrg (p i) (p2 i),λj=>z0j (d j) (d2 j)⟩
theorem w_or(h:T3 K X O a ft)(h':W3 K X O (.BoolOp .Or (b::rest) pos) fu):W3 K X O (.BoolOp .Or (a::b::rest) pos) (orT ft fu):=let ⟨_,p,d⟩:=h;let ⟨_,p2,d2⟩:=h'; ⟨_,λi=>z2k (p i) (p2 i),λj=>z3g (d j) (d2 j)⟩
theorem t_w(h:W3 K X O a ft):T3 K X O a ft:=let ⟨_,p,d⟩:=h; ⟨_,λi=>(p i).pt,d⟩
theorem zvo{op:BoolOp}(h:E3 K X O a fa):E3 K X O (.BoolOp op [a] pos) fa:=let ⟨_,p,d⟩:=h; ⟨_,λi=>zzr (p i),d⟩
theorem z2h(h:E3 K X O a fa)(h':E3 K X O (.BoolOp .And (b::rest) pos) fb):E3 K X O (.BoolOp .And (a::b::rest) pos) (andV fa fb):=let ⟨_,p,d⟩:=h;let ⟨_,p2,d2⟩:=h'; ⟨_,λi=>z1v (p i) (p2 i),λj=>zx0 (d j) (d2 j)⟩
theorem e_or(h:E3 K X O a fa)(h':E3 K X O (.BoolOp .Or (b::rest) pos) fb):E3 K X O (.BoolOp .Or (a::b::rest) pos) (orV fa fb):=let ⟨_,p,d⟩:=h;let ⟨_,p2,d2⟩:=h'; ⟨_,λi=>z3d (p i) (p2 i),λj=>zz7 (d j) (d2 j)⟩
variable {es : List Expr} {ga : DA}
theorem zae:A3 K X O [] aNil:=⟨_,λi=>zaq,λj=>zz9⟩
theorem zac(ha:E3 K X O a fa)(hr:A3 K X O es ga)(hs:∀ i,Vg (a::es) (X i).env=(false,eval a (X i).env)::Vg es (X i).env:=by intro i;rfl):A3 K X O (a::es) (zcg fa ga):=let ⟨_,p,d⟩:=ha;let ⟨_,p2,d2⟩:=hr; ⟨_,λi=>zai (p i) (p2 i) (hs i),λj=>zxb (d j) (d2 j)⟩
theorem zf2{n:Nat}(h:A3 K X O es ga):E3 K X O (.Tuple es n pos) (tupD ga):=let ⟨_,p,d⟩:=h; ⟨_,λi=>zdj (p i),λj=>z0v (d j)⟩
theorem zda(h:A3 K X O es ga):E3 K X O (.List es pos) (lstD ga):=let ⟨_,p,d⟩:=h; ⟨_,λi=>zrh (p i),λj=>z0s (d j)⟩
theorem zc5(C:Ctx3 P w K mg base k X)(ha:E3 K X O a fa)(hb:E3 K X O b fb)(hs:zny b:=by intro _ _;rfl):E3 K X O (.Subscript a b pos) (opDE (fn2 idxF) fa fb) :=
 let ⟨_,p1,d1⟩:=ha;let ⟨_,p2,d2⟩:=hb; ⟨tOp (rIx K) _ _,λi=>by have h:=z2u (pos:=pos) (z0x (X:=X i)) (p1 i) (p2 i) hs;rw[C.hK] at h;exact h,λj=>zkq zx3 (d1 j) (d2 j)⟩
theorem zbs:O3 K X O none noO:=⟨_,λi=>znt,λj=>zx5⟩
theorem zas(ha:E3 K X O a fa):O3 K X O (some a) (zws fa):=let ⟨_,p,d⟩:=ha; ⟨_,λi=>zfz (p i),λj=>zyk (d j)⟩
theorem zau(C:Ctx3 P w K mg base k X){lo hi:Option Expr}{fl fh:DO}{p2:Pos}(ha:E3 K X O a fa)(hl:O3 K X O lo fl)(hh:O3 K X O hi fh):E3 K X O (.Subscript a (.Slice lo hi none p2) pos) (slD fa fl fh) :=
 let ⟨_,p1,d1⟩:=ha;let ⟨_,q2,d2⟩:=hl;let ⟨_,q3,d3⟩:=hh; ⟨tSl (rSl K) _ _ _,λi=>by have h:=zgv (pos:=pos) (p2:=p2) (z0o (X:=X i)) (p1 i) (q2 i) (q3 i);rw[C.hK] at h;exact h,λj=>ztn (d1 j) (d2 j) (d3 j)⟩
theorem zkt{x:Str}{id:String}{r:List V->Hp->VK->Prop}{F:List Ve->(R->Prop)->Prop}{p:Pos}(C:Ctx3 P w K mg base k X)(hc:∀ i,CallR (X i) (.builtin id) r)(hd:∀ j,zdc K (O j) r F)(hv:Vv x=some (.builtin id))(hm:mg x=none)(ha:A3 K X O (a::es) ga)
 (hg:∀ i,Gl (X i) x:=by intro i;rfl) (hn:x ≠ "__name__" := by decide) (hdb:(x == ("__debug__" : Str))=false:=by decide) (he:∀ i,Vg (a::es) (X i).env=(false,eval a (X i).env)::Vg es (X i).env:=by intro i;rfl) (hpl:∀ i,(VU pos (Vg es (X i).env)).any (·.1)=false:=by intro i;rfl) :
 E3 K X O (.Call (.Name x p) (a::es) [] pos) (zba F ga):=let ⟨_,q,d⟩:=ha; ⟨_,λi=>zcq (hc i) (hg i) (by rw[C.hmg];exact hm) hv (q i) hn hdb (he i) (hpl i),λj=>zlq (hd j) (d j)⟩
theorem zv2{x:Str}{T:String}{r:List V->Hp->VK->Prop}{F:List Ve->(R->Prop)->Prop}{p:Pos}(C:Ctx3 P w K mg base k X)(hc:∀ i,CallR (X i) (.type T) r)(hd:∀ j,zdc K (O j) r F)(hv:Vv x=some (.type T))(hm:mg x=none)(ha:A3 K X O (a::es) ga)
 (hg:∀ i,Gl (X i) x:=by intro i;rfl) (hn:x ≠ "__name__" := by decide) (hdb:(x == ("__debug__" : Str))=false:=by decide) (he:∀ i,Vg (a::es) (X i).env=(false,eval a (X i).env)::Vg es (X i).env:=by intro i;rfl) (hpl:∀ i,(VU pos (Vg es (X i).env)).any (·.1)=false:=by intro i;rfl) :
 E3 K X O (.Call (.Name x p) (a::es) [] pos) (zba F ga):=let ⟨_,q,d⟩:=ha; ⟨_,λi=>zd1 (hc i) (hg i) (by rw[C.hmg];exact hm) hv (q i) hn hdb (he i) (hpl i),λj=>zlq (hd j) (d j)⟩
end
theorem zha:Vv "len" = some (.builtin "len"):=by decide +kernel
theorem zz0:Vv "all" = some (.builtin "all"):=by decide +kernel
theorem zdv:Vv "sorted" = some (.builtin "sorted"):=by decide +kernel
theorem zyg:Vv "repr" = some (.builtin "repr"):=by decide +kernel
theorem zzg:Vv "int" = some (.type "int"):=by decide +kernel
theorem zi5:Vv "list" = some (.type "list"):=by decide +kernel
structure Blt (mg:Str->Option Vb):Prop where
 len:mg "len" = none
 all:mg "all" = none
 any:mg "any" = none
 sorted:mg "sorted" = none
 min:mg "min" = none
 max:mg "max" = none
 repr:mg "repr" = none
 int:mg "int" = none
 list:mg "list" = none
 tuple:mg "tuple" = none
 range:mg "range" = none
 set:mg "set" = none
 isinstance:mg "isinstance" = none
 enumerate:mg "enumerate" = none
 zip:mg "zip" = none
 reversed:mg "reversed" = none
 str:mg "str" = none
 sum:mg "sum" = none
 dict:mg "dict" = none
 bool:mg "bool" = none
structure Def3 (P:Vf) (w:Vk) (K:PySem.W.Frag) (mg:Str->Option Vb) (base:Heap) (k:Nat) (x:Str) (ps:List Str) (sp:Sp):Prop where
 ex:∃ f fd,FnOk P w K mg base CX0 k f fd ps sp/\mg x=some (.ref f)/\PySem.W.keepIn K (.ref f)=true/\Binds K fd ps []
structure Top3 (K:PySem.W.Frag) (mg:Str->Option Vb) (x:Str) (st:Stmt):Prop where
 ex:∃ f fd,Fun K x x st f fd/\mg x=some (.ref f)
structure CIx where
 C:Addr
 s:Vc
 H:Hp
 ex:List Addr
def zal{ι:Type}(X:ι->Cx)(scope:VP)(N':List Str):ι × CIx->Cx:=λp=>zbr (X p.1) scope N' p.2.C p.2.s p.2.H p.2.ex
def zhr{κ:Type}(O:κ->Ob):{ p:κ × (Addr × List V) // ¬ (O p.1).M p.2.1 }->Ob:=λp=>(O p.1.1).plus p.1.2.1 (.lst p.1.2.2)
def F3{ι κ:Type}(K:PySem.W.Frag)(X:ι->Cx)(O:κ->Ob)(ifs:List Expr)(f:DT):Prop:=∃ t,(∀ i,PF (X i) ifs t)/\∀ j,TD K (O j) t f
def yesD:DT:=λ_ Q=>Q true
section
variable {ι κ : Type} {P : Vf} {w : Vk} {K : PySem.W.Frag} {mg : Str → Option Vb} {base : Heap} {k : Nat} {X : ι → Cx} {O : κ → Ob} {a b c tg : Expr} {fa fb fc : DE} {pos p : Pos} {es : List Expr} {ga : DA}
theorem Ctx3.comp(C:Ctx3 P w K mg base k X)(scope:VP)(N':List Str):Ctx3 P w K mg base k (zal X scope N'):=⟨λi=>C.hP i.1,λi=>C.hw i.1,λi=>C.hK i.1,λi=>C.hmg i.1,λi=>C.hb i.1,λi=>C.calm i.1,λi=>C.room i.1,λ_=>rfl⟩
theorem zbd(C:Ctx3 P w K mg base k X)(B:Blt mg)(ha:A3 K X O [a] ga)(hg:∀ i,Gl (X i) "len" := by intro i;rfl)(he:∀ i,Vg [a] (X i).env=(false,eval a (X i).env)::Vg [] (X i).env:=by intro i;rfl):E3 K X O (.Call (.Name "len" p) [a] [] pos) (zba (fn1 lenF) ga) :=
 zkt C (λi=>by have h:=zfb (X:=X i);rw[C.hK] at h;exact h) (λ_=>z0k) zha B.len ha hg (by decide) (by decide) he
theorem z2g(C:Ctx3 P w K mg base k X)(B:Blt mg)(ha:A3 K X O [a] ga)(hg:∀ i,Gl (X i) "all" := by intro i;rfl)(he:∀ i,Vg [a] (X i).env=(false,eval a (X i).env)::Vg [] (X i).env:=by intro i;rfl):E3 K X O (.Call (.Name "all" p) [a] [] pos) (zba (allD false) ga) :=
 zkt C (λi=>zsv (C.calm i)) (λ_=>zzj false) zz0 B.all ha hg (by decide) (by decide) he
theorem zej(C:Ctx3 P w K mg base k X)(B:Blt mg)(ha:A3 K X O [a] ga)(hg:∀ i,Gl (X i) "repr" := by intro i;rfl)(he:∀ i,Vg [a] (X i).env=(false,eval a (X i).env)::Vg [] (X i).env:=by intro i;rfl):E3 K X O (.Call (.Name "repr" p) [a] [] pos) (zba (fn1 zge) ga) :=
 zkt C (λi=>by have h:=zpu (X:=X i) (C.room i).gd (C.room i).units;rw[C.hK] at h;exact h) (λ_=>zyp) zyg B.repr ha hg (by decide) (by decide) he
theorem zz6(C:Ctx3 P w K mg base k X)(B:Blt mg)(ha:A3 K X O [a] ga)(hg:∀ i,Gl (X i) "int" := by intro i;rfl)(he:∀ i,Vg [a] (X i).env=(false,eval a (X i).env)::Vg [] (X i).env:=by intro i;rfl):E3 K X O (.Call (.Name "int" p) [a] [] pos) (zba (fn1 zo4) ga) :=
 zv2 C (λi=>zqx) (λ_=>z1c) zzg B.int ha hg (by decide) (by decide) he
theorem zzb(C:Ctx3 P w K mg base k X)(B:Blt mg)(ha:A3 K X O [a] ga)(hg:∀ i,Gl (X i) "list" := by intro i;rfl)(he:∀ i,Vg [a] (X i).env=(false,eval a (X i).env)::Vg [] (X i).env:=by intro i;rfl):E3 K X O (.Call (.Name "list" p) [a] [] pos) (zba (fn1 zo2) ga) :=
 zv2 C (λi=>by have h:=zo1 (X:=X i) (C.calm i);rw[C.hK] at h;exact h) (λ_=>zy1) zi5 B.list ha hg (by decide) (by decide) he
theorem zme{X:Cx}:MtR X "str.join" zij:=λpins s σ H x xs v us Q I rx rv h=>zyw pins s σ H x xs v us Q I rx rv h
theorem z1l{apos:Pos}(C:Ctx3 P w K mg base k X)(ho:E3 K X O a fa)(hb:E3 K X O b fb)(hbase:∀ i,V3 a "join" (X i).env (eval a (X i).env)=eval a (X i).env:=by intro i;rfl)
 (hfew:∀ i,((VU pos (Vg [b] (X i).env)).all (λx=>!x.1) && (UI pos (Uk [] (X i).env)).all (λx=>x.1.isSome) && decide (([b]:List Expr).length+([]:List Ua).length+(if([]:List Ua).isEmpty then 0 else 1)<30))=true:=by intro i;rfl)
 (hline:(apos.endLine == pos.line)=true:=by rfl) (hs:∀ i,Vg [b] (X i).env = [(false,eval b (X i).env)]:=by intro i;rfl):E3 K X O (.Call (.Attribute a "join" apos) [b] [] pos) (zv9 fa fb) :=
 let ⟨_,p1,d1⟩:=ho;let ⟨_,p2,d2⟩:=hb; ⟨tBM K "str" zij _ (zaj _ tNil),λi=>by
  have h:=zh4 (apos:=apos) (cpos:=pos) PySem.F.plainAttrs_str PySem.F.slot_str_join PySem.F.type_str_join (zme (X:=X i)) (p1 i) (zai (p2 i) zaq (hs i)) (hbase i) (hfew i) hline (hs i);rw[C.hK] at h
  exact h,λj=>zx6 (d1 j) (d2 j)⟩
theorem zbg{k' n:Nat}{x:Str}{ps:List Str}{φ:Ob->Prop}{F:List Ve->(R->Prop)->Prop}(C:Ctx3 P w K mg base k X)(D:Def3 P w K mg base k' x ps (spO K φ n F))(hφ:∀ j,φ (O j))(ha:A3 K X O (a::es) ga)(hk:k'<=k:=by decide)(hg:∀ i,Gl (X i) x:=by intro i;rfl)
 (hdb:(x == ("__debug__" : Str))=false:=by decide) (he:∀ i,Vg (a::es) (X i).env=(false,eval a (X i).env)::Vg es (X i).env:=by intro i;rfl) (hpl:∀ i,(VU pos (Vg es (X i).env)).any (·.1)=false:=by intro i;rfl):E3 K X O (.Call (.Name x p) (a::es) [] pos) (calD n F ga):=by
 obtain⟨f,fd,G,m,kp,bn⟩:=D.ex;obtain⟨t,q,d⟩:=ha;refine⟨zcv (spO K φ n F) [] E0 t,λi=>?_,λj=>zyj (hφ j) (d j)⟩;have G':FnOk (X i).prog (X i).w (X i).K (X i).mg (X i).base CX0 k f fd ps (spO K φ n F):=by rw[C.hP,C.hw,C.hK,C.hmg,C.hb];exact G.mono hk
 exact zd5 G' (C.room i) (hg i) (by rw[C.hmg];exact m) (by rw[C.hK];exact kp) (by rw[C.hK];exact bn) .nil zh1 (q i) hdb (he i) (hpl i)
theorem zb2{k' n:Nat}(v:Nat){x y:Str}{py:Pos}{ps:List Str}{φ:Ob->Prop}{F:List Ve->(R->Prop)->Prop}(C:Ctx3 P w K mg base k X)(D:Def3 P w K mg base k' x ps (spD K φ n F))(hφ:∀ j,φ (O j))(ha:A3 K X O es ga)(hk:k'<=k:=by decide)(hg:∀ i,Gl (X i) x:=by intro i;rfl)
 (hN:∀ i,(X i).N[v]? = some y:=by intro i;rfl) (hv:∀ i,Vis (X i).env.scope y:=by intro i;first|exact Or.inl rfl|exact Or.inr (Or.inl rfl)|exact Or.inr (Or.inr rfl)) (hd:(y == ("__debug__" : Str))=false:=by decide) (hcd:(y == ("__classdict__" : Str))=false:=by decide)
 (hdb:(x == ("__debug__" : Str))=false:=by decide) (he:∀ i,Vg (.Name y py::es) (X i).env=(false,eval (.Name y py) (X i).env)::Vg es (X i).env:=by intro i;rfl) (hpl:∀ i,(VU pos (Vg es (X i).env)).any (·.1)=false:=by intro i;rfl) :
 E3 K X O (.Call (.Name x p) (.Name y py::es) [] pos) (calO v n F ga):=by
 obtain⟨f,fd,G,m,kp,bn⟩:=D.ex;obtain⟨t,q,d⟩:=ha;refine⟨zcv (spD K φ n F) [] E0 (zaj (tVar v) t),λi=>?_,λj=>zto (hφ j) (d j)⟩;have G':FnOk (X i).prog (X i).w (X i).K (X i).mg (X i).base CX0 k f fd ps (spD K φ n F):=by rw[C.hP,C.hw,C.hK,C.hmg,C.hb];exact G.mono hk
 exact zd5 G' (C.room i) (hg i) (by rw[C.hmg];exact m) (by rw[C.hK];exact kp) (by rw[C.hK];exact bn) .nil zh1 (zai (zag (hN i) (hv i) hd hcd) (q i) (he i)) hdb (he i) (hpl i)
theorem zci(C:Ctx3 P w K mg base k X)(ha:E3 K X O a fa):I3 K X O tg a (srcL fa):=let ⟨_,p,d⟩:=ha; ⟨zgi K _,λi=>by have h:=zf6 (tg:=tg) (p i);rw[C.hK] at h;exact h,λj=>ztu (d j)⟩
theorem zww(ha:E3 K X O a fa):I3 K X O tg a (srcS fa):=let ⟨_,p,d⟩:=ha; ⟨_,λi=>z0m (p i),λj=>zw6 (d j)⟩
theorem i_r1(C:Ctx3 P w K mg base k X)(B:Blt mg)(ha:A3 K X O [a] ga)(hg:∀ i,Gl (X i) "range" := by intro i;rfl)(hs:∀ i,Vg [a] (X i).env = [(false,eval a (X i).env)]:=by intro i;rfl):I3 K X O tg (.Call (.Name "range" p) [a] [] pos) (zwn ga) :=
 let ⟨_,q,d⟩:=ha; ⟨_,λi=>zka (hg i) (by rw[C.hmg];exact B.range) (q i) (hs i),λj=>zu4 (d j)⟩
theorem zc8{fi:DI}(h:I3 K X O tg a fi):J3 K X O tg a (newJ fi):=let ⟨_,p,d⟩:=h; ⟨_,p,λj=>zxd (d j)⟩
theorem zbb{h:Nat}(n:Nat){x:Str}(hlt:n<h:=by decide)(hN:∀ i,(X i).N.Nodup:=by intro i;exact GV (by kernel_rfl))(hi:∀ i,(X i).N[n]? = some x:=by intro i;rfl)(hx:∀ i,Loc (X i).env.scope x:=by intro i;first|exact Or.inl rfl|exact Or.inr rfl)
 (hf:∀ i,(X i).fn x=true\/(X i).env.scope.names.lookup x=some .local:=by intro i;first|exact .inl rfl|exact .inr rfl):G3 K X h (.Name x pos) (gN n):=⟨_,λi=>zbm (hN i) (hi i) (hx i) (hf i),λ_=>zxc,λ_=>zzd,zb9 hlt⟩
def Gs3{ι:Type}(K:PySem.W.Frag)(X:ι->Cx)(h:Nat)(es:List Expr)(is:List Nat):Prop:=∃ t,(∀ i,PGs (X i) es t)/\(∀ O:Ob,GSs K O t is)/\(∀ O:Ob,GRs K O t is)/\zic h t/\zhg t
theorem zlv{h:Nat}:Gs3 K X h [] []:=⟨_,λi=>zf0,λ_=>zx8,λ_=>zyy,znj,zji⟩
theorem zcr{h:Nat}{es:List Expr}{is:List Nat}(n:Nat){x:Str}(hr:Gs3 K X h es is)(hlt:n<h:=by decide)(hN:∀ i,(X i).N.Nodup:=by intro i;exact GV (by kernel_rfl))(hi:∀ i,(X i).N[n]? = some x:=by intro i;rfl)(hx:∀ i,Loc (X i).env.scope x:=by intro i;first|exact Or.inl rfl|exact Or.inr rfl)
 (hf:∀ i,(X i).fn x=true\/(X i).env.scope.names.lookup x=some .local:=by intro i;first|exact .inl rfl|exact .inr rfl) (hs:∀ i,(Vp (.Name x pos::es) (X i).env).map (·.2)=Uo (.Name x pos) (X i).env::(Vp es (X i).env).map (·.2):=by intro i;rfl):Gs3 K X h (.Name x pos::es) (n::is) :=
 let ⟨_,p,d1,d2,o,m⟩:=hr; ⟨_,λi=>zca (zbm (hN i) (hi i) (hx i) (hf i)) (p i) (hs i),λO=>ztg (d1 O),λO=>zuf (d2 O),zg6 zdq m (zb9 hlt) o,zk7 zdq m⟩
theorem zpo{h n:Nat}{es:List Expr}{is:List Nat}{j:Nat}(C:Ctx3 P w K mg base k X)(hr:Gs3 K X h es is)(hn:is.length=n:=by rfl)(hn2:∀ i,(Vp es (X i).env).length=n:=by intro i;rfl)(hst:∀ i,(Vp es (X i).env).findIdx? (·.1)=none:=by intro i;rfl):G3 K X h (.Tuple es j pos) (gT is) :=
 let ⟨_,p,d1,d2,o,m⟩:=hr; ⟨_,λi=>by have z:=zg9 (pos:=pos) (k:=j) (C.calm i) (p i) (hn2 i) (hst i);rw[C.hK] at z;exact z,λO=>z0d hn (d1 O),λO=>z1i hn (d2 O),znk o⟩
theorem zkv{n:Int}{j:Nat}{p2:Pos}:E3 K X O (.UnaryOp .USub (.Constant (.int n) j p2) pos) (cD (.int (-n))):=⟨tUn (rU λi => .int (-i)) (tC (.int n)),λi=>z1z z0q zar,λ_ σ H ρ Q Qd S h kk=>⟨n,rfl,kk _ H (.o _) (.refl _ _) (Is.int _) h⟩⟩
theorem ze9{O':κ->Ob}:F3 K X O' [] yesD:=⟨_,λi=>zie,λj σ H ρ Q Qd S h k=>k true H (.refl _ _) h⟩
theorem z2o{ft:DT}(h:T3 K X O c ft):F3 K X O [c] ft:=let ⟨_,p,d⟩:=h; ⟨_,λi=>zs9 (p i),d⟩
theorem zdp{elt iter:Expr}{ifs:List Expr}{scope:VP}{fi:DI}{g:DG}{ft:DT}{fe:DE}(h:Nat)(N':List Str)(C:Ctx3 P w K mg base k X)(S:∀ i,ScopeOk h N' (X i).N scope (X i).env.scope)(hs:I3 K X O tg iter fi)
 (hg:G3 K (zal X scope N') h tg g) (hf:F3 K (zal X scope N') (zhr O) ifs ft) (he:E3 K (zal X scope N') (zhr O) elt fe) (hset:∀ i x,V7 iter (X i).env x=pure x:=by intro _ _;rfl) :
 E3 K X O (.ListComp elt [⟨tg,iter,ifs,0⟩] scope pos) (zh0 h fi g ft fe):=by
 obtain⟨ti,p1,d1⟩:=hs;obtain⟨tg',p2,d2,_,ow⟩:=hg;obtain⟨tf,p3,d3⟩:=hf;obtain⟨te,p4,d4⟩:=he;exact⟨_,λi=>zf1 h (S i) (C.calm i) (p1 i) (λc s H ex=>p2 (i,⟨c,s,H,ex⟩)) ow (λc s H ex=>p3 (i,⟨c,s,H,ex⟩)) (λc s H ex=>p4 (i,⟨c,s,H,ex⟩)) (hset i),λj=>zox (d1 j) d2 (λD xs nm=>d3 ⟨(j,(D,xs)),nm⟩) λD xs nm=>d4 ⟨(j,(D,xs)),nm⟩⟩
variable {st : Stmt} {sts : List Stmt} {g1 g2 : DS} {ft : DT}
theorem zb0:Ss3 K X O [] (λDd ρ=>Dd.nx ρ):=⟨_,λi=>zni,λj=>zw3⟩
theorem zam(h:S3 K X O st g1):Ss3 K X O [st] g1:=let ⟨_,p,d⟩:=h; ⟨_,λi=>zcn (p i),d⟩
theorem zak(h:S3 K X O st g1)(h':Ss3 K X O sts g2):Ss3 K X O (st::sts) (seqD g1 g2):=let ⟨_,p,d⟩:=h;let ⟨_,p2,d2⟩:=h'; ⟨_,λi=>za1 (p i) (p2 i),λj=>zzi (d j) (d2 j)⟩
theorem zbw(ha:E3 K X O a fa):S3 K X O (.Return (some a) pos) (retS fa):=let ⟨_,p,d⟩:=ha; ⟨_,λi=>zei (p i),λj=>zzh (d j)⟩
theorem s_if{sa sb:List Stmt}(hc:T3 K X O c ft)(h:Ss3 K X O sa g1)(h':Ss3 K X O sb g2):S3 K X O (.If c sa sb pos) (ifS ft g1 g2):=let ⟨_,p,d⟩:=hc;let ⟨_,p1,d1⟩:=h;let ⟨_,p2,d2⟩:=h'; ⟨_,λi=>zwt (p i) (p1 i) (p2 i),λj=>z2d (d j) (d1 j) (d2 j)⟩
theorem zbk(n:Nat){x:Str}{px:Pos}(ha:E3 K X O a fa)(hN:∀ i,(X i).N.Nodup:=by intro i;exact GV (by kernel_rfl))(hi:∀ i,(X i).N[n]? = some x:=by intro i;rfl)(hx:∀ i,Loc (X i).env.scope x:=by intro i;first|exact Or.inl rfl|exact Or.inr rfl)
 (hs:∀ i,VH a (some (.Name x px)) pos.line (X i).env=pure false:=by intro i;rfl) (hf:∀ i,(X i).fn x=true\/(X i).env.scope.names.lookup x=some .local:=by intro i;first|exact .inl rfl|exact .inr rfl):S3 K X O (.Assign [.Name x px] a pos) (asgS n fa) :=
 let ⟨_,p,d⟩:=ha; ⟨_,λi=>zbt (hN i) (hi i) (hx i) (p i) (hs i) (hf i),λj=>zsl (d j)⟩
theorem z0r(n:Nat){x:Str}{px p0:Pos}{elt iter:Expr}{ifs:List Expr}{scope:VP}{fi:DI}{g:DG}{ft:DT}{fe:DE}(h:Nat)(N':List Str)(C:Ctx3 P w K mg base k X)(S:∀ i,ScopeOk h N' (X i).N scope (X i).env.scope)(hs:I3 K X O tg iter fi)
 (hg:G3 K (zal X scope N') h tg g) (hf:F3 K (zal X scope N') (zhr O) ifs ft) (he:E3 K (zal X scope N') (zhr O) elt fe) (hN:∀ i,(X i).N.Nodup:=by intro i;exact GV (by kernel_rfl)) (hi:∀ i,(X i).N[n]? = some x:=by intro i;rfl) (hx:∀ i,(X i).env.scope.names.lookup x=some .local:=by intro i;rfl)
 (hsw:∀ i,VH (.ListComp elt [⟨tg,iter,ifs,0⟩] scope p0) (some (.Name x px)) pos.line (X i).env=pure true:=by intro i;rfl) (hset:∀ i x,V7 iter (X i).env x=pure x:=by intro _ _;rfl) :
 S3 K X O (.Assign [.Name x px] (.ListComp elt [⟨tg,iter,ifs,0⟩] scope p0) pos) (asgS n (zh0 h fi g ft fe)):=by
 obtain⟨ti,p1,d1⟩:=hs;obtain⟨tg',p2,d2,_,ow⟩:=hg;obtain⟨tf,p3,d3⟩:=hf;obtain⟨te,p4,d4⟩:=he;exact⟨_,λi=>zh6 (hN i) (hi i) (hx i) (hsw i) h (S i) (C.calm i) (p1 i) (λc s H ex=>p2 (i,⟨c,s,H,ex⟩)) ow (λc s H ex=>p3 (i,⟨c,s,H,ex⟩)) (λc s H ex=>p4 (i,⟨c,s,H,ex⟩)) (hset i),λj=>zsl (zox (d1 j) d2 (λD xs nm=>d3 ⟨(j,(D,xs)),nm⟩) λD xs nm=>d4 ⟨(j,(D,xs)),nm⟩)⟩
theorem zpk{X:Cx}:MtR X "list.append" zf7:=λpins s σ H x xs v us Q I rx rv h=>zfv pins s σ H x xs v us Q I rx rv h
theorem zwe(n:Nat){x:Str}{px apos cpos:Pos}(C:Ctx3 P w K mg base k X)(hb:E3 K X O b fb)(hN:∀ i,(X i).N[n]? = some x:=by intro i;rfl)(hv:∀ i,Vis (X i).env.scope x:=by intro i;first|exact Or.inl rfl|exact Or.inr (Or.inl rfl)|exact Or.inr (Or.inr rfl))(hd:(x == ("__debug__" : Str))=false:=by decide)(hcd:(x == ("__classdict__" : Str))=false:=by decide)
 (hbase:∀ i,V3 (.Name x px) "append" (X i).env (eval (.Name x px) (X i).env)=eval (.Name x px) (X i).env:=by intro i;rfl)
 (hfew:∀ i,((VU cpos (Vg [b] (X i).env)).all (λx=>!x.1) && (UI cpos (Uk [] (X i).env)).all (λx=>x.1.isSome) && decide (([b]:List Expr).length+([]:List Ua).length+(if([]:List Ua).isEmpty then 0 else 1)<30))=true:=by intro i;rfl)
 (hline:(apos.endLine == cpos.line)=true:=by rfl) (hs:∀ i,Vg [b] (X i).env = [(false,eval b (X i).env)]:=by intro i;rfl) (hsw:∀ i,VH (.Call (.Attribute (.Name x px) "append" apos) [b] [] cpos) none pos.line (X i).env=pure false:=by intro i;rfl) :
 S3 K X O (.Expr (.Call (.Attribute (.Name x px) "append" apos) [b] [] cpos) pos) (appS n fb):=let ⟨_,p2,d2⟩:=hb;
 ⟨zev (tBM K "list" zf7 (tVar n) (zaj _ tNil)),λi=>by
  have h:=zh4 (apos:=apos) (cpos:=cpos) PySem.F.plainAttrs_list PySem.F.slot_list_append PySem.F.type_list_append (zpk (X:=X i)) (zag (pos:=px) (hN i) (hv i) hd hcd) (zai (p2 i) zaq (hs i)) (hbase i) (hfew i) hline (hs i);rw[C.hK] at h
  exact zjh h (hsw i),λj=>zr7 (d2 j)⟩
theorem zfp{X:Cx}(h:X.xe=λ_ _=>False):PassesOwn (model X.prog X.w) X.A X.env X.xe:=by rw[h];exact PassesOwn.never
theorem zdf{iter:Expr}{body:List Stmt}{fj:DJ}{g:DG}{hh:Nat}(C:Ctx3 P w K mg base k X)(hi:J3 K X O tg iter fj)(hg:G3 K X hh tg g)(hb:Ss3 K X O body g1)(hs:∀ i x,V7 iter (X i).env x=pure x:=by intro _ _;rfl):S3 K X O (.For tg iter body [] pos) (forS fj g g1):=by
 obtain⟨ti,p1,d1⟩:=hi;obtain⟨tg',p2,_,d2,_⟩:=hg;obtain⟨tb,p3,d3⟩:=hb;exact⟨_,λi=>zla (zfp (C.xe i)) (C.calm i) (p1 i) (p2 i) (p3 i) (hs i),λj=>zzv (d1 j) (d2 (O j)) (d3 j)⟩
end
theorem len1{fd:VB}{p0:Str}{us:List Vb}(hl:us.length=1)(h:∀ u0,Ue fd ⟨[u0],[]⟩=pure ([p0].zip [u0])):Ue fd ⟨us,[]⟩=pure ([p0].zip us):=by
 match us,hl with
 | [u0],_=>exact h u0
theorem len2{fd:VB}{p0 p1:Str}{us:List Vb}(hl:us.length=2)(h:∀ u0 u1,Ue fd ⟨[u0,u1],[]⟩=pure ([p0,p1].zip [u0,u1])):Ue fd ⟨us,[]⟩=pure ([p0,p1].zip us):=by
 match us,hl with
 | [u0,u1],_=>exact h u0 u1
theorem len3{fd:VB}{p0 p1 p2:Str}{us:List Vb}(hl:us.length=3)(h:∀ u0 u1 u2,Ue fd ⟨[u0,u1,u2],[]⟩=pure ([p0,p1,p2].zip [u0,u1,u2])):Ue fd ⟨us,[]⟩=pure ([p0,p1,p2].zip us):=by
 match us,hl with
 | [u0,u1,u2],_=>exact h u0 u1 u2
section
variable {P : Vf} {w : Vk} {K : PySem.W.Frag} {mg : Str → Option Vb} {base : Heap} {k n : Nat} {x : Str} {st : Stmt} {N ps : List Str} {φ : Ob → Prop} {F : List Ve → (R → Prop) → Prop}
abbrev zcj(P:Vf)(w:Vk)(K:PySem.W.Frag)(mg:Str->Option Vb)(base:Heap)(N:List Str)(x:Str)(sc:VP)(f:Addr)(cdv:Vb)(A:Vl)(outer:List Env)(s:Vc)(H:Hp)(E:XK):Unit->Cx:=λ_=>(cxOf CX0 P w K mg base N x sc f cdv A outer s H E).nox
theorem zez{f:Addr}{cdv:Vb}{A:Vl}{outer:List Env}{s:Vc}{H:Hp}{E:XK}{sc:VP}(hr:Room k (A.deeper (US x sc s.heap.objs.size f cdv))):Ctx3 P w K mg base k (zcj P w K mg base N x sc f cdv A outer s H E) :=
 ⟨λ_=>rfl,λ_=>rfl,λ_=>rfl,λ_=>rfl,λ_=>rfl,λ_=>rfl,λ_=>hr,λ_=>rfl⟩
theorem mk_O(T:Top3 K mg x st)(S:FnScope N ps (zaf st))(hb:∀ (kV doc pm:Vb) (an:Option Addr) (cdv ct:Vb) (us:List Vb),us.length=ps.length->Ue (PySem.W.fnOf x x (zbv st) (za2 st) (zaf st) .none kV doc pm an cdv ct) ⟨us,[]⟩=pure (ps.zip us))(hn:ps.length=n)
 (body:∀ (f:Addr) (cdv:Vb) (A:Vl) (outer:List Env) (s:Vc) (H:Hp) (E:XK) (O:Ob),φ O->Ctx3 P w K mg base k (zcj P w K mg base N x (zaf st) f cdv A outer s H E) ->
  ∃ g,Ss3 K (zcj P w K mg base N x (zaf st) f cdv A outer s H E) (λ_:Unit=>O) (za2 st) g/\∀ ds Qr,ds.length=n->F ds Qr->g { nx:=λ_=>Qr (.o .none),rt:=Qr } (zbu N (ds.map .im))):Def3 P w K mg base (k+1) x ps (spO K φ n F):=by
 obtain⟨f,fd,Fu,m⟩:=T.ex;refine⟨f,fd,Fu.ok S (zyd hn) (λcdv A outer s H vs Q E hr h=>?_),m,Fu.kp,Fu.binds hb⟩;obtain⟨O,ds,Qr,ok,hφ,p,hl,is,q,kk⟩:=h;obtain⟨g,⟨t,h1,h2⟩,h3⟩:=body f cdv A outer s H E O hφ (zez hr);exact⟨t,h1 (),z2v (h2 ()) ok p is (h3 ds Qr hl q) kk⟩
theorem mk_D(T:Top3 K mg x st)(S:FnScope N ps (zaf st))(hb:∀ (kV doc pm:Vb) (an:Option Addr) (cdv ct:Vb) (us:List Vb),us.length=ps.length->Ue (PySem.W.fnOf x x (zbv st) (za2 st) (zaf st) .none kV doc pm an cdv ct) ⟨us,[]⟩=pure (ps.zip us))(hn:ps.length=n+1)
 (body:∀ (f:Addr) (cdv:Vb) (A:Vl) (outer:List Env) (s:Vc) (H:Hp) (E:XK) (O:Ob),φ O->Ctx3 P w K mg base k (zcj P w K mg base N x (zaf st) f cdv A outer s H E) ->
  ∃ g,Ss3 K (zcj P w K mg base N x (zaf st) f cdv A outer s H E) (λ_:Unit=>O) (za2 st) g/\∀ ds Qr,ds.length=n->F ds Qr->g { nx:=λ_=>Qr (.o .none),rt:=Qr } (zbu N (.ob::ds.map .im))):Def3 P w K mg base (k+1) x ps (spD K φ n F):=by
 obtain⟨f,fd,Fu,m⟩:=T.ex;refine⟨f,fd,Fu.ok S (zi3 hn) (λcdv A outer s H vs Q E hr h=>?_),m,Fu.kp,Fu.binds hb⟩;obtain⟨O,ds,ws,Qr,ok,hφ,p,hl,rfl,is,q,kk⟩:=h;obtain⟨g,⟨t,h1,h2⟩,h3⟩:=body f cdv A outer s H E O hφ (zez hr);exact⟨t,h1 (),z2i (h2 ()) ok p is (h3 ds Qr hl q) kk⟩
end
structure PotStp (a l:Addr) (H H':Hp):Prop where
 oth:∀ b,b ≠ a->b ≠ l->H' b=H b
theorem PotStp.refl(a l:Addr)(H:Hp):PotStp a l H H:=⟨λ_ _ _=>rfl⟩
theorem PotStp.trans{a l:Addr}{H H1 H2:Hp}(x:PotStp a l H H1)(y:PotStp a l H1 H2):PotStp a l H H2:=⟨λb h1 h2=>(y.oth b h1 h2).trans (x.oth b h1 h2)⟩
theorem PotStp.upA{a l:Addr}{H:Hp}(o:HO):PotStp a l H (upd H a o):=⟨λb h1 _=>zaa h1⟩
theorem PotStp.upL{a l:Addr}{H:Hp}(o:HO):PotStp a l H (upd H l o):=⟨λb _ h2=>zaa h2⟩
abbrev lenR(K:PySem.W.Frag):List V->Hp->VK->Prop:=λxs H Q=>∃ x n,xs = [x]/\LenV K x H n/\Q (.int n) H
def zcw:List Ve->(R->Prop)->Prop:=λds Q=>∃ m:Int,ds = [.int m]/\0<m/\m<1073741824/\∀ k,0<=k->k<m->Q (.o (.int k))
theorem zrz{X:Cx}:MtR X "list.pop" zig:=λpins s σ H x xs v us Q I rx rv h=>zts pins s σ H x xs v us Q I rx rv h
theorem zur(ns:List Int)(lo hi:Option Int):cutV (ns.map V.int) lo hi=(cutL ns lo hi).map V.int:=by
 unfold cutV cutL;rw[Qe,JP,JQ]
def abc:List Nat:=(Qx 26).map (· + 97)
def ze3(c:Nat):Prop:=97<=c/\c<123
def ze8:List Ve->(R->Prop)->Prop:=λds Q=>∃ m:Int,ds = [.int m]/\0<=m/\m<=26/\∀ w:List Nat,(w.length:Int)=m->(∀ c ∈ w,ze3 c)->w.Pairwise (· < ·)->Q (.o (.str (tx w)))
def zg4(K:PySem.W.Frag)(drawSp:Sp):TS :=
 tSeq (tAsg (tCB zle (zaj (tC (.str "abcdefghijklmnopqrstuvwxyz")) tNil)) (zao 2))
 (tRet (tBM K "str" zij (tC (.str "")) (zaj (tCB zqn (zaj (ze7 1 (zo5 (zaj (tVar 1) tNil)) (zao 0) tYes (tBM K "list" zig (tVar 3) (zaj (zcv drawSp [] E0 (zaj (tVar 1) (zaj (tCB (lenR K) (zaj (tVar 3) tNil)) tNil))) tNil))) tNil)) tNil)))
theorem zj1:∀ (l:List Nat) (acc:Array Nat),(l.map sg).foldl (λacc p=>acc++(Str.ofString "").cps++p.cps) acc=acc++l.toArray
 | [],acc=>by simp
 | c::r,acc=>by
   rw[Qn,Z1,zj1 r];have e:(Str.ofString "").cps = #[]:=by decide +kernel
   rw[e];apply ZP.mp;simp[sg]
theorem zn5(w:List Nat):Txt.join "" (w.map sg)=tx w:=by
 cases w with
 | nil=>decide +kernel
 | cons c r =>
   show Builtin.Str.glued (Str.ofString "") (sg c::r.map sg)=tx (c::r);unfold Builtin.Str.glued;show(⟨(r.map sg).foldl _ (sg c).cps⟩:Str)=_;rw[zj1];unfold tx sg
   congr 1
   apply ZP.mp;simp
theorem z0h(c:Nat):(sg c).length=1:=rfl
theorem zrt(w:List Nat):((w.map sg).map (·.length)).sum=w.length:=by
 induction w with
 | nil=>rfl
 | cons c r ih=>rw[Qn,Qn,ZF,ih,z0h,Qf];omega
theorem unsg:∀ {zs:List Str},(∀ z ∈ zs,∃ c,z=sg c/\ze3 c)->∃ w:List Nat,zs=w.map sg/\∀ c ∈ w,ze3 c
 | [],_=>⟨[],rfl,by simp⟩
 | z::zs,h=>by
   obtain⟨c,rfl,hc⟩:=h z Qt;obtain⟨w,rfl,hw⟩:=unsg (zs:=zs) λy hy=>h y (Qb _ hy);exact⟨c::w,rfl,λd hd=>by rcases Qs.mp hd with e|e; (rw[e];exact hc);exact hw d e⟩
theorem zjr{α β:Type}(f:α->β):∀ (l:List α) (i:Nat),(l.map f).eraseIdx i=(l.eraseIdx i).map f
 | [],_=>rfl
 | _::_,0=>rfl
 | a::l,i+1=>by rw[Qn,QW,QW,Qn,zjr f l i]
theorem zk9{α:Type}{l:List α}{i:Nat}{x:α}(h:x ∈ l.eraseIdx i):x ∈ l:=Jk h
theorem zjq{α:Type}:∀ {l:List α} {i:Nat} (h:i<l.length),([l[i]]++l.eraseIdx i).Perm l
 | a::l,0,_ => .refl _
 | a::l,i+1,h=>by
   have h':i<l.length:=by simpa using h
   have ih:=zjq (l:=l) (i:=i) h';show(l[i]::a::l.eraseIdx i).Perm (a::l);exact(jr a l[i] _).trans (List.Perm.cons a ih)
theorem z0n{a b:Nat}(h:sg a=sg b):a=b:=by
 have:=Tb (λx:Str=>x.cps.toList) h;simpa[sg] using this
theorem zgo:∀ {w:List Nat} {x:Nat},risingS (sg x) (w.map sg)=true->(∀ c ∈ w,x<=c)/\w.Pairwise (·<=·)
 | [],_,_=>⟨λ_ h=>(nomatch h),.nil⟩
 | y::r,x,h=>by
   have h:(!(decide (y<x) || (y == x && false)) && risingS (sg y) (r.map sg))=true:=h;rw[jp,jv,Q5,Zv,decide_eq_false_iff_not] at h;obtain⟨h1,h2⟩:=zgo (w:=r) (x:=y) h.2;refine⟨λc hc=>?_,.cons h1 h2⟩;rcases Qs.mp hc with rfl|hc
   ·omega
   ·have:=h1 c hc;omega
theorem zpa:∀ {w:List Nat},UV (w.map sg)=true->w.Nodup->w.Pairwise (· < ·)
 | [],_,_ => .nil
 | x::r,h,hn=>by
   obtain⟨h1,h2⟩:=zgo (w:=r) (x:=x) h;obtain⟨n1,n2⟩:=Zi.mp hn;refine .cons (λc hc=>YD (h1 c hc) λe=>n1 (e ▸ hc)) ?_;exact(List.Pairwise.and h2 n2).imp λ⟨a,b⟩=>YD a b
theorem zdg{neg:Bool}{x y:Str}(hx:PyData.strOk x=true)(hy:PyData.strOk y=true):eqF neg (.str x) (.str y)=some (.o (.bool (if neg then !(x == y) else x == y))):=by
 unfold eqF;rw[GQ (by simp[okD,PyData.canLay0,PyData.depth,hx,hy])];rfl
theorem zc1{v w:List Nat}(h:tx v=tx w):v=w:=by
 have:=Tb (λx:Str=>x.cps.toList) h;simpa[tx] using this
theorem zk6(v w:List Nat):(tx v == tx w)=decide (v=w):=by
 by_cases e:v=w
 ·subst e;simp
 ·rw[GU e];exact beq_eq_false_iff_ne.mpr λh=>e (zc1 h)
theorem zgf{neg:Bool}{i j:Int}:eqF neg (.int i) (.int j)=some (.o (.bool (if neg then !decide (i=j) else decide (i=j)))):=by
 unfold eqF;have e:(okD (PyData.int i) && (PyData.int j).canLay0)=true:=by simp[okD,PyData.canLay0,PyData.depth]
 rw[GQ e];rfl
theorem zgc{α:Type}{enc:α->Ve}{i:Nat}{fe:DE}{ρ:DSt}{Q:List Ve->Prop}{as:List α}{e:α->Ve}{h:Nat}(step:∀ a ∈ as,∀ P:R->Prop,(∀ r,r.d=e a->P r)->fe ((Qh h none++ρ).set i (some (.im (enc a)))) P)(hz:as.length<=sizeLine)(q:Q (as.map e)) :
 za4 h (gN i) yesD fe ρ Q (as.map enc) []:=by
 have key:∀ (as:List α) (acc:List Ve),(∀ a ∈ as,∀ P:R->Prop,(∀ r,r.d=e a->P r)->fe ((Qh h none++ρ).set i (some (.im (enc a)))) P)->acc.length+as.length<=sizeLine->Q (acc++as.map e)->za4 h (gN i) yesD fe ρ Q (as.map enc) acc:=by
  intro as
  induction as with
  | nil=>intro acc _ _ q;show Q acc;simpa using q
  | cons a as ih =>
    intro acc st hz q;rw[Qf] at hz;refine st a Qt _ λr hr=>?_;refine⟨by omega,?_⟩;rw[hr];exact ih (acc ++ [e a]) (λa' ha=>st a' (Qb _ ha)) (by rw[Qj];simp;omega) (by simpa using q)
 exact key as [] step (by simpa using hz) (by simpa using q)
theorem zbc{g:DG}{gb:DS}{Dd:DEnds}{ds:List Ve}{ρ:DSt}(J:Nat->DSt->Prop)(h0:J 0 ρ)(fin:∀ ρ,J ds.length ρ->Dd.nx ρ)
 (step:∀ (j:Nat) d ρ (N:DSt->Prop),ds[j]? = some d->(∀ ρ',J (j+1) ρ'->N ρ')->J j ρ->flat d=true/\g d ρ λρ2=>gb { Dd with nx:=N,ct:=N,bk:=Dd.nx } ρ2):zc9 g gb Dd ds ρ:=by
 have key:∀ (k j:Nat),j+k=ds.length->∀ ρ,J j ρ->zc9 g gb Dd (ds.drop j) ρ:=by
  intro k
  induction k with
  | zero =>
    intro j hj ρ h;rw[QZ (by omega)];have e:j=ds.length:=by omega
    rw[e] at h;exact fin ρ h
  | succ k ih =>
    intro j hj ρ h;have hlt:j<ds.length:=by omega
    rw[QC hlt];exact step j ds[j] ρ _ (Qa hlt) (λρ' h'=>ih (j+1) (by omega) ρ' h') h
 have:=key ds.length 0 (by omega) ρ h0;simpa using this
theorem zq1(lo:Int)(n:Nat):(zc7 lo n).length=n:=by simp[zc7]
theorem zxp(w:List Nat):(sgs (tx w)).length=w.length:=by simp[sgs,tx]
theorem zy5{w:List Nat}{j:Nat}{d:Ve}(h:(sgs (tx w))[j]? = some d):∃ c,w[j]? = some c/\d = .str (sg c):=by
 unfold sgs at h;rw[zbe,Qk] at h;obtain⟨c,hc,rfl⟩:=Q0.mp h;exact⟨c,hc,rfl⟩
theorem zc0{α:Type}{f:α->Ve}(h:∀ a,flat (f a)=true):∀ l:List α,flats (l.map f)=true
 | []=>rfl
 | a::l=>by rw[Qn,flats,h a,zc0 h l];rfl
abbrev LowW(w:List Nat):Prop:=∀ c ∈ w,ze3 c
theorem zb5(w:List Nat):(tx w).length=w.length:=by simp[tx,Str.length]
theorem zbz{w:List Nat}(h:w.length<=16777216):lenF [.str (tx w)]=some (.o (.int w.length)):=by
 unfold lenF;dsimp only;rw[zb5,GQ (by rw[Vj];exact h)]
theorem zhj{w:List Nat}{k:Nat}(h:k<w.length)(hl:w.length<=16777216):idxF (.str (tx w)) (.int (k:Nat))=some (.o (.str (tx [w[k]]))):=by
 unfold idxF;dsimp only;rw[zb5,GQ (by rw[Vj];exact hl),zbe,zod (v:=w[k]) (by rw[Qa h])];rfl
theorem zek{v w:List Nat}(h:v.length+w.length<=16777216):addF (.str (tx v)) (.str (tx w))=some (.o (.str (tx (v++w)))):=by
 unfold addF;dsimp only;rw[zb5,zb5,GQ (by rw[Vj];exact h)]
 have e:tx v++tx w=tx (v++w):=by
  show Str.mk _=Str.mk _;simp[tx]
 rw[e]
theorem zfx(n d m:Nat):HT.sIx n d (some (m:Int))=min m n:=by
 have:=zg1 n d (m:Int);rw[GT (by omega)] at this;omega
theorem zms(n d:Nat):HT.sIx n d none=d:=rfl
theorem zqz{α:Type}(xs:List α)(m:Nat):cutL xs none (some (m:Int))=xs.take m:=by
 unfold cutL;rw[zfx,zms,ZZ,Yh,Yp,Nat.min_assoc,Nat.min_self,<- Yp]
theorem zco{α:Type}(xs:List α)(m:Nat):cutL xs (some (m:Int)) none=xs.drop m:=by
 unfold cutL;rw[zfx,zms];rcases Nat.le_total m xs.length with h|h
 ·rw[Yl h,ZD (by rw[Q9];exact Qc _)]
 ·rw[JW h,QZ (Qc _),QZ h,Y9]
theorem zdy{v:List Nat}{lo hi:Option Int}(h:v.length<=16777216):slcF lo hi (.str (tx v))=some (.o (.str (tx (cutL v lo hi)))):=by
 unfold slcF;dsimp only;rw[zb5,zbe,GQ (by rw[Vj];exact h)]
theorem zl4{o:Nat}{m:Int}{ρ:DSt}{Q:R->Prop}(hρ:ρ[o]? = some (some .ob))(h0:0<m)(h1:m<1073741824)(q:∀ k:Nat,(k:Int)<m->Q (.o (.int (k:Nat)))):calO o 1 zcw (zcg (cD (.int m)) aNil) ρ Q:=by
 refine⟨hρ,rfl,m,rfl,h0,h1,λk k0 k1=>?_⟩;have:=q k.toNat (by omega);rwa [show((k.toNat:Nat):Int)=k by omega] at this
theorem zua{o i:Nat}{d:Ve}{n:Nat}{ρ:DSt}{Q:R->Prop}(hρ:ρ[o]? = some (some .ob)){v:DV}(hi:ρ[i]? = some (some v))(hv:seeR v=some d)(hl:lenF [d]=some (.o (.int (n:Nat))))(h0:0<n)(h1:n<1073741824)(q:∀ k:Nat,k<n->Q (.o (.int (k:Nat)))) :
 calO o 1 zcw (zcg (zba (fn1 lenF) (zcg (vD i) aNil)) aNil) ρ Q:=by
 refine⟨hρ,_,_,hi,hv,_,hl,rfl,_,rfl,by omega,by omega,λk k0 k1=>?_⟩;have:=q k.toNat (by omega);rwa [show((k.toNat:Nat):Int)=k by omega] at this
theorem zj6{o i:Nat}{ls:List Nat}{ρ:DSt}{Q:R->Prop}(hρ:ρ[o]? = some (some .ob))(hi:ρ[i]? = some (some (.im (.str (tx ls)))))(hn:ls ≠ [])(hl:ls.length<=1000)(q:∀ c ∈ ls,Q (.o (.str (tx [c])))) :
 opDE (fn2 idxF) (vD i) (calO o 1 zcw (zcg (zba (fn1 lenF) (zcg (vD i) aNil)) aNil)) ρ Q:=by
 have h0:0<ls.length:=List.length_pos_iff.mpr hn;refine⟨_,_,hi,rfl,zua hρ hi rfl (zbz (by omega)) h0 (by omega) λk hk=>⟨_,zhj hk (by omega),q _ (Zc hk)⟩⟩
theorem ztr{α β:Type}{enc:α->Ve}{enc2:β->Ve}{good:β->Prop}{i h:Nat}{ft:DT}{fe:DE}{ρ:DSt}{Q:List Ve->Prop}{as:List α}
 (step:∀ a ∈ as,∀ (Pn:Prop) (Py:Ve->Prop),Pn->(∀ b,good b->Py (enc2 b))->ft ((Qh h none++ρ).set i (some (.im (enc a)))) λt=>if t=true then fe ((Qh h none++ρ).set i (some (.im (enc a)))) (λr=>Py r.d) else Pn)
 (hz:as.length<=1000) (q:∀ bs:List β,(∀ b ∈ bs,good b)->bs.length<=as.length->Q (bs.map enc2)):za4 h (gN i) ft fe ρ Q (as.map enc) []:=by
 have sz:=Vj
 have key:∀ (l:List α) (bs:List β),(∀ a ∈ l,a ∈ as)->(∀ b ∈ bs,good b)->bs.length+l.length<=as.length->za4 h (gN i) ft fe ρ Q (l.map enc) (bs.map enc2):=by
  intro l
  induction l with
  | nil=>intro bs _ hb hl;exact q bs hb hl
  | cons a l ih =>
    intro bs hs hb hl;rw[Qf] at hl;refine step a (hs a Qt) _ (λd=>(bs.map enc2).length<sizeLine/\za4 h (gN i) ft fe ρ Q (l.map enc) (bs.map enc2 ++ [d])) (ih bs (λx hx=>hs x (Qb _ hx)) hb (by omega)) λb gb=>⟨by rw[Qe];omega,?_⟩;have:=ih (bs ++ [b]) (λx hx=>hs x (Qb _ hx)) (λx hx=>by rcases Qv.mp hx with hx|hx; (exact hb x hx); (rw[Qg.mp hx];exact gb)) (by rw[Qj];simp;omega);rwa [Qy] at this
 exact key as [] (λ_ h=>h) (by simp) (by simp)
theorem zxt(ws:List Nat)(hl:ws.length<=1000):∃ ys:List Str,PyData.list (ws.map λc => .str (tx [c])) = .list (ys.map .str)/\(ys.map (·.length)).sum+ys.length * (Str.ofString "").length<=16777216/\Txt.join "" ys=tx ws:=by
 refine⟨ws.map sg,by rw[QG];rfl,?_,zn5 ws⟩;have e0:(Str.ofString "").length=0:=by decide +kernel
 rw[zrt,e0];omega
theorem zoj{g k:DS}{Dd:DEnds}{ρ:DSt}(J:DSt->Prop)(hg:∀ N:DSt->Prop,(∀ ρ,J ρ->N ρ)->g { Dd with nx:=N } ρ)(hk:∀ ρ,J ρ->k Dd ρ):seqD g k Dd ρ:=hg (k Dd) hk
theorem ztq{α β:Type}(f:α->β)(xs:List α)(lo hi:Option Int):cutL (xs.map f) lo hi=(cutL xs lo hi).map f:=by
 unfold cutL;rw[Qe,JP,JQ]
def zhb(K:PySem.W.Frag):Sp:=λvs H Q _=>∃ (a:Addr) (ns:List Int),vs = [.ref a]/\SqL K H a (ns.map V.int)/\ns.length<=63/\∀ H',Q (.bl true) H'
section
open PySem PySem.Builtin PySem.Builtin.Str
def sOk(x:PySem.Str):Prop:=∀ c ∈ x.cps.toList,c<0x110000
theorem strOk_iff{x:PySem.Str}:PyData.strOk x=true↔sOk x:=by
 unfold PyData.strOk sOk;rw[YE];simp
theorem zdh{x y:PySem.Str}(hx:sOk x)(hy:sOk y):sOk (x++y):=by
 intro c hc
 have e:(x++y).cps.toList=x.cps.toList++y.cps.toList:=by
  show(x.cps++y.cps).toList=_;simp
 rw[e] at hc;rcases Qv.mp hc with hc|hc
 ·exact hx c hc
 ·exact hy c hc
theorem zol(c:Char):c.toNat<0x110000:=by
 have:=c.valid;rcases this with h|h
 ·exact ZT h (by decide)
 ·exact h.2
theorem zce(s:String):sOk (PySem.Str.ofString s):=by
 intro c hc;have:c ∈ (s.toList.map Yi):=by rw[PySem.Str.ofString_eq_toList] at hc;simpa using hc
 obtain⟨d,_,rfl⟩:=Qp.mp this;exact zol d
theorem zg0{sep:PySem.Str}(hs:sOk sep):∀ {l:List PySem.Str},(∀ x ∈ l,sOk x)->sOk (PySem.Str.join sep l)
 | [],_=>λc hc=>by cases hc
 | [x],h=>h x (by simp)
 | x::y::r,h=>zdh (zdh (h x (by simp)) hs) (zg0 hs (l:=y::r) λz hz=>h z (Qb _ hz))
theorem z2l{q c:Nat}(hc:c<0x110000):∀ x ∈ reprChar q c,x<0x110000:=by
 have hex:∀ w:Nat,∀ x ∈ (Qh (w - ((Yj 16 c).map Yi).length) 48++(Yj 16 c).map Yi),x<0x110000:=by
  intro w x hx;rcases Qv.mp hx with hx|hx
  ·rw[(List.mem_replicate.mp hx).2];decide
  ·obtain⟨d,_,rfl⟩:=Qp.mp hx;exact zol d
 have two:∀ a b:Nat,a<0x110000->b<0x110000->∀ x ∈ [a,b],x<0x110000:=by
  intro a b ha hb x hx;rcases Qs.mp hx with rfl|hx
  ·exact ha
  ·rw[Qg.mp hx];exact hb
 have tw:∀ a b w:Nat,a<0x110000->b<0x110000->∀ x ∈ [a,b]++(Qh (w - ((Yj 16 c).map Yi).length) 48++(Yj 16 c).map Yi),x<0x110000:=by
  intro a b w ha hb x hx;rcases Qv.mp hx with hx|hx
  ·exact two a b ha hb x hx
  ·exact hex w x hx
 intro x;unfold reprChar;dsimp only
 split
 ·exact two _ _ (by decide) hc x
 split
 ·exact two _ _ (by decide) (by decide) x
 split
 ·exact two _ _ (by decide) (by decide) x
 split
 ·exact two _ _ (by decide) (by decide) x
 split
 ·intro hx;rw[Qg.mp hx];exact hc
 split
 ·exact tw _ _ 2 (by decide) (by decide) x
 split
 ·exact tw _ _ 4 (by decide) (by decide) x
 ·exact tw _ _ 8 (by decide) (by decide) x
theorem zuz{x:PySem.Str}(h:sOk x):sOk (reprText x):=by
 have key:∀ (q:Nat) (l:List Nat) (acc:Array Nat),(∀ c ∈ l,c<0x110000)->(∀ c ∈ acc.toList,c<0x110000)->∀ c ∈ (l.foldl (λout c=>out++(reprChar q c).toArray) acc).toList,c<0x110000:=by
  intro q l
  induction l with
  | nil=>intro acc _ ha;exact ha
  | cons c l ih =>
    intro acc hl ha;refine ih _ (λd hd=>hl d (Qb _ hd)) λd hd=>?_;rw[Y3] at hd;rcases Qv.mp hd with hd|hd
    ·exact ha d hd
    ·exact z2l (hl c Qt) d (by simpa using hd)
 have hq:reprQuote x<0x110000:=by unfold reprQuote;split <;> decide
 intro c hc;unfold reprText at hc;rw[ZW,<- Array.foldl_toList] at hc;rcases Qv.mp hc with hc|hc
 ·have h0:∀ d ∈ (#[reprQuote x]:Array Nat).toList,d<0x110000:=λd hd=>by
   have e:d=reprQuote x:=by simpa using hd
   rw[e];exact hq
  exact key _ _ _ h h0 c hc
 ·rw[Qg.mp hc];exact hq
end
open PySem PySem.Spec
open PyProof.Rows hiding St
open L2
mutual
theorem zke:∀ d:Ve,d.canLay0=true->sOk d.shown
 | .none,_=>by rw[PyData.shown_none];exact zce _
 | .bool b,_=>by rw[PyData.shown_bool];cases b <;> exact zce _
 | .int i,_=>by rw[PyData.shown_int];exact zce _
 | .str x,h=>by rw[PyData.shown_str];exact zuz (strOk_iff.mp (by simpa[PyData.canLay0] using h))
 | .list xs,h=>by
   rw[PyData.shown_list];exact zdh (zdh (zce _) (zg0 (zce _) (zdr xs (by simpa[PyData.canLay0] using h)))) (zce _)
 | .tuple xs,h=>by
   rw[PyData.shown_tuple];exact zdh (zdh (zce _) (zg0 (zce _) (zdr xs (by simpa[PyData.canLay0] using h)))) (zce _)
 | .dict _,h=>by simp[PyData.canLay0] at h
theorem zdr:∀ xs:List Ve,PyData.canLayAll0 xs=true->∀ x ∈ PyData.shownAll xs,sOk x
 | [],_,_,hx=>by simp[PyData.shownAll] at hx
 | d::xs,h,x,hx=>by
   rw[PyData.canLayAll0,Q5] at h;rw[PyData.shownAll_cons] at hx;rcases Qs.mp hx with e|hx
   ·rw[e];exact zke d h.1
   ·exact zdr xs h.2 x hx
end
theorem zxn{d:Ve}(h1:d.canLay0=true)(h2:d.showable=true)(h3:d.depth<=60)(h4:d.leavesShort 13=true)(h5:d.bulk<=2 ^ 20):∃ x,zge [d]=some (.o (.str x))/\PyData.strOk x=true:=by
 refine⟨d.shown,?_,strOk_iff.mpr (zke d h1)⟩;unfold zge;dsimp only;rw[GQ];rw[h2,PyData.hasDict_of_canLay d h1,GW h3,GW (PyData.shown_fits_bulk (B:=13) (by decide) (by decide) h4 h5)];rfl
theorem zc4{α:Type}{f:α->Ve}:∀ {l:List α},(∀ a ∈ l,(f a).canLay0=true)->PyData.canLayAll0 (l.map f)=true
 | [],_=>rfl
 | a::l,h=>by rw[Qn,PyData.canLayAll0,h a Qt,zc4 λx hx=>h x (Qb _ hx)];rfl
theorem zgp{α:Type}{f:α->Ve}:∀ {l:List α},(∀ a ∈ l,(f a).showable=true)->PyData.showableAll (l.map f)=true
 | [],_=>by simp[PyData.showableAll]
 | a::l,h=>by rw[Qn,PyData.showableAll,h a Qt,zgp λx hx=>h x (Qb _ hx)];rfl
theorem zdu{α:Type}{f:α->Ve}{n:Nat}:∀ {l:List α},(∀ a ∈ l,(f a).depth<=n)->PyData.depthAll (l.map f)<=n
 | [],_=>by simp[PyData.depthAll]
 | a::l,h=>by
   rw[Qn,PyData.depthAll];exact Nat.max_le.mpr ⟨h a Qt,zdu λx hx=>h x (Qb _ hx)⟩
theorem zfn{α:Type}{f:α->Ve}{B:Nat}:∀ {l:List α},(∀ a ∈ l,(f a).leavesShort B=true)->PyData.leavesShortAll B (l.map f)=true
 | [],_=>by simp[PyData.leavesShortAll]
 | a::l,h=>by rw[Qn,PyData.leavesShortAll,h a Qt,zfn λx hx=>h x (Qb _ hx)];rfl
theorem zgq{α:Type}{f:α->Ve}{n:Nat}:∀ {l:List α},(∀ a ∈ l,(f a).bulk<=n)->PyData.bulkAll (l.map f)<=l.length * (n+1)
 | [],_=>by simp[PyData.bulkAll]
 | a::l,h=>by
   rw[Qn,PyData.bulkAll,Qf,YM];have:=h a Qt;have:=zgq (f:=f) (n:=n) λx hx=>h x (Qb a hx);omega
theorem zsk{x:Str}(h:PyData.strOk x=true){B:Nat}:(PyData.str x).leavesShort B=true:=by
 have h:=strOk_iff.mp h;rw[PyData.leavesShort,ZN];intro c hc;have:=h c hc;exact GW (by omega)
theorem zgw:fillsNumberSlot (.type "tuple") "mul" = pure false :=
 PySem.fillsNumberSlot_seq (id := "tuple.__mul__") (r:=some (.builtin "tuple.__rmul__")) F.slot_tuple_mul.lookup (by decide +kernel) F.slot_tuple_rmul.lookup (by decide +kernel)
theorem zly:seqRepeat? (.type "tuple")=pure (some (.builtin "tuple.__mul__")):=by
 unfold seqRepeat?;rw[PySem.seqSlot_of (T := "tuple") (name := "__mul__") (id := "tuple.__mul__") F.slot_tuple_mul.lookup (by decide +kernel),PySem.seqSlot_of (T := "tuple") (name := "__rmul__") (id := "tuple.__rmul__") F.slot_tuple_rmul.lookup (by decide +kernel)];rfl
theorem zja(a:Int)(t:Tok)(l:Addr)(items:Array Vb)(n:Nat)(dd:Option Addr)(sl:Array (Option Vb)) :
 Meets (Builtin.«int.__rmul__» ⟨[.int a t,.ref l],[]⟩) (λ_ R s=>s.heap.get? l=some { cls := .type "tuple", dict:=dd,data := .seq items n,slots:=sl }/\R (.ok (.ret Value.notImplemented)) s) :=
 .of_wp λprog w A R s h=>by obtain⟨hp,g,d,tk,os⟩:=s;obtain⟨hl,h⟩:=h;wp_walk;exact⟨_,rfl,h⟩
theorem zi7(l:Addr)(items:Array Vb)(n:Nat)(dd:Option Addr)(sl:Array (Option Vb))(x:Int)(u:Tok)(hr:(decide (x < -2 ^ 63) || decide (x ≥ 2 ^ 63))=false)(h1:(items.isEmpty || x == 1)=true) :
 Meets (Builtin.«tuple.__mul__» ⟨[.ref l,.int x u],[]⟩) (λ_ R s=>s.heap.get? l=some { cls := .type "tuple", dict:=dd,data := .seq items n,slots:=sl }/\R (.ok (.ret (.ref l))) s) :=
 .of_wp λprog w A R s h=>by obtain⟨hp,g,d,tk,os⟩:=s;obtain⟨hl,h⟩:=h;wp_walk;refine U5 (GU (by rw[hr];exact Ql)) ?_;wp_walk;exact⟨_,rfl,h⟩
theorem zjb(l:Addr)(items:Array Vb)(n:Nat)(dd:Option Addr)(sl:Array (Option Vb))(x:Int)(u:Tok)(hr:(decide (x < -2 ^ 63) || decide (x ≥ 2 ^ 63))=false)(h1:¬ (items.isEmpty || x == 1)=true)(h2:(decide (x<=0) || items.isEmpty)=true) :
 Meets (Builtin.«tuple.__mul__» ⟨[.ref l,.int x u],[]⟩) (λ_ R s=>s.heap.get? l=some { cls := .type "tuple", dict:=dd,data := .seq items n,slots:=sl }/\R (.ok (.ret (.ref s.heap.objs.size))) { s with heap:=s.heap.push { cls:=Value.type "tuple", data:=Data.seq #[] },toks:=s.toks }) :=
 .of_wp λprog w A R s h=>by obtain⟨hp,g,d,tk,os⟩:=s;obtain⟨hl,h⟩:=h;wp_walk;refine U5 (GU (by rw[hr];exact Ql)) ?_;wp_walk;exact⟨_,rfl,h⟩
theorem zi8(l:Addr)(items:Array Vb)(n:Nat)(dd:Option Addr)(sl:Array (Option Vb))(x:Int)(u:Tok)(hr:(decide (x < -2 ^ 63) || decide (x ≥ 2 ^ 63))=false)(h1:¬ (items.isEmpty || x == 1)=true)(h2:¬ (decide (x<=0) || items.isEmpty)=true)(h3:¬ (items.size:Int) * x > (2 ^ 63 - 1) / 8)(h4:¬ Builtin.Tuple.tupleTooMany ((items.size:Int) * x)=true)(h5:(Jy (λx1 x2=>x1++x2) #[] (Qh x.toNat items)).size<=sizeLine) :
 Meets (Builtin.«tuple.__mul__» ⟨[.ref l,.int x u],[]⟩) (λ_ R s=>s.heap.get? l=some { cls := .type "tuple", dict:=dd,data := .seq items n,slots:=sl }/\R (.ok (.ret (.ref s.heap.objs.size))) { s with heap:=s.heap.push { cls:=Value.type "tuple", data:=Data.seq (Jy (λx1 x2=>x1++x2) #[] (Qh x.toNat items)) },toks:=s.toks }) :=
 .of_wp λprog w A R s h=>by obtain⟨hp,g,d,tk,os⟩:=s;obtain⟨hl,h⟩:=h;wp_walk;refine U5 (GU (by rw[hr];exact Ql)) ?_;wp_walk;refine U5 (GU h3) ?_;wp_walk;exact⟨_,rfl,h⟩
section
variable {X : Cx}
def zwg(K:PySem.W.Frag):R2:=λx y H Q=>∃ a k xs,x = .ref a/\y = .int k/\SqT K H a xs/\-(2 ^ 63)<=k/\k<2 ^ 63/\xs.length * k.toNat<=sizeLine /\
 ((xs = []\/k=1)->Q (.ref a) H)/\(¬ (xs = []\/k=1)->∀ p,H p=none->Q (.ref p) (upd H p (.tup (Qh k.toNat xs).flatten)))
theorem zyl:OpR X (binaryOp .Mult) (zwg X.K):=by
 intro pins s σ H x y v u Q I rx ry h;obtain⟨a,k,xs,rfl,rfl,hS,h1,h2,hz,q1,q2⟩:=h;cases rx;obtain⟨t,rfl⟩:=ry;obtain⟨its,r1,p1,_⟩:=I.tuple hS;obtain⟨⟨cls,dd,data,sl⟩,ho,hc,n,hd⟩:=id p1;simp only at hc hd;subst hc hd;have hlen:=r1.length
 have hr:(decide (k < -2 ^ 63) || decide (k ≥ 2 ^ 63))=false:=by
  rw[GU (by omega),GU (by omega)];rfl
 have nil:its.toArray.isEmpty=true↔xs = []:=by
  rw[<- r1.nil_iff];simp
 have go:∀ {R:Vb->Vc->Prop},wpAny (model X.prog X.w) X.A (call (.builtin "tuple.__mul__") [.ref a,.int k t]) R X.xe s->wpAny (model X.prog X.w) X.A (binaryOp .Mult (.ref a) (.int k t)) R X.xe s:=λ{R} hh =>
  UD (T := "tuple") (U := "int") (by decide) ⟨_,ho,rfl⟩ (λs'=>UX s' k t) zgw F.fills_int_mul F.slot_int_rmul zly F.slot_int_index.lookup
   (VJ F.slot_int_rmul (UX s k t) F.entry_int_rmul (F.args_int_rmul_2 _ _) (zja k t a its.toArray n dd sl) ⟨ho,rfl,⟨_,ho,rfl⟩,hh⟩)
 by_cases hc:xs = []\/k=1
 ·refine go (VJ F.slot_tuple_mul ⟨_,ho,rfl⟩ F.entry_tuple_mul (F.args_tuple_mul_2 _ _) (zi7 a its.toArray n dd sl k t hr ?_) ⟨ho,⟨.ref a,H,I,rfl,q1 hc⟩⟩);rcases hc with e|e
  ·rw[nil.mpr e];rfl
  ·rw[e];simp
 ·have hx:xs ≠ []:=λe=>hc (.inl e);have hk:k ≠ 1:=λe=>hc (.inr e)
  have hne:its.toArray.isEmpty=false:=by
   cases e:its.toArray.isEmpty with
   | false=>rfl
   | true=>exact absurd (nil.mp e) hx
  have hb:¬ (its.toArray.isEmpty || k == 1)=true:=by rw[hne];simp[hk]
  by_cases h0:k<=0
  ·refine go (VJ F.slot_tuple_mul ⟨_,ho,rfl⟩ F.entry_tuple_mul (F.args_tuple_mul_2 _ _) (zjb a its.toArray n dd sl k t hr hb (by rw[GW h0];rfl)) ⟨ho,?_⟩);have e0:k.toNat=0:=by omega
   have q:=q2 hc s.heap.objs.size (I.hok.fresh (Qc _));rw[e0] at q;exact⟨.ref s.heap.objs.size,_,I.laid (t':=s.toks) (o := .tup []) (λb ob q=>Heap.get?_push_of_some _ q) (Qc _) ⟨Qw _,_,.nil,YW _ _⟩,rfl,q⟩
  ·have hsz:(its.toArray.size:Int) * k=((xs.length * k.toNat:Nat):Int):=by
    rw[Qo,<- hlen];rw[jm]
    congr 1
    omega
   have hnew:Jy (λx1 x2=>x1++x2) #[] (Qh k.toNat its.toArray)=(Qh k.toNat its).flatten.toArray:=by
    have:=zfu its k.toNat [];rw[ZJ] at this;exact this
   have sz:=Vj;refine go (VJ F.slot_tuple_mul ⟨_,ho,rfl⟩ F.entry_tuple_mul (F.args_tuple_mul_2 _ _) (zi8 a its.toArray n dd sl k t hr hb (by rw[hne,GU h0];exact Ql) (by rw[hsz];omega) (by rw[hsz];unfold Builtin.Tuple.tupleTooMany;rw[GU (by omega)];exact Ql) (by rw[hnew,Qo,zf4,<- hlen,Yg];exact hz)) ⟨ho,?_⟩);rw[hnew];exact⟨.ref s.heap.objs.size,_,I.laid (t':=s.toks) (o := .tup (Qh k.toNat xs).flatten) (λb ob q=>Heap.get?_push_of_some _ q) (Qc _) ⟨by rw[zf4,Yg];exact hz,_,r1.rep k.toNat,YW _ _⟩,rfl,q2 hc _ (I.hok.fresh (Qc _))⟩
def zv0:R2:=λx y H Q=>∃ i k,x = .str i/\y = .int k/\-(2 ^ 63)<=k/\k<2 ^ 63/\i.length * k.toNat<=sizeLine/\Q (.str (tx (Qh k.toNat i.cps.toList).flatten)) H
theorem zg8(w:List Nat):∀ (k:Nat) (acc:List Nat),Jy (λx1 x2=>x1++x2) acc.toArray (Qh k w.toArray)=(acc++(Qh k w).flatten).toArray
 | 0,acc=>by simp
 | k+1,acc=>by
   rw[Zf,Z1,List.append_toArray,zg8 w k (acc++w),Zf,Zt,Q3]
theorem op_repS:OpR X (binaryOp .Mult) zv0:=by
 intro pins s σ H x y v u Q I rx ry h;obtain⟨i,k,rfl,rfl,h1,h2,hz,q⟩:=h;obtain⟨t,rfl⟩:=rx;obtain⟨t2,rfl⟩:=ry;have sz:=Vj
 have hr:(decide (k < -(2 ^ 63:Int)) || decide (k ≥ 2 ^ 63))=false:=by
  rw[GU (by omega),GU (by omega)];rfl
 have hlen:i.length=i.cps.toList.length:=by simp[Str.length]
 have hnew:(⟨(Qh k.toNat i.cps).foldl (· ++ ·) #[]⟩:Str)=tx (Qh k.toNat i.cps.toList).flatten:=by
  have:=zg8 i.cps.toList k.toNat [];rw[ZJ] at this;show Str.mk _=Str.mk _;rw[<- this]
 refine PySem.P.mul_str hr (λn1 nn=>?_) (λn1 nn=>?_) ?_
 ·have hk:0<k.toNat:=by omega
  have h3:i.length<=sizeLine:=QH (Nat.le_mul_of_pos_right _ hk) hz;intro hh
  have h4:(i.length:Int) * k<=16777216:=by
   have:((i.length * k.toNat:Nat):Int)<=16777216:=by omega
   rwa [jm,show((k.toNat:Nat):Int)=k by omega] at this
  have h5:=YF (Int.lt_mul_of_ediv_lt (by omega:(0:Int)<k) hh) h4;omega
 ·unfold Builtin.Str.tooLong;exact GU (by omega)
 ·by_cases c1:k<1
  ·rw[GQ c1];have e0:k.toNat=0:=by omega
   rw[e0] at q;exact⟨by decide,.str _,H,I.tok _,⟨_,rfl⟩,q⟩
  ·rw[GT c1]
   by_cases c2:(k == 1 || i.length == 0)=true
   ·rw[GQ c2]
    have e1:tx (Qh k.toNat i.cps.toList).flatten=i:=by
     rcases(jn _ _).mp c2 with e|e
     ·have:k=1:=by simpa using e
      subst this;show tx ([i.cps.toList]:List (List Nat)).flatten=i;simp[tx]
     ·have e:i.length=0:=by simpa using e
      have e2:i.cps.toList = []:=QM (by omega);rw[e2];have:(Qh k.toNat ([]:List Nat)).flatten = []:=by simp
      rw[this];have e3:i.cps = #[]:=ZP.mp e2;cases i
      simp_all [tx]
    rw[e1] at q;exact⟨.str i,H,I,⟨_,rfl⟩,q⟩
   ·rw[GT c2];refine⟨?_,.str _,H,I.tok _,⟨_,rfl⟩,?_⟩
    ·show Str.length _<=sizeLine;rw[hnew,zb5,zf4,Yg,<- hlen];exact hz
    ·show Q (.str _) H;rw[hnew];exact q
end
def zvs(K:PySem.W.Frag):R2:=λx y H Q=>rI CMul (λi j => .int (i * j)) x y H Q\/zv0 x y H Q\/rRep x y H Q\/zwg K x y H Q
theorem zza{X:Cx}:OpR X (binaryOp .Mult) (zvs X.K):=op_mul.or (op_repS.or (op_rep.or zyl))
def mulD:Ve->Ve->(R->Prop)->Prop:=λd e Q=>∃ k:Int,e = .int k/\-(2 ^ 63)<=k/\k<2 ^ 63/\match d with
 | .int i=>CMul i k/\Q (.o (.int (i * k)))
 | .str x=>x.length * k.toNat<=sizeLine/\Q (.o (.str (tx (Qh k.toNat x.cps.toList).flatten)))
 | .list ds=>ds.length * k.toNat<=sizeLine/\Q (.n (Qh k.toNat ds).flatten)
 | .tuple ds=>ds.length * k.toNat<=sizeLine/\Q (.o (.tuple (Qh k.toNat ds).flatten))
 | _=>False
section
variable {K : PySem.W.Frag} {O : Ob} {F : Addr → Prop} {H : Hp}
theorem zfq{xs:List V}{ds:List Ve}(h:IsAll K F H xs ds):∀ k:Nat,IsAll K F H (Qh k xs).flatten (Qh k ds).flatten
 | 0 => .nil
 | k+1=>by
   rw[Zf,Zf,Zt,Zt];exact h.append (zfq h k)
theorem zva:OpD K O (zvs K) mulD:=λH x y d e Q Qd ok p ix iy ⟨k,he,h1,h2,q⟩ kk=>by
 subst he;cases iy
 cases ix with
 | int i=>exact .inl ⟨_,_,rfl,rfl,q.1,kk _ H (.o _) (.refl _ _) (Is.int _) q.2⟩
 | str x=>exact .inr (.inl ⟨_,_,rfl,rfl,h1,h2,q.1,kk _ H (.o _) (.refl _ _) (Is.str _) q.2⟩)
 | list f1 h3 s1 =>
   refine .inr (.inr (.inl ⟨_,_,_,rfl,rfl,h3,h1,h2,by rw[s1.length];exact q.1,λp' hp=>?_⟩));obtain⟨a1,a2⟩:=zbx ok hp (zfq s1 k.toNat);exact kk _ _ _ a1 a2 q.2
 | tuple h3 s1 =>
   refine .inr (.inr (.inr ⟨_,_,_,rfl,rfl,h3,h1,h2,by rw[s1.length];exact q.1,λhc=>?_,λhc p' hp=>?_⟩))
   ·rcases hc with e|e
    ·subst e;cases s1;have e2:(Qh k.toNat ([]:List Ve)).flatten = []:=by simp
     have q2:=q.2;rw[e2] at q2;exact kk _ H (.o _) (.refl _ _) (Is.tuple h3 .nil) q2
    ·subst e;have q2:=q.2;have e2:∀ ds:List Ve,(Qh (1:Int).toNat ds).flatten=ds:=λds=>by simp
     rw[e2] at q2;exact kk _ H (.o _) (.refl _ _) (Is.tuple h3 s1) q2
   ·obtain⟨a1,a2⟩:=zix ok hp (zfq s1 k.toNat);exact kk _ _ _ a1 a2 q.2
 | _=>exact q.elim
end
theorem z0p{ι κ:Type}{P:Vf}{w:Vk}{K:PySem.W.Frag}{mg:Str->Option Vb}{base:Heap}{k:Nat}{X:ι->Cx}{O:κ->Ob}{a b:Expr}{fa fb:DE}{pos:Pos}(C:Ctx3 P w K mg base k X)(ha:E3 K X O a fa)(hb:E3 K X O b fb):E3 K X O (.BinOp a .Mult b pos) (opDE mulD fa fb):=e_op (λi=>by have h:=zza (X:=X i);rw[C.hK] at h;exact h) (λ_=>zva) ha hb
theorem zl3{α:Type}{enc:α->Ve}{g:DG}{fe:DE}{ρ:DSt}{Q:List Ve->Prop}{as:List α}{e:α->Ve}{h:Nat}(step:∀ a ∈ as,∀ P:R->Prop,(∀ r,r.d=e a->P r)->g (enc a) (Qh h none++ρ) λρ2=>if true=true then fe ρ2 P else False)(mg:∀ d ρ (P P':DSt->Prop),(∀ ρ,P ρ->P' ρ)->g d ρ P->g d ρ P')(hz:as.length<=sizeLine)(q:Q (as.map e)) :
 za4 h g yesD fe ρ Q (as.map enc) []:=by
 have key:∀ (l:List α) (acc:List Ve),(∀ a ∈ l,a ∈ as)->acc.length+l.length<=sizeLine->Q (acc++l.map e)->za4 h g yesD fe ρ Q (l.map enc) acc:=by
  intro l
  induction l with
  | nil=>intro acc _ _ q;show Q acc;simpa using q
  | cons a l ih =>
    intro acc hs hz q;rw[Qf] at hz;refine mg _ _ _ _ (λρ2 z=>?_) (step a (hs a Qt) (λr=>acc.length<sizeLine/\za4 h g yesD fe ρ Q (l.map enc) (acc ++ [r.d])) λr hr=>⟨by omega,?_⟩)
    ·rw[GQ rfl] at z;exact iteT (B:=za4 h g yesD fe ρ Q (l.map enc) acc) z
    ·rw[hr];exact ih (acc ++ [e a]) (λx hx=>hs x (Qb _ hx)) (by rw[Qj];simp;omega) (by simpa using q)
 exact key as [] (λ_ h=>h) (by simpa using hz) (by simpa using q)
theorem znc{is:List Nat}:∀ d ρ (P P':DSt->Prop),(∀ ρ,P ρ->P' ρ)->gT is d ρ P->gT is d ρ P':=by
 have key:∀ (is:List Nat) (ds:List Ve) ρ (P P':DSt->Prop),(∀ ρ,P ρ->P' ρ)->gTD is ds ρ P->gTD is ds ρ P':=by
  intro is
  induction is with
  | nil=>intro ds ρ P P' h z;cases ds with
    | nil=>exact h _ z
    | cons _ _=>exact z.elim
  | cons i is ih=>intro ds ρ P P' h z;cases ds with
    | nil=>exact z.elim
    | cons d ds=>exact ih ds _ P P' h z
 exact λd ρ P P' h ⟨ds,e,z⟩=>⟨ds,e,key _ _ _ _ _ h z⟩
theorem zho:∀ (l:List (List Nat)) (acc:Array Nat),(l.map tx).foldl (λacc p=>acc++(Str.ofString "").cps++p.cps) acc=acc++l.flatten.toArray
 | [],acc=>by simp
 | c::r,acc=>by
   rw[Qn,Z1,zho r];have e:(Str.ofString "").cps = #[]:=by decide +kernel
   rw[e];apply ZP.mp;simp[tx]
theorem zyh(w:List (List Nat)):Txt.join "" (w.map tx)=tx w.flatten:=by
 cases w with
 | nil=>decide +kernel
 | cons c r =>
   show Builtin.Str.glued (Str.ofString "") (tx c::r.map tx)=tx (c::r).flatten;unfold Builtin.Str.glued;show(⟨(r.map tx).foldl _ (tx c).cps⟩:Str)=_;rw[zho];unfold tx
   congr 1
   apply ZP.mp;simp
section
variable {ι κ : Type} {P : Vf} {w : Vk} {K : PySem.W.Frag} {mg : Str → Option Vb} {base : Heap} {k : Nat} {X : ι → Cx} {O : κ → Ob} {a b : Expr} {fa : DE} {pos p : Pos} {ga : DA}
theorem zyf{X:Cx}:MtR X "list.pop" rPop:=λpins s σ H x xs v us Q I rx rv h=>z1b pins s σ H x xs v us Q I rx rv h
end
section
variable {ι κ : Type} {P : Vf} {w : Vk} {K : PySem.W.Frag} {mg : Str → Option Vb} {base : Heap} {k : Nat} {X : ι → Cx} {O : κ → Ob} {a b : Expr} {fa fb : DE} {pos p : Pos} {ga : DA}
theorem z0t:Vv "max" = some (.builtin "max"):=by decide +kernel
theorem zpz{X:Cx}:MtR X "list.extend" zem:=λpins s σ H x xs v us Q I rx rv h=>zsf pins s σ H x xs v us Q I rx rv h
end
namespace RV
theorem zjx:Uj (.type "list_reverseiterator") "__len__" = pure none:=by rw[Vw,Vo];kernel_rfl
theorem zeo:Uj (.type "list_reverseiterator") "__length_hint__" = pure (some (.builtin "list_reverseiterator.__length_hint__")):=by rw[Vw,Vo];kernel_rfl
theorem zfi:Gw (.type "list_reverseiterator") (.type "list_reverseiterator")=pure true:=by rw[Vy];kernel_rfl
theorem zqe:splitId "list_reverseiterator.__length_hint__" = some ("list_reverseiterator", "__length_hint__"):=by decide +kernel
theorem zym{prog:Vf}{w:Vk}{A:Vl}{E:Vb->Vc->Prop}{s:Vc}{it:Addr}{Q:Bool->Vc->Prop}(t:s.TypeIs (.ref it) "list_reverseiterator")(q:Q false s):wpAny (model prog w) A (Builtin.List.listLengthHint (.ref it)) Q E s:=by
 have sp:=zqe;unfold Builtin.List.listLengthHint;refine Va (VL t zjx (Va (VL t zeo ?_)));revert sp;generalize z:("list_reverseiterator.__length_hint__" : String)=nm;intro sp;dsimp only;rw[sp];subst z;exact Va (VN (b:=true) t zfi (Vd q))
theorem list_of_rev{prog:Vf}{w:Vk}{A:Vl}{E:Vb->Vc->Prop}{s:Vc}{it l:Addr}{items:Array Vb}{Q:Vb->Vc->Prop}(hh:A.handled=none)(hr:s.heap.IsRevIter it l ((items.size:Int) - 1))(hl:s.heap.IsList l items)(hne:l ≠ it)(hz:items.size<=sizeLine)
 (q:∀ h' t' vs c,(∀ b o,b ≠ it->s.heap.get? b=some o->h'.get? b=some o)->h'.get? s.heap.objs.size=some { cls := .type "list", dict:=none,data := .seq vs c,slots:=#[] }->ItemsOf (λi v=>items[items.size - 1 - i]? = some v) vs items.size->Q (.ref s.heap.objs.size) { s with heap:=h',toks:=t' }) :
 wpAny (model prog w) A (call (.type "list") [.ref it]) Q E s:=by
 have W:=(Walks.listRev (prog:=prog) (w:=w) (A:=A.in1.in1) hh it l hne items).toS
 have new:∀ b o,s.heap.get? b=some o->b ≠ s.heap.objs.size:=λb o e z=>by
  subst z;rw[Heap.get?] at e;simp at e
 refine Gk (Q₁:=λv s1=>v = .ref s.heap.objs.size/\s1 = { s with heap:=s.heap.push { cls := .type "list", data := .seq #[] } }) F.called_list (F.typeCall_list_1 _) F.entry_list_init (code_list_new _ ⟨rfl,rfl⟩) ?_;rintro _ _ ⟨rfl,rfl⟩;refine⟨⟨_,Heap.get?_push_size _ rfl,rfl⟩,F.args_list_init_2 _ _,?_⟩;obtain⟨o,ho,hc,hd⟩:=id hr;have nI:s.heap.objs.size ≠ it:=λz=>new it _ ho z.symm;have same:Builtin.List.listSameRef (.ref s.heap.objs.size) (.ref it)=false:=by simp[Builtin.List.listSameRef,nI]
 have t1:Value.type "list_reverseiterator" ≠ Value.type "list" := by decide
 have eS:(s.heap.push { cls := .type "list", data := .seq #[] }).get? s.heap.objs.size=some { cls := .type "list", data := .seq #[] }:=Heap.get?_push_size _ rfl;have eI:=Heap.get?_push_of_some { cls := .type "list", data := .seq (#[]:Array Vb) } ho;have a1:=zjx;have a2:=zeo;have a3:=zfi;obtain⟨hp,g,dr,tk,os⟩:=s
 have eI2:(((hp.push { cls := .type "list", data := .seq #[] }).update hp.objs.size (Obj.mapSeq λ_=>(#[]:Array Vb))).get? it)=some o:=by
  rw[Heap.get?_update_other _ _ nI];exact eI
 have eS2:=Heap.get?_update_self (Obj.mapSeq (λ_=>(#[]:Array Vb))) eS rfl;have hr2:((hp.push { cls := .type "list", data := .seq #[] }).update hp.objs.size (Obj.mapSeq λ_=>(#[]:Array Vb))).IsRevIter it l ((items.size:Int) - 1):=⟨o,eI2,hc,hd⟩;have hT:Shared.TypeIs ⟨((hp.push { cls := .type "list", data := .seq #[] }).update hp.objs.size (Obj.mapSeq λ_=>(#[]:Array Vb))),g,dr,tk,os⟩ (.ref it) "list_reverseiterator" := ⟨o,eI2,hc⟩;unfold Builtin.«list.__init__»
 wp_walk using wpAny_pyIter_revIter hr2,V9 hT,zym hT
 have hl2:((hp.push { cls := .type "list", data := .seq #[] }).update hp.objs.size (Obj.mapSeq λ_=>(#[]:Array Vb))).IsList l items:=by
  obtain⟨ol,h1,h2⟩:=hl;refine⟨ol,?_,h2⟩;rw[Heap.get?_update_other _ _ (λz=>new l _ h1 z.symm)];exact Heap.get?_push_of_some _ h1
 have hS:hp.objs.size ∉ [it,l]:=λz=>by
  obtain⟨ol,h1,_⟩:=hl;rcases Qs.mp z with z|z
  ·exact nI z
  ·exact new l _ h1 (Qg.mp z).symm
 refine⟨V6 F.plain_extend_loop _,VR W hz _ hS _ items.size 0 _ _ _ rfl (Qw _) ⟨Qw _,by simpa using hr2,hl2⟩ eS2 (ItemsOf.nil _) λs' vs c m e is=>⟨rfl,?_⟩⟩;obtain⟨hp',g',dr',tk',os'⟩:=s';obtain⟨m1,m2,m3,m4,m5⟩:=m;have m2:g'=g:=m2;have m3:dr'=dr:=m3;have m4:os'=os:=m4;subst m2 m3 m4;refine q hp' tk' vs c (λb ob hb eb=>m1 b ob (λz=>?_) ?_) e is
 ·rcases Qs.mp z with z|z
  ·exact new b _ eb z
  ·exact hb (Qg.mp z)
 ·show((hp.push _).update _ _).get? b=_;rw[Heap.get?_update_other _ _ (λz=>new b _ eb z.symm)];exact Heap.get?_push_of_some _ eb
theorem items_rev{its:List Vb}{vs:Array Vb}(h:ItemsOf (λi v=>its.toArray[its.toArray.size - 1 - i]? = some v) vs its.toArray.size):vs=its.reverse.toArray:=by
 obtain⟨h1,h2⟩:=h;apply Array.ext';apply ZB;intro i
 by_cases hi:i<vs.size
 ·have e:vs.toList[i]? = some vs[i]:=by simp[hi]
  have e2:=h2 i vs[i] (by simp[hi]);rw[e,<- e2];simp at h1 e2 ⊢;rw[Yq (by omega)]
 ·rw[Qu (by simpa using hi)];symm;apply Qu;simp at h1 ⊢;omega
end RV
def tLR(K:PySem.W.Frag)(te:TE):TE:=λσ H Q=>te σ H λv H1=>∃ a xs,v = .ref a/\SqL K H1 a xs/\∀ p,H1 p=none->Q (.ref p) (upd H1 p (.lst xs.reverse))
theorem zpg{X:Cx}{e:Expr}{te:TE}{p1 p2 p3 p4:Pos}(calm:X.A.handled=none)(gl:Gl X "list")(ml:X.mg "list" = none)(gr:Gl X "reversed")(mr:X.mg "reversed" = none)(he:PE X e te)
 (s1:Vg [.Call (.Name "reversed" p2) [e] [] p3] X.env=(false,eval (.Call (.Name "reversed" p2) [e] [] p3) X.env)::Vg [] X.env:=by rfl) (s2:Vg [e] X.env=(false,eval e X.env)::Vg [] X.env:=by rfl) :
 PE X (.Call (.Name "list" p1) [.Call (.Name "reversed" p2) [e] [] p3] [] p4) (tLR X.K te):=by
 intro pins s σ H Q I h;refine Vz (zb6 I gl ml (u := .type "list") rfl ?_);refine QT ?_ s1;rw[s1];show wpAny _ _ (UF ((false,eval (.Call (.Name "reversed" p2) [e] [] p3) X.env) :: [])) _ _ s;refine Calls.spliced_cons ?_;refine Vz (zb6 I gr mr (u := .type "reversed") rfl ?_);refine QT ?_ s2;rw[s2];show wpAny _ _ (UF ((false,eval e X.env) :: [])) _ _ s;refine Calls.spliced_cons (thn (he pins s σ H _ I h) λu s' ⟨y,H1,I1,r1,a,xs,ey,hq,q⟩=>?_);subst ey;cases r1;refine Calls.spliced_nil ?_;obtain⟨its,rv,pl,hz⟩:=I1.list hq;have hlen:=rv.length;have isl:=pl.isList;refine call_reversed_list isl ?_;refine Calls.spliced_nil ?_
 have new:a ≠ s'.heap.objs.size:=λz=>by
  obtain⟨o,ho,_⟩:=isl;exact QQ _ (z ▸ Heap.lt_size ho)
 have isl2:(s'.heap.push (revObj a ((its.toArray.size:Int) - 1))).IsList a its.toArray:=isl.push _;refine RV.list_of_rev (s:={ s' with heap:=s'.heap.push (revObj a ((its.toArray.size:Int) - 1)) }) calm ⟨_,Heap.get?_push_size _ rfl,rfl,rfl⟩ isl2 new (by simp;omega) λh' t' vs c kp e is=>?_;have ez:(s'.heap.push (revObj a ((its.toArray.size:Int) - 1))).objs.size=s'.heap.objs.size+1:=Heap.size_push ..;have ev:=RV.items_rev is;subst ev;have kp2:∀ b o,s'.heap.get? b=some o->h'.get? b=some o:=λb o eb=>kp b o (λz=>QQ _ (z ▸ Heap.lt_size eb)) (Heap.get?_push_of_some _ eb);have fr:H1 (s'.heap.objs.size+1)=none:=I1.hok.fresh (Z8 _);dsimp only at e ⊢;rw[ez] at e ⊢;exact⟨.ref (s'.heap.objs.size+1),_,I1.laid (t':=t') kp2 (Z8 _) (show ObjOk X.prog X.w _ h' _ (.lst xs.reverse) from⟨by rw[Jh];exact hz,its.reverse,c,rv.reverse,e⟩),rfl,q _ fr⟩
end L3
namespace L3
open PySem PySem.Spec
open PyProof.Rows hiding St
open L2
abbrev zb7:Key := .inr "seed"
abbrev kNum:Key := .inr "number"
abbrev zdd:Key := .inr "left"
def zaz(seed num:Int)(l:Addr):List (Key × V) := [(zb7,.int seed),(kNum,.int num),(zdd,.ref l)]
def zhx(seed num:Int)(l:Addr):HO := .dK (zaz seed num l)
theorem ztf(s n:Int)(l:Addr):valV (zaz s n l) zb7=some (.int s):=by simp[valV,zaz,Z2]
theorem zxz(s n:Int)(l:Addr):valV (zaz s n l) kNum=some (.int n):=by
 have h1:¬ (zb7=kNum):=by decide +kernel
 simp[valV,zaz,Z2,h1]
theorem zui(s n:Int)(l:Addr):valV (zaz s n l) zdd=some (.ref l):=by
 have h1:¬ (zb7=zdd):=by decide +kernel
 have h2:¬ (kNum=zdd):=by decide +kernel
 simp[valV,zaz,Z2,h1,h2]
theorem zvh(s n s':Int)(l:Addr):putK (zaz s n l) zb7 (.int s')=zaz s' n l:=by
 have h1:¬ (kNum=zb7):=by decide +kernel
 have h2:¬ (zdd=zb7):=by decide +kernel
 simp[putK,zaz,h1,h2]
theorem zyx(s n n':Int)(l:Addr):putK (zaz s n l) kNum (.int n')=zaz s n' l:=by
 have h1:¬ (zb7=kNum):=by decide +kernel
 have h2:¬ (zdd=kNum):=by decide +kernel
 simp[putK,zaz,h1,h2]
structure DealAt (H:Hp) (a l:Addr) (seed num:Int) (ns:List Int):Prop where
 ne:a ≠ l
 ha:H a=some (zhx seed num l)
 hl:H l=some (.lst (ns.map V.int))
 s0:0<=seed
 s1:seed<4294967296
 n0:0<=num
 ns0:∀ n ∈ ns,0<=n
structure IsDeal (O:Ob):Prop where
 ex:∃ a l,O.v = .ref a/\O.M a/\O.M l/\(∀ H,O.P H->∃ s n ns,DealAt H a l s n ns)/\∀ H H' s n ns,O.P H->DealAt H' a l s n ns->(∀ b,O.M b->b ≠ a->b ≠ l->H' b=H b)->O.P H'
theorem IsDeal.plus{O:Ob}(h:IsDeal O)(D:Addr)(u:HO)(nm:¬ O.M D):IsDeal (O.plus D u):=by
 obtain⟨a,l,hv,ma,ml,h1,h2⟩:=h.ex;have da:D ≠ a:=λe=>nm (e ▸ ma);have dl:D ≠ l:=λe=>nm (e ▸ ml);refine⟨a,l,hv,.inl ma,.inl ml,λH p=>h1 H p.1,λH H' s n ns p q k=>⟨h2 H H' s n ns p.1 q λb mb=>k b (.inl mb),?_⟩⟩;rw[k D (.inr rfl) da dl];exact p.2
theorem upD{κ:Type}{O:κ->Ob}(h:∀ j,IsDeal (O j)):∀ j,IsDeal (zhr O j):=λj=>(h j.1.1).plus _ _ j.2
def zhd(a l:Addr):Ob:=⟨λb=>b=a\/b=l,λH=>∃ s n ns,DealAt H a l s n ns,.ref a⟩
theorem zqs(a l:Addr):(zhd a l).Ok:=by
 refine⟨λH H' e ⟨s,n,ns,p⟩=>⟨s,n,ns,p.ne,(e a (.inl rfl)).trans p.ha,(e l (.inr rfl)).trans p.hl,p.s0,p.s1,p.n0,p.ns0⟩,λH b o ⟨s,n,ns,p⟩ eb m=>?_,λH b ⟨s,n,ns,p⟩ m=>?_⟩
 ·rcases m with rfl|rfl
  ·rw[p.ha] at eb;cases eb;exact⟨λ_ z=>(by cases z),λ_ _ z=>(by cases z)⟩
  ·rw[p.hl] at eb;cases eb;exact⟨λ_ z=>(by cases z),λ_ _ z=>(by cases z)⟩
 ·rcases m with rfl|rfl
  ·exact⟨_,p.ha⟩
  ·exact⟨_,p.hl⟩
theorem zqo(a l:Addr):IsDeal (zhd a l):=⟨a,l,rfl,.inl rfl,.inr rfl,λ_ p=>p,λ_ _ s n ns _ q _=>⟨s,n,ns,q⟩⟩
abbrev dAt(k:Str):TE:=zkz (tVar 0) (tC (.str k))
def z1s(K:PySem.W.Frag):TS :=
 zqm (tAnd (zet (tOp rEq (dAt "number") (tC (.int 0)))) (zet (tOp (rI0 λi j => .bl (decide (j<i))) (tCB (lenR K) (zaj (dAt "left") tNil)) (tC (.int 0)))))
  (zf8 (tVar 0) (tC (.str "number")) (tBM0 K "list" rPop (dAt "left")))
theorem zss{H:Hp}{a l:Addr}{s n:Int}{ns:List Int}{σ:St}{Q:VK}(p:DealAt H a l s n ns)(hσ:σ[0]? = some (some (.ref a)))(q:Q (.int n) H):dAt "number" σ H Q :=
 ⟨_,hσ,a,_,rfl,.inl ⟨_,kNum,.inl p.ha,rfl,(zxz s n l).symm⟩,q⟩
theorem ziy{H:Hp}{a l:Addr}{s n:Int}{ns:List Int}{σ:St}{Q:VK}(p:DealAt H a l s n ns)(hσ:σ[0]? = some (some (.ref a)))(q:Q (.int s) H):dAt "seed" σ H Q :=
 ⟨_,hσ,a,_,rfl,.inl ⟨_,zb7,.inl p.ha,rfl,(ztf s n l).symm⟩,q⟩
theorem zn4{H:Hp}{a l:Addr}{s n:Int}{ns:List Int}{σ:St}{Q:VK}(p:DealAt H a l s n ns)(hσ:σ[0]? = some (some (.ref a)))(q:Q (.ref l) H):dAt "left" σ H Q :=
 ⟨_,hσ,a,_,rfl,.inl ⟨_,zdd,.inl p.ha,rfl,(zui s n l).symm⟩,q⟩
theorem zrm(s n:Int)(l:Addr):(zaz s n l).length<sizeLine:=by rw[Vj];show 3<16777216;decide
theorem DealAt.setN{H:Hp}{a l:Addr}{s n:Int}{ns:List Int}(p:DealAt H a l s n ns){n':Int}(h:0<=n'):DealAt (upd H a (zhx s n' l)) a l s n' ns :=
 ⟨p.ne,zad,by rw[zaa (Zj p.ne)];exact p.hl,p.s0,p.s1,h,p.ns0⟩
theorem DealAt.setS{H:Hp}{a l:Addr}{s n:Int}{ns:List Int}(p:DealAt H a l s n ns){s':Int}(h:0<=s')(h2:s'<4294967296):DealAt (upd H a (zhx s' n l)) a l s' n ns :=
 ⟨p.ne,zad,by rw[zaa (Zj p.ne)];exact p.hl,h,h2,p.n0,p.ns0⟩
theorem zvp{H:Hp}{a l:Addr}{s n:Int}{ns:List Int}(p:DealAt H a l s n ns)(n':Int):DPut H a (.str "number") (.int n') (upd H a (zhx s n' l)) :=
 .inl ⟨_,kNum,p.ha,rfl,zrm s n l,by rw[zyx];rfl⟩
theorem z2f{H:Hp}{a l:Addr}{s n:Int}{ns:List Int}(p:DealAt H a l s n ns)(s':Int):DPut H a (.str "seed") (.int s') (upd H a (zhx s' n l)) :=
 .inl ⟨_,zb7,p.ha,rfl,zrm s n l,by rw[zvh];rfl⟩
theorem zt4{O:Ob}{H H':Hp}{a l:Addr}{s n s' n':Int}{ns ns':List Int}(ma:O.M a)(ml:O.M l)(h2:∀ H H' s n ns,O.P H->DealAt H' a l s n ns->(∀ b,O.M b->b ≠ a->b ≠ l->H' b=H b)->O.P H')(p:DealAt H a l s n ns)(p':DealAt H' a l s' n' ns')(st:PotStp a l H H'):Stp O H H':=by
 refine⟨λb o e nm=>?_,λpp=>h2 H H' _ _ _ pp p' λb _ h3 h4=>st.oth b h3 h4,λb u hu e=>?_⟩
 ·rw[st.oth b (λz=>nm (z ▸ ma)) λz=>nm (z ▸ ml)];exact e
 ·rw[st.oth b (λz=>?_) λz=>?_]
  ·exact e
  ·rw[z,p.ha] at e;cases e;obtain⟨xs,e1|⟨o,e1⟩⟩:=hu <;> cases e1
  ·rw[z,p.hl] at e;cases e;obtain⟨xs,e1|⟨o,e1⟩⟩:=hu <;> cases e1
theorem upd2(H:Hp)(a:Addr)(x y:HO):upd (upd H a x) a y=upd H a y:=by
 funext b
 by_cases e:b=a
 ·subst e;rw[zad,zad]
 ·rw[zaa e,zaa e,zaa e]
theorem zhp{K:PySem.W.Frag}{c:Addr}{ns:List Int}{σ:St}{H:Hp}{tf:TT}{te:TE}{G:Addr->Hp->Prop}(p:Int->Bool)(f:Int->Int)(hS:SqL K H c (ns.map V.int))(hz:ns.length<=63)
 (ht:∀ n H' R,R (p n) H'->tf (some (.int n)::σ) H' R) (he:∀ n H' R,R (V.int (f n)) H'->te (some (.int n)::σ) H' R)
 (q:∀ D,H D=none->G D (upd H D (.lst (((ns.filter p).map f).map V.int)))) :
 ∀ D,H D=none->∃ W:Nat->Nat->List V->Hp->Prop,(∃ m,W 0 m [] (upd H D (.lst [])))/\∀ i m ys H',W i m ys H'->H' D=some (.lst ys)/\(((Itl K c).stop i H'/\G D H')\/((Itl K c).go i H'/\∀ x H'',(Itl K c).yld i H' x H''->zao 0 x (Qh 1 none++σ) H'' λσ2 H2=>tf σ2 H2 λb H3 =>
   if b=true then te σ2 H3 λy H4=>H4 D=some (.lst ys)/\ys.length<sizeLine/\∃ m',m'<m/\W (i+1) m' (ys ++ [y]) (upd H4 D (.lst (ys ++ [y]))) else ∃ m',m'<m/\W (i+1) m' ys H3)):=by
 intro D hD;have sz:=Vj;refine⟨λi m ys H'=>m=ns.length - i/\i<=ns.length/\ys=(((ns.take i).filter p).map f).map V.int/\H'=upd H D (.lst ys),⟨_,rfl,Qw _,rfl,rfl⟩,?_⟩;rintro i m ys H' ⟨rfl,hi,rfl,rfl⟩;refine⟨zad,?_⟩;have hS':=(L3.same_new hD (.lst ((((ns.take i).filter p).map f).map V.int))).seq hS
 by_cases lt:i<ns.length
 ·right;refine⟨⟨_,.int ns[i],hS',by rw[Qk,Qa lt];rfl⟩,λx H'' ⟨e,y⟩=>?_⟩;subst e;have ex:=y _ hS';rw[Qk,Qa lt] at ex;cases ex;show tf (some (.int ns[i])::σ) _ _
  have et:(ns.take (i+1)).filter p=(ns.take i).filter p++(if p ns[i]=true then[ns[i]] else[]):=by
   rw[Jq lt,JE,Jz];rfl
  refine ht _ _ _ ?_
  by_cases cc:p ns[i]=true
  ·rw[GQ cc] at et ⊢;have hlen:((ns.take i).filter p).length<=ns.length:=QH (Jv _ _) (by rw[QJ];omega);refine he _ _ _ ⟨zad,by rw[Qe,Qe];omega,ns.length - (i+1),by omega,rfl,lt,?_,upd2 _ _ _ _⟩;rw[et,Qy,Qy];rfl
  ·rw[GT cc] at et ⊢;rw[QD] at et;exact⟨ns.length - (i+1),by omega,rfl,lt,by rw[et],rfl⟩
 ·left;have e:i=ns.length:=by omega
  subst e;refine⟨⟨_,hS',by rw[Qe];exact Qc _⟩,?_⟩;rw[QP];exact q D hD
abbrev zvm:List V->Hp->VK->Prop:=λxs H Q=>∃ i j,xs = [.int i,.int j]/\Q (.int (if j > i then j else i)) H
def zhi(K:PySem.W.Frag):Sp:=λvs H Q _=>∃ (a:Addr) (ns:List Int),vs = [.ref a,.int 0]/\SqL K H a (ns.map V.int)/\ns.length<=63/\∀ p l s left H',H p=none->H l=none->Same H H'->DealAt H' p l s 0 left->Q (.ref p) H'
structure DC where
 (cb cc ce m2 m3 m4:Int)
structure DC.Ok (c:DC):Prop where
 (cc:-(2 ^ 64)<c.cc/\c.cc<2 ^ 64) 
 (m2:0<c.m2/\c.m2<4294967296)
 (m3:0<c.m3/\c.m3<4294967296)
 (m4:0<c.m4/\c.m4<4294967296)
def zjf(K:PySem.W.Frag)(c:DC):TS :=
 tSeq (tAsg (dAt "number") (zao 2))
 (tSeq (tIfS (zet (tOp (rI0 λi j => .bl (decide (j<i))) (tVar 2) (tC (.int 0))))
  (tSeq (zf8 (tVar 0) (tC (.str "number")) (tOp (rI CDiv λi j => .int (i / j)) (tVar 2) (tVar 1))) (tRet (tOp (rI (λ_ j=>0<j) λi j => .int (i % j)) (tVar 2) (tVar 1)))) zpc)
 (tSeq (tAsg (tOp (rI (λ_ j=>0<j) λi j => .int (i % j)) (tOp (rI0 λi j => .int (i+j)) (tOp (rI CMul λi j => .int (i * j)) (dAt "seed") (tC (.int 48271))) (tC (.int c.cb))) (tC (.int 2147483647))) (zao 3))
 (tSeq (zf8 (tVar 0) (tC (.str "seed")) (tOp (rI (λ_ j=>0<j) λi j => .int (i % j)) (tOp (rI0 λi j => .int (i+j)) (tOp (rI CMul λi j => .int (i * j)) (tVar 3) (tC (.int c.cc))) (tC (.int c.ce))) (tC (.int c.m2))))
 (tSeq (tAsg (tOp (rI (λ_ j=>0<j) λi j => .int (i % j)) (tOp (rI CMul λi j => .int (i * j)) (dAt "seed") (dAt "seed")) (tC (.int c.m3))) (zao 4))
 (tRet (tOp (rI (λ_ j=>0<j) λi j => .int (i % j)) (tOp (rI0 λi j => .int (i+j)) (tOp (rI CMul λi j => .int (i * j)) (tOp (rI (λ_ j=>0<j) λi j => .int (i % j)) (tOp (rI CMul λi j => .int (i * j)) (tVar 3) (tVar 3)) (tC (.int c.m4))) (tC (.int c.m3))) (tVar 4)) (tVar 1)))))))
def zi2(K:PySem.W.Frag)(c:DC):TS:=tSeq (z1s K) (zjf K c)
theorem zs1{K:PySem.W.Frag}{c:DC}(hc:c.Ok){H:Hp}{a l:Addr}{s n:Int}{ns:List Int}{m:Int}{D:Ends}(p:DealAt H a l s n ns)(m0:0<m)(m1:m<1073741824)
 (q:∀ k H' s' n' ns',0<=k->k<m->DealAt H' a l s' n' ns'->PotStp a l H H'->D.rt (.int k) H'):zjf K c D [some (.ref a),some (.int m),none,none,none] H:=by
 refine zss p rfl ?_;refine⟨_,rfl,n,0,rfl,rfl,_,rfl,?_⟩;refine ite2 (λ_=>?_) (λ_=>?_)
 ·refine⟨_,rfl,_,rfl,n,m,rfl,rfl,⟨m0,m1⟩,?_⟩;refine⟨_,rfl,a,_,rfl,zvp p _,?_⟩;exact⟨_,rfl,_,rfl,n,m,rfl,rfl,m0,q _ _ s _ ns (ZU _ (by omega)) (ZG _ m0) (p.setN (Int.ediv_nonneg p.n0 (by omega))) (.upA _)⟩
 ·have s0:=p.s0;have s1:=p.s1;refine ziy p rfl ?_;refine⟨s,48271,rfl,rfl,.inl ⟨by omega,by omega⟩,?_⟩;refine⟨_,_,rfl,rfl,_,_,rfl,rfl,(show(0:Int)<2147483647 by decide),?_⟩;dsimp only;have e0:0<=(s * 48271+c.cb) % 2147483647:=ZU _ (by decide);have e1:(s * 48271+c.cb) % 2147483647<2147483647:=ZG _ (by decide);generalize (s * 48271+c.cb) % 2147483647=one at e0 e1;have hm2:=hc.m2;have hm3:=hc.m3;have hm4:=hc.m4;refine⟨_,rfl,one,c.cc,rfl,rfl,.inl ⟨by omega,by omega⟩,?_⟩;refine⟨_,_,rfl,rfl,_,_,rfl,rfl,hm2.1,?_⟩;dsimp only;have f0:0<=(one * c.cc+c.ce) % c.m2:=ZU _ (by omega);have f1:(one * c.cc+c.ce) % c.m2<c.m2:=ZG _ hm2.1;generalize (one * c.cc+c.ce) % c.m2=sd at f0 f1;refine⟨_,rfl,a,_,rfl,z2f p _,?_⟩;have p2:=p.setS (s':=sd) (by omega) (by omega);refine ziy p2 rfl (ziy p2 rfl ?_);refine⟨sd,sd,rfl,rfl,.inl ⟨by omega,by omega⟩,_,_,rfl,rfl,hm3.1,?_⟩;have g0:0<=one * one % c.m4:=ZU _ (by omega);have g1:one * one % c.m4<c.m4:=ZG _ hm4.1;refine⟨_,rfl,_,rfl,one,one,rfl,rfl,.inl ⟨by omega,by omega⟩,?_⟩;refine⟨_,_,rfl,rfl,hm4.1,_,_,rfl,rfl,.inl ⟨by omega,by omega⟩,?_⟩;refine⟨_,rfl,_,_,rfl,rfl,_,rfl,_,_,rfl,rfl,m0,?_⟩;exact q _ _ _ _ _ (ZU _ (by omega)) (ZG _ m0) p2 (.upA _)
theorem zvj{K:PySem.W.Frag}{dc:DC}(hc:dc.Ok){H:Hp}{a l:Addr}{s n:Int}{ns:List Int}{m:Int}{D:Ends}(p:DealAt H a l s n ns)(m0:0<m)(m1:m<1073741824)
 (q:∀ k H' s' n' ns',0<=k->k<m->DealAt H' a l s' n' ns'->PotStp a l H H'->D.rt (.int k) H'):zi2 K dc D [some (.ref a),some (.int m),none,none,none] H:=by
 refine⟨λc σ H'=>σ = [some (.ref a),some (.int m),none,none,none]/\∃ s n ns,c=ns.length/\DealAt H' a l s n ns/\PotStp a l H H',⟨_,rfl,s,n,ns,rfl,p,.refl _ _ _⟩,?_⟩;rintro c σ H1 ⟨rfl,s,n,ns,rfl,p,st⟩;have out:zjf K dc D [some (.ref a),some (.int m),none,none,none] H1:=zs1 hc p m0 m1 λk H' s' n' ns' h1 h2 h3 h4=>q k H' s' n' ns' h1 h2 h3 (st.trans h4);refine zss p rfl ?_;refine⟨rfl,_,rfl,?_⟩;refine ite2 (λc=>?_) (λc=>iteF out);refine zn4 p rfl ?_;refine⟨_,_,rfl,.inl ⟨_,.of p.hl,rfl⟩,_,_,rfl,rfl,_,rfl,?_⟩;refine ite2 (λc2=>?_) (λc2=>out);have c3:=GV c2;have hne:ns ≠ []:=λe=>by rw[e] at c3;simp at c3
 obtain⟨r,x,rfl⟩:∃ r x,ns=r ++ [x]:=⟨ns.dropLast,ns.getLast hne,(List.dropLast_concat_getLast hne).symm⟩;refine⟨λσ' H'=>σ' = [some (.ref a),some (.int m),none,none,none]/\∃ s n ns,ns.length<(r ++ [x]).length/\DealAt H' a l s n ns/\PotStp a l H H',λσ' H' ⟨e,s,n,ns,hl,h1,h2⟩=>⟨_,hl,e,s,n,ns,rfl,h1,h2⟩,?_⟩;refine zn4 p rfl ?_;have p1:DealAt (upd H1 l (.lst ((r ++ [x]).map V.int).dropLast)) a l s n r:=⟨p.ne,by rw[zaa p.ne];exact p.ha,by rw[zad,Qy];show some (HO.lst (List.dropLast (_ ++ [V.int x])))=_;rw[List.dropLast_concat],p.s0,p.s1,p.n0,λz hz=>p.ns0 z (Zp _ hz)⟩;refine⟨.inl ⟨rfl,_,.of p.hl⟩,l,_,.int x,rfl,rfl,p.hl,by simp,?_⟩;refine⟨_,rfl,a,_,rfl,zvp p1 x,rfl,s,x,r,by simp,p1.setN (p.ns0 x (by simp)),st.trans (PotStp.trans (.upL _) (.upA _))⟩
theorem zm3{K:PySem.W.Frag}{c:DC}(hc:c.Ok){O:Ob}{H:Hp}{ds:List Ve}{ws:List V}{Qr:R->Prop}{Q:VK}{x1 x2 x3 x4 x5:Str}(hφ:IsDeal O)(p:O.P H)(is:IsAll K (unM O) H ws ds)(q:zcw ds Qr)(kk:∀ r,Qr r->∀ v H',Stp O H H'->Out K O H H' v r->Q v H') :
 zi2 K c { nx:=λ_ H'=>Q .non H',rt:=Q } (L2.start [x1,x2,x3,x4,x5] (O.v::ws)) H:=by
 obtain⟨m,rfl,m0,m1,q⟩:=q;obtain⟨a,l,hv,ma,ml,h1,h2⟩:=hφ.ex;obtain⟨s,n,ns,pa⟩:=h1 H p;obtain⟨v,rfl,iv⟩:=zav is;cases iv;rw[hv];exact zvj hc pa m0 m1 λk H' s' n' ns' k0 k1 p' st=>kk _ (q k k0 k1) _ H' (zt4 ma ml h2 pa p' st) (Is.int k)
def zqk(K:PySem.W.Frag)(ti ts:TE):TS :=
 tSeq (tAsg (ze7 1 (zgi K (tSl (rSlL K) (tVar 0) (zks (tVar 1)) (zks (tC (.int 63))))) (zao 0) tYes (tCB zvm (zaj (tVar 0) (zaj (tOp (rI0 λi j => .int (i - j)) (tC (.int 0)) (tVar 0)) tNil)))) (zao 2))
 (tSeq (tAsg ti (zao 3))
 (tSeq (tFor (zgi K (tVar 2)) (zao 4)
  (tAsg ts (zao 3)))
 (tRet (zv6 [(tC (.str "seed"),tVar 3),(tC (.str "number"),tC (.int 0)),(tC (.str "left"),tLR K (ze7 1 (zgi K (tVar 2)) (zao 0) (zet (tOp (rI0 λi j => .bl (decide (j<=i))) (tVar 0) (tOp (rI CPow λi j => .int (i ^ j.toNat)) (tC (.int 10)) (tC (.int 18))))) (tVar 0)))]))))
theorem zp4{K:PySem.W.Frag}{ti ts:TE}{s0:Int}(hs0:0<=s0)(hs1:s0<4294967296)(hi:∀ (v v1:V) H Q,Q (.int s0) H->ti [some v,some (.int 0),some v1,none,none] H Q)(hst:∀ (v v1:V) (s n:Int) H Q,0<=s->s<4294967296->(∀ s',0<=s'->s'<4294967296->Q (.int s') H)->ts [some v,some (.int 0),some v1,some (.int s),some (.int n)] H Q){H:Hp}{Q:VK}{a:Addr}{ns:List Int}(hS:SqL K H a (ns.map V.int))(hl:ns.length<=63)
 (q:∀ p l s left H',H p=none->H l=none->Same H H'->DealAt H' p l s 0 left->Q (.ref p) H'):zqk K ti ts { nx:=λ_ H'=>Q .non H',rt:=Q } [some (.ref a),some (.int 0),none,none,none] H:=by
 have sL:=Vj;refine⟨_,rfl,_,rfl,_,rfl,63,rfl,a,_,rfl,hS,λc hc=>?_⟩;rw[zur]
 have hcl:(cutL ns (some 0) (some 63)).length<=63:=by
  unfold cutL;rw[QJ,Q9];omega
 generalize cutL ns (some 0) (some 63)=cs at hcl;refine⟨c,rfl,⟨_,.of zad⟩,?_⟩;have g1:Same H (upd H c (.lst (cs.map V.int))):=L3.same_new hc _;refine zhp (K:=K) (c:=c) (H:=upd H c (.lst (cs.map V.int))) (σ := [some (.ref a),some (.int 0),none,none,none]) (tf:=tYes) (te:=tCB zvm (zaj (tVar 0) (zaj (tOp (rI0 λi j => .int (i - j)) (tC (.int 0)) (tVar 0)) tNil))) (λ_=>true) (λn=>if 0 - n > n then 0 - n else n) (.of zad) hcl (λn H' R r=>r) (λn H' R r=>⟨_,rfl,_,rfl,0,n,rfl,rfl,n,0 - n,rfl,r⟩) λd hd=>?_;have hcs:cs.filter (λ_=>true)=cs:=List.filter_eq_self.mpr λ_ _=>rfl;rw[hcs]
 have habs:∀ n ∈ cs.map (λn=>if 0 - n > n then 0 - n else n),0<=n:=λn hn=>by
  obtain⟨m,_,rfl⟩:=Qp.mp hn
  split <;> omega
 have hal:(cs.map (λn=>if 0 - n > n then 0 - n else n)).length<=63:=by rw[Qe];exact hcl
 generalize cs.map (λn=>if 0 - n > n then 0 - n else n)=es at habs hal;have g2:Same H (upd (upd H c (.lst (cs.map V.int))) d (.lst (es.map V.int))):=g1.trans (L3.same_new hd _);generalize eH:upd (upd H c (.lst (cs.map V.int))) d (.lst (es.map V.int))=H1 at g2;have hd1:H1 d=some (.lst (es.map V.int)):=by rw[<- eH];exact zad
 refine hi _ _ _ _ ?_;refine⟨_,rfl,d,rfl,⟨_,.of hd1⟩,?_⟩;refine zvd (xs:=es.map V.int) (λi σ H'=>∃ (s:Int) (o:Option V),σ = [some (.ref a),some (.int 0),some (.ref d),some (.int s),o]/\0<=s/\s<4294967296/\H'=H1) ?_ ?_ ?_ ?_
 ·exact⟨_,none,rfl,hs0,hs1,rfl⟩
 ·rintro i σ H' hi ⟨s,o,rfl,h1,h2,rfl⟩;exact .of hd1
 ·rintro i x σ H' hx ⟨s,o,rfl,h1,h2,rfl⟩;rw[Qk] at hx;obtain⟨n,hn,rfl⟩:=Q0.mp hx;exact hst _ _ s n _ _ h1 h2 λs' f0 f1=>⟨_,_,rfl,f0,f1,rfl⟩
 ·rintro σ H' ⟨s,o,rfl,h1,h2,rfl⟩;intro p hp;have npd:p ≠ d:=λz=>by rw[z,hd1] at hp;cases hp
  refine⟨_,rfl,?_⟩;have hd2:upd H' p (.dK []) d=some (.lst (es.map V.int)):=by rw[zaa (Zj npd)];exact hd1
  refine⟨_,rfl,d,rfl,⟨_,.of hd2⟩,?_⟩;refine zhp (tf:=zet (tOp (rI0 λi j => .bl (decide (j<=i))) (tVar 0) (tOp (rI CPow λi j => .int (i ^ j.toNat)) (tC (.int 10)) (tC (.int 18))))) (te:=tVar 0) (λn=>decide ((10:Int) ^ (18:Int).toNat<=n)) (λn=>n) (.of hd2) hal (λn H' R r=>⟨_,rfl,10,18,rfl,rfl,⟨by decide,by decide,by decide⟩,_,_,rfl,rfl,_,rfl,r⟩) (λn H' R r=>⟨_,rfl,r⟩) λe he=>?_;rw[List.map_id'];have hfl:∀ n ∈ es.filter (λn=>decide ((10:Int) ^ (18:Int).toNat<=n)),0<=n:=λn hn=>habs n (Z0.mp hn).1;generalize es.filter (λn=>decide ((10:Int) ^ (18:Int).toNat<=n))=left at hfl;have npe:p ≠ e:=λz=>by rw[<- z,zad] at he;cases he
  refine⟨e,_,rfl,.of zad,λl hln=>?_⟩
  have npl:p ≠ l:=λz=>by
   rw[<- z,zaa npe,zad] at hln;cases hln
  have nel:e ≠ l:=λz=>by rw[<- z,zad] at hln;cases hln
  have hlp:upd H' p (.dK []) l=none:=by rw[zaa (Zj nel)] at hln;exact hln
  have hlH:H' l=none:=by rw[zaa (Zj npl)] at hlp;exact hlp
  refine⟨by rw[zaa npl,zaa npe];exact zad,zaz s 0 l,rfl,by show 3<=15;decide,?_⟩
  have em:zdt [] (zaz s 0 l)=zaz s 0 l:=by
   have a1:¬ (zb7=kNum):=by decide +kernel
   have a2:¬ (zb7=zdd):=by decide +kernel
   have a3:¬ (kNum=zdd):=by decide +kernel
   simp[zdt,zaz,putK,a1,a2,a3]
  rw[em];have heH:H' e=none:=by rw[zaa (Zj npe)] at he;exact he
  have hm:(left.map V.int).reverse=left.reverse.map V.int:=YZ.symm;rw[hm];refine q p l s left.reverse _ (g2.free hp) (g2.free hlH) (λb o eb=>?_) ⟨npl,zad,?_,h1,h2,Int.le_refl 0,λn hn=>hfl n (JX.mp hn)⟩
  ·have e1:=g2 b o eb;have n1:b ≠ p:=λz=>by rw[z,hp] at e1;cases e1
   have n2:b ≠ l:=λz=>by rw[z,hlH] at e1;cases e1
   have n3:b ≠ e:=λz=>by rw[z,heH] at e1;cases e1
   rw[zaa n1,zaa n2,zaa n3,zaa n1];exact e1
  ·rw[zaa (Zj npl)];exact zad
theorem zkm{K:PySem.W.Frag}{φ:Ob->Prop}(hp:∀ (O:Ob) (D:Addr) (u:HO),φ O->¬ O.M D->φ (O.plus D u)){O:Ob}{H:Hp}{ds:List Ve}{ws:List V}{Qr:R->Prop}{Q:VK}{x1 x2 x3:Str}(ok:O.Ok)(hφ:φ O)(p:O.P H)(is:IsAll K (unM O) H ws ds)(q:ze8 ds Qr)(kk:∀ r,Qr r->∀ v H',Stp O H H'->Out K O H H' v r->Q v H') :
 zg4 K (spD K φ 1 zcw) { nx:=λ_ H'=>Q .non H',rt:=Q } (L2.start [x1,x2,x3] (O.v::ws)) H:=by
 obtain⟨m,rfl,m0,m1,q⟩:=q;obtain⟨v,rfl,iv⟩:=zav is;cases iv;have hsz:sizeLine=16777216:=Vj;refine⟨_,rfl,by decide,λl hl=>?_⟩;have eabc:(Str.ofString "abcdefghijklmnopqrstuvwxyz").cps.toList=abc:=by decide +kernel
 rw[eabc];have sl:Stp O H (upd H l (.lst (abc.map λc=>V.str (sg c)))) := .new ok hl _;have nMl:¬ O.M l:=λmm=>by obtain⟨o,z⟩:=ok.here H l p mm;rw[hl] at z;cases z
 have al:∀ b o,H b=some o->b ≠ l:=λb o e z=>by rw[z,hl] at e;cases e
 refine⟨rfl,?_⟩;refine⟨_,rfl,m,rfl,by omega,by omega,λD hD=>?_⟩;have nlD:l ≠ D:=λz=>by rw[<- z,zad] at hD;cases hD
 have hDH:H D=none:=Same.free (L3.same_new hl _) hD;have nMD:¬ O.M D:=λmm=>by obtain⟨o,z⟩:=ok.here H D p mm;rw[hDH] at z;cases z
 have aD:∀ b o,H b=some o->b ≠ D:=λb o e z=>by rw[z,hDH] at e;cases e
 have pl:∀ {H':Hp} {b:Addr} {o:HO},¬ O.M b->O.P H'->O.P (upd H' b o):=λ{H' b o} nb pp=>ok.loc H' _ (λc mc=>zaa λz=>nb (z ▸ mc)) pp
 refine⟨λi c ys H'=>c=m.toNat - i/\i<=m.toNat/\H' D=some (.lst ys)/\(∃ w r:List Nat,ys=w.map (λc=>V.str (sg c))/\w.length=i/\(∀ c ∈ w,ze3 c)/\H' l=some (.lst (r.map λc=>V.str (sg c)))/\r.length+i=26/\(∀ c ∈ r,ze3 c)/\(w++r).Nodup) /\
  O.P H'/\(∀ b o,H b=some o->¬ O.M b->H' b=some o)/\TupStay H H',⟨_,rfl,Qw _,zad,⟨[],abc,rfl,rfl,by simp,by rw[zaa nlD];exact zad,rfl,by unfold ze3;decide,by decide⟩,pl nMD (pl nMl p),λb o e n=>?_,λb u _ e=>?_⟩,?_⟩
 ·rw[zaa (aD b o e),zaa (al b o e)];exact e
 ·rw[zaa (aD b u e),zaa (al b u e)];exact e
 rintro i c ys H' ⟨rfl,hi,hDy,⟨w,r,rfl,hw,hwl,hr,hrl,hrc,hnd⟩,pp,kp,ts⟩;refine⟨hDy,?_⟩
 by_cases hlt:i<m.toNat
 ·right;refine⟨hlt,λx H2 ⟨e2,_⟩=>?_⟩;subst e2;have hr0:0<r.length:=by omega
  show tBM K "list" zig (tVar 3) _ _ H2 _;refine⟨_,rfl,.inl ⟨rfl,_,.of hr⟩,_,rfl,?_⟩;refine⟨_,rfl,_,r.length,rfl,.inl ⟨_,.of hr,by rw[Qe]⟩,?_⟩;have okp:=(ok.plus D (w.map λc=>V.str (sg c))).plus l (r.map λc=>V.str (sg c))
  have nl2:¬ (O.plus D (.lst (w.map λc=>V.str (sg c)))).M l:=λmm=>by
   rcases mm with mm|mm
   ·exact nMl mm
   ·exact nlD mm
  show spD K φ 1 zcw ([O.v,V.int r.length] ++ []) H2 _ E0;refine⟨_,[.int r.length],[.int r.length],λx=>∃ k:Int,x = .o (.int k)/\0<=k/\k<r.length,okp,hp _ l _ (hp _ D _ hφ nMD) nl2,⟨⟨pp,hDy⟩,hr⟩,rfl,rfl,.cons (.int _) .nil,⟨_,rfl,by omega,by omega,λk k0 k1=>⟨k,rfl,k0,k1⟩⟩,?_⟩;rintro _ ⟨k,rfl,k0,k1⟩ v H3 st o3;cases o3;obtain⟨⟨p3,hD3⟩,hl3⟩:=st.p ⟨⟨pp,hDy⟩,hr⟩;have hk:k.toNat<r.length:=by omega
  have ek:k=((k.toNat:Nat):Int):=by omega
  refine⟨l,_,k,k.toNat,V.str (sg r[k.toNat]),rfl,rfl,hl3,by omega,by omega,?_,by rw[Qk,Qa hk];rfl,?_⟩
  ·rw[Qe];unfold U6;simp only[show ¬ k<0 by omega,GX]
   first|(rw[GQ (by omega)])|(simp;omega)|omega
  ·have ne1:D ≠ l:=Zj nlD;refine⟨by rw[zaa ne1];exact hD3,by rw[Qe];omega,m.toNat - (i+1),by omega,rfl,hlt,zad,⟨w ++ [r[k.toNat]],r.eraseIdx k.toNat,by rw[Qy];rfl,by rw[Qj,hw];rfl,λc hc=>?_,?_,?_,λc hc=>hrc c (zk9 hc),?_⟩,pl nMD (pl nMl p3),λb o e n=>?_,λb u hu e=>?_⟩
   ·rcases Qv.mp hc with hc|hc
    ·exact hwl c hc
    ·rw[Qg.mp hc];exact hrc _ (Zc hk)
   ·rw[zaa nlD,zad,zjr]
   ·rw[ZL];rw[GQ hk];omega
   ·rw[Q3];refine(List.Perm.nodup_iff (Yr w ?_)).mp hnd;exact(zjq hk).symm
   ·rw[zaa (aD b o e),zaa (al b o e)]
    exact st.s b o (kp b o e n) λmm=>by
     rcases mm with (mm|mm)|mm
     ·exact n mm
     ·exact aD b o e mm
     ·exact al b o e mm
   ·rw[zaa (aD b u e),zaa (al b u e)];exact st.t b u hu (ts b u hu e)
 ·left;have e:i=m.toNat:=by omega
  refine⟨by show m.toNat<=i;omega,?_⟩;refine⟨D,w.map sg,rfl,by rw[hDy,QG];rfl,by rw[Qe];omega,λzs z hpm hs hz=>?_⟩
  obtain⟨w2,rfl,hw2⟩:=unsg (zs:=zs) λy hy=>by
   obtain⟨c,hc,rfl⟩:=Qp.mp (hpm.mem_iff.mp hy);exact⟨c,rfl,hwl c hc⟩
  have hlen:w2.length=w.length:=by have:=hpm.length_eq;simpa using this
  have hinc:w2.Pairwise (· < ·):=by
   refine zpa hs ?_;have hw1:(w.map sg).Nodup:=Zw.mpr ((Zx.mp hnd).1.imp λne e=>ne (z0n e));have hw3:(w2.map sg).Nodup:=hpm.symm.nodup_iff.mp hw1;exact(Zw.mp hw3).imp λne e=>ne (Tb sg e)
  refine⟨_,z,w2.map sg,rfl,rfl,zad,?_,?_⟩
  ·rw[zrt,Qe];have e0:(Str.ofString "").length=0:=by decide +kernel
   rw[e0];omega
  ·rw[zn5];have az:∀ b o,H b=some o->¬ O.M b->b ≠ z:=λb o eb n e2=>by rw[e2] at eb;have:=kp z o eb (e2 ▸ n);rw[hz] at this;cases this
   have nMz:¬ O.M z:=λmm=>by obtain⟨o,y⟩:=ok.here H' z pp mm;rw[hz] at y;cases y
   refine kk _ (q w2 (by omega) hw2 hinc) _ _ ⟨λb o eb n=>by rw[zaa (az b o eb n)];exact kp b o eb n,λ_=>pl nMz pp,λb u hu eb=>?_⟩ (Is.str _);have h1:=ts b u hu eb;rw[zaa λe2=>by rw[e2,hz] at h1;cases h1];exact h1
theorem zl0{K:PySem.W.Frag}{O:Ob}{H:Hp}{ds:List Ve}{ws:List V}{Qr:R->Prop}{Q:VK}{x1 x2 x3:Str}(ok:O.Ok)(hφ:IsDeal O)(p:O.P H)(is:IsAll K (unM O) H ws ds)(q:ze8 ds Qr)(kk:∀ r,Qr r->∀ v H',Stp O H H'->Out K O H H' v r->Q v H') :
 zg4 K (spD K IsDeal 1 zcw) { nx:=λ_ H'=>Q .non H',rt:=Q } (L2.start [x1,x2,x3] (O.v::ws)) H:=zkm (λO D u h n=>h.plus D u n) ok hφ p is q kk
end L3
namespace L14
open PySem PySem.Spec
open PyProof.Rows hiding St
open L2 L3
def top(i:Nat):Stmt:=PySem.Challenge.pw_lostpost_k14_words_above_both.main.body.getD i (.Pass ⟨0,0,0,0⟩)
section
variable {P : Vf} {w : Vk} {K : PySem.W.Frag} {mg : Str → Option Vb} {base : Heap} {k : Nat}
abbrev zpy(P:Vf)(w:Vk)(K:PySem.W.Frag)(mg:Str->Option Vb)(base:Heap):Prop:=Def3 P w K mg base 1 "_law_draw" ["_law_deal_here", "_law_many"] (spD K IsDeal 1 zcw)
abbrev zp8:Stmt:=top 7
theorem zz8:FnScope ["_law_script", "_law_base", "_law_cells", "_law_number", "_law_cell"] ["_law_script", "_law_base"] (zaf zp8):=⟨rfl,rfl,rfl,by decide +kernel,rfl,by decide +kernel,by decide +kernel⟩
theorem d_law_deal(B:Blt mg)(T:Top3 K mg "_law_deal" zp8):Def3 P w K mg base 1 "_law_deal" ["_law_script", "_law_base"] (zhi K):=by
 obtain⟨f,fd,Fu,m⟩:=T.ex;refine⟨f,fd,Fu.ok zz8 (λvs H Q E h=>by obtain⟨a,ns,rfl,_⟩:=h;rfl) (λcdv A outer s H vs Q E hr h=>?_),m,Fu.kp,Fu.binds (λ_ _ _ _ _ _ us hl=>len2 hl λ_ _=>rfl)⟩;obtain⟨a,ns,rfl,hS,hl,q⟩:=h;refine⟨zqk K (tOp (rI0 λi j => .int (i+j)) (tC (.int 7919)) (tVar 1)) (tOp (rI (λ_ j=>0<j) λi j => .int (i % j)) (tOp (rI0 λi j => .int (i+j)) (tOp (rI CMul λi j => .int (i * j)) (tVar 3) (tC (.int 48271))) (tOp (rI (λ_ j=>0<j) λi j => .int (i % j)) (tVar 4) (tC (.int 2147483629)))) (tC (.int 2147483647))),?_,zp4 (s0:=7919+0) (by decide) (by decide) (λv v1 H Q q=>⟨_,rfl,7919,0,rfl,rfl,q⟩) (λv v1 s n H Q h1 h2 q=>⟨_,rfl,s,48271,rfl,rfl,.inl ⟨by omega,by omega⟩,_,rfl,n,2147483629,rfl,rfl,(show(0:Int)<2147483629 by decide),_,_,rfl,rfl,_,_,rfl,rfl,(show(0:Int)<2147483647 by decide),q _ (ZU _ (by decide)) (YF (ZG _ (by decide)) (by decide))⟩) hS hl q⟩;have nd:(["_law_script", "_law_base", "_law_cells", "_law_number", "_law_cell"]:List Str).Nodup:=by decide +kernel
 exact(za1 (zh6 (n0:=2) nd rfl rfl rfl 1 (N' := ["_law_cell", "_law_script", "_law_base", "_law_cells", "_law_number", "._law_cell"]) (.of rfl (by kernel_rfl)) rfl (zf6 (zgv sl_list (zag (i:=0) rfl (by first|exact Or.inl rfl|exact Or.inr (Or.inl rfl)|exact Or.inr (Or.inr rfl))) (zfz (zag (i:=1) rfl (by first|exact Or.inl rfl|exact Or.inr (Or.inl rfl)|exact Or.inr (Or.inr rfl)))) (zfz zar))) (λC s H ex=>zbm (GV (by kernel_rfl)) rfl (by first|exact Or.inl rfl|exact Or.inr rfl) (by first|exact .inl rfl|exact .inr rfl)) (zb9 (by decide)) (λC s H ex=>zie) (λC s H ex=>zcq (zse rfl) rfl B.max z0t (zai (zag (i:=0) rfl (by first|exact Or.inl rfl|exact Or.inr (Or.inl rfl)|exact Or.inr (Or.inr rfl))) (zai (zax z1r zar (zag (i:=0) rfl (by first|exact Or.inl rfl|exact Or.inr (Or.inl rfl)|exact Or.inr (Or.inr rfl)))) zaq))))
  (za1 (zbt (i:=3) nd rfl (by first|exact Or.inl rfl|exact Or.inr rfl) (zax op_add zar (zag (i:=1) rfl (by first|exact Or.inl rfl|exact Or.inr (Or.inl rfl)|exact Or.inr (Or.inr rfl)))))
  (za1 (zla PassesOwn.never rfl (zf6 (zag (i:=2) rfl (by first|exact Or.inl rfl|exact Or.inr (Or.inl rfl)|exact Or.inr (Or.inr rfl)))) (zbm (i:=4) nd rfl (by first|exact Or.inl rfl|exact Or.inr rfl)) (zcn (zbt (i:=3) nd rfl (by first|exact Or.inl rfl|exact Or.inr rfl) (zax zc2 (zax op_add (zax op_mul (zag (i:=3) rfl (by first|exact Or.inl rfl|exact Or.inr (Or.inl rfl)|exact Or.inr (Or.inr rfl))) zar) (zax zc2 (zag (i:=4) rfl (by first|exact Or.inl rfl|exact Or.inr (Or.inl rfl)|exact Or.inr (Or.inr rfl))) zar)) zar))))
  (zcn (zei (zx2 (zgx za6 (zag (i:=3) rfl (by first|exact Or.inl rfl|exact Or.inr (Or.inl rfl)|exact Or.inr (Or.inr rfl))) (zgx za6 zar (zgx za6 (zpg (hr.hd) rfl B.list rfl B.reversed (zf1 1 (N' := ["_law_cell", "_law_script", "_law_base", "_law_cells", "_law_number", "._law_cell"]) (.of rfl (by kernel_rfl)) rfl (zf6 (zag (i:=2) rfl (by first|exact Or.inl rfl|exact Or.inr (Or.inl rfl)|exact Or.inr (Or.inr rfl)))) (λC s H ex=>zbm (GV (by kernel_rfl)) rfl (by first|exact Or.inl rfl|exact Or.inr rfl) (by first|exact .inl rfl|exact .inr rfl)) (zb9 (by decide)) (λC s H ex=>zs9 (zef z3e (zag (i:=0) rfl (by first|exact Or.inl rfl|exact Or.inr (Or.inl rfl)|exact Or.inr (Or.inr rfl))) (zax z1k zar zar) (zcf _))) (λC s H ex=>(zag (i:=0) rfl (by first|exact Or.inl rfl|exact Or.inr (Or.inl rfl)|exact Or.inr (Or.inr rfl)))))) zxr))) rfl rfl (by simp) (by decide)))))))
def dc:DC:=⟨7919,40692,104729,2147483399,2147483563,2147483629⟩
theorem z2a:dc.Ok:=⟨by decide,by decide,by decide,by decide⟩
abbrev zpf:Stmt:=top 8
theorem zzo:FnScope ["_law_deal_here", "_law_many", "_law_number", "_law_one", "_law_other"] ["_law_deal_here", "_law_many"] (zaf zpf):=⟨rfl,rfl,rfl,by decide +kernel,rfl,by decide +kernel,by decide +kernel⟩
theorem d_law_draw(B:Blt mg)(T:Top3 K mg "_law_draw" zpf):Def3 P w K mg base 1 "_law_draw" ["_law_deal_here", "_law_many"] (spD K IsDeal 1 zcw):=by
 obtain⟨f,fd,Fu,m⟩:=T.ex;refine⟨f,fd,Fu.ok zzo (zi3 rfl) (λcdv A outer s H vs Q E hr h=>?_),m,Fu.kp,Fu.binds (λ_ _ _ _ _ _ us hl=>len2 hl λ_ _=>rfl)⟩;obtain⟨O,ds,ws,Qr,ok,hφ,p,hl,rfl,is,q,kk⟩:=h;refine⟨zi2 K dc,?_,zm3 z2a hφ p is q kk⟩;have nd:(["_law_deal_here", "_law_many", "_law_number", "_law_one", "_law_other"]:List Str).Nodup:=by decide +kernel
 exact(za1 (zu7 PassesOwn.never (PW.pt (zrg (zef z2t (zb1 (zbf hr) (zag (i:=0) rfl (by first|exact Or.inl rfl|exact Or.inr (Or.inl rfl)|exact Or.inr (Or.inr rfl))) za6 (λ_ _=>rfl)) zar (zcf _)) (zop (zef zwm (zcq zfb rfl B.len zha (zai (zb1 (zbf hr) (zag (i:=0) rfl (by first|exact Or.inl rfl|exact Or.inr (Or.inl rfl)|exact Or.inr (Or.inr rfl))) za6 (λ_ _=>rfl)) zaq)) zar (zcf _))))) (zcn (zeg (zbf hr) (zag (i:=0) rfl (by first|exact Or.inl rfl|exact Or.inr (Or.inl rfl)|exact Or.inr (Or.inr rfl))) za6 (zr3 PySem.F.plainAttrs_list PySem.F.slot_list_pop PySem.F.type_list_pop zyf (zb1 (zbf hr) (zag (i:=0) rfl (by first|exact Or.inl rfl|exact Or.inr (Or.inl rfl)|exact Or.inr (Or.inr rfl))) za6 (λ_ _=>rfl))) rfl)))
  (za1 (zbt (i:=2) nd rfl (by first|exact Or.inl rfl|exact Or.inr rfl) (zb1 (zbf hr) (zag (i:=0) rfl (by first|exact Or.inl rfl|exact Or.inr (Or.inl rfl)|exact Or.inr (Or.inr rfl))) za6 (λ_ _=>rfl)))
  (za1 (zwt (zef zwm (zag (i:=2) rfl (by first|exact Or.inl rfl|exact Or.inr (Or.inl rfl)|exact Or.inr (Or.inr rfl))) zar (zcf _)) (za1 (zeg (zbf hr) (zag (i:=0) rfl (by first|exact Or.inl rfl|exact Or.inr (Or.inl rfl)|exact Or.inr (Or.inr rfl))) za6 (zax zx4 (zag (i:=2) rfl (by first|exact Or.inl rfl|exact Or.inr (Or.inl rfl)|exact Or.inr (Or.inr rfl))) (zag (i:=1) rfl (by first|exact Or.inl rfl|exact Or.inr (Or.inl rfl)|exact Or.inr (Or.inr rfl)))) rfl) (zcn (zei (zax zc2 (zag (i:=2) rfl (by first|exact Or.inl rfl|exact Or.inr (Or.inl rfl)|exact Or.inr (Or.inr rfl))) (zag (i:=1) rfl (by first|exact Or.inl rfl|exact Or.inr (Or.inl rfl)|exact Or.inr (Or.inr rfl))))))) zni)
  (za1 (zbt (i:=3) nd rfl (by first|exact Or.inl rfl|exact Or.inr rfl) (zax zc2 (zax op_add (zax op_mul (zb1 (zbf hr) (zag (i:=0) rfl (by first|exact Or.inl rfl|exact Or.inr (Or.inl rfl)|exact Or.inr (Or.inr rfl))) za6 (λ_ _=>rfl)) zar) zar) zar))
  (za1 (zeg (zbf hr) (zag (i:=0) rfl (by first|exact Or.inl rfl|exact Or.inr (Or.inl rfl)|exact Or.inr (Or.inr rfl))) za6 (zax zc2 (zax op_add (zax op_mul (zag (i:=3) rfl (by first|exact Or.inl rfl|exact Or.inr (Or.inl rfl)|exact Or.inr (Or.inr rfl))) zar) zar) zar) rfl)
  (za1 (zbt (i:=4) nd rfl (by first|exact Or.inl rfl|exact Or.inr rfl) (zax zc2 (zax op_mul (zb1 (zbf hr) (zag (i:=0) rfl (by first|exact Or.inl rfl|exact Or.inr (Or.inl rfl)|exact Or.inr (Or.inr rfl))) za6 (λ_ _=>rfl)) (zb1 (zbf hr) (zag (i:=0) rfl (by first|exact Or.inl rfl|exact Or.inr (Or.inl rfl)|exact Or.inr (Or.inr rfl))) za6 (λ_ _=>rfl))) zar))
  (zcn (zei (zax zc2 (zax op_add (zax op_mul (zax zc2 (zax op_mul (zag (i:=3) rfl (by first|exact Or.inl rfl|exact Or.inr (Or.inl rfl)|exact Or.inr (Or.inr rfl))) (zag (i:=3) rfl (by first|exact Or.inl rfl|exact Or.inr (Or.inl rfl)|exact Or.inr (Or.inr rfl)))) zar) zar) (zag (i:=4) rfl (by first|exact Or.inl rfl|exact Or.inr (Or.inl rfl)|exact Or.inr (Or.inr rfl)))) (zag (i:=1) rfl (by first|exact Or.inl rfl|exact Or.inr (Or.inl rfl)|exact Or.inr (Or.inr rfl))))))))))))
abbrev zfo:Stmt:=top 9
theorem zqf:FnScope ["_law_deal_here", "_law_many", "_law_left"] ["_law_deal_here", "_law_many"] (zaf zfo):=⟨rfl,rfl,rfl,by decide +kernel,rfl,by decide +kernel,by decide +kernel⟩
theorem zcm(B:Blt mg)(d_law_draw:zpy P w K mg base)(T:Top3 K mg "_law_alphabet" zfo):Def3 P w K mg base 2 "_law_alphabet" ["_law_deal_here", "_law_many"] (spD K IsDeal 1 ze8):=by
 obtain⟨f,fd,Fu,m⟩:=T.ex;refine⟨f,fd,Fu.ok zqf (zi3 rfl) (λcdv A outer s H vs Q E hr h=>?_),m,Fu.kp,Fu.binds (λ_ _ _ _ _ _ us hl=>len2 hl λ_ _=>rfl)⟩;obtain⟨O,ds,ws,Qr,ok,hφ,p,hl,rfl,is,q,kk⟩:=h;refine⟨zg4 K (spD K IsDeal 1 zcw),?_,zl0 ok hφ p is q kk⟩;have nd:(["_law_deal_here", "_law_many", "_law_left"]:List Str).Nodup:=by decide +kernel
 obtain⟨fD,fdD,G,mD,kpD,bnD⟩:=d_law_draw.ex
 exact za1 (zbt (i:=2) nd rfl (by first|exact Or.inl rfl|exact Or.inr rfl) (zd1 (zif rfl) rfl B.list zi5 (zai za6 zaq)))
  (zcn (zei (zh4 PySem.F.plainAttrs_str PySem.F.slot_str_join PySem.F.type_str_join zme za6 (zai (zcq zpw rfl B.sorted zdv (zai
   (zf1 1 (N' := ["_law_k", "_law_deal_here", "_law_many", "_law_left"]) (.of rfl (by kernel_rfl)) rfl (zka rfl B.range (zai (zag (i:=1) rfl (by first|exact Or.inl rfl|exact Or.inr (Or.inl rfl)|exact Or.inr (Or.inr rfl))) zaq))
    (λC s H ex=>zbm (GV (by kernel_rfl)) rfl (by first|exact Or.inl rfl|exact Or.inr rfl) (by first|exact .inl rfl|exact .inr rfl)) (zb9 (by decide)) (λC s H ex=>zie)
    (λC s H ex=>zh4 PySem.F.plainAttrs_list PySem.F.slot_list_pop PySem.F.type_list_pop zrz (zag (i:=3) rfl (by first|exact Or.inl rfl|exact Or.inr (Or.inl rfl)|exact Or.inr (Or.inr rfl)))
     (zai (zd5 (k:=1) (by exact G) (by exact hr) rfl mD kpD bnD .nil zh1 (zai (zag (i:=1) rfl (by first|exact Or.inl rfl|exact Or.inr (Or.inl rfl)|exact Or.inr (Or.inr rfl))) (zai (zcq zfb rfl B.len zha (zai (zag (i:=3) rfl (by first|exact Or.inl rfl|exact Or.inr (Or.inl rfl)|exact Or.inr (Or.inr rfl))) zaq)) zaq))) zaq))) zaq)) zaq))))
end
end L14
namespace L6
def eat(c:Nat):List Nat->List Nat
 | [] => []
 | x::r=>if x=c then r else x::r
def eats(l:List Nat):List Nat->List Nat:=λless=>l.foldl (λr c=>eat c r) less
def under(less more:List Nat):Bool:=(eats more less).isEmpty
theorem ztv(l:List Nat):eats l [] = []:=by
 induction l with
 | nil=>rfl
 | cons c l ih=>exact ih
theorem under_iff:∀ {more less:List Nat},under less more=true↔less.Sublist more
 | [],[]=>by simp[under,eats]
 | [],x::less=>by simp[under,eats]
 | c::more,[]=>by simp[under,ztv]
 | c::more,x::less=>by
   show under (eat c (x::less)) more=true↔_
   by_cases h:x=c
   ·subst h;rw[show eat x (x::less)=less from GQ rfl,under_iff (more:=more) (less:=less)];exact⟨λz=>z.cons_cons x,λz=>by cases z with|cons _ z=>exact List.Sublist.trans (Jr _ _) z|cons_cons _ z=>exact z⟩
   ·rw[show eat c (x::less)=x::less from GT h,under_iff (more:=more) (less:=x::less)];exact⟨λz=>z.cons c,λz=>by cases z with|cons _ z=>exact z|cons_cons _ z=>exact absurd rfl h⟩
def wlt(a b:List Nat):Bool:=decide (a.length<b.length) || (decide (a.length=b.length) && decide (a<b))
theorem zd6(a:List Nat):wlt a a=false:=by simp[wlt,Ja]
theorem wlt_iff{a b:List Nat}:wlt a b=true↔a.length<b.length\/(a.length=b.length/\a<b):=by simp[wlt]
theorem zk5(a b c:List Nat)(h:wlt a b=true)(h':wlt b c=true):wlt a c=true:=by
 rw[wlt_iff] at *;rcases h with h|⟨h1,h2⟩ <;> rcases h' with h'|⟨h3,h4⟩
 ·left;omega
 ·left;omega
 ·left;omega
 ·right;exact⟨by omega,J2 h2 h4⟩
theorem zne(a b:List Nat)(h:wlt a b=false)(h':wlt b a=false):a=b:=by
 have n1:¬ (wlt a b=true):=by rw[h];simp
 have n2:¬ (wlt b a=true):=by rw[h'];simp
 rw[wlt_iff] at n1 n2;have hl:a.length=b.length:=by omega
 have l1:¬ a<b:=λz=>n1 (.inr ⟨hl,z⟩);have l2:¬ b<a:=λz=>n2 (.inr ⟨hl.symm,z⟩);exact jd (J4.mp l2) (J4.mp l1)
theorem zxj(a b c:List Nat)(h:wlt a c=true):wlt a b=true\/wlt b c=true:=by
 cases h1:wlt a b with
 | true=>exact .inl rfl
 | false =>
   right
   cases h2:wlt b a with
   | true=>exact zk5 _ _ _ h2 h
   | false=>rw[<- zne a b h1 h2];exact h
theorem zmt{α:Type}[BEq α][LawfulBEq α]{l m:List α}(h:l.Nodup)(h':m.Nodup)(e:∀ x,x ∈ l↔x ∈ m):l.Perm m:=by
 rw[Y4];intro a;rw[h.count,h'.count]
 by_cases z:a ∈ l
 ·rw[GQ z,GQ ((e a).mp z)]
 ·rw[GT z,GT λq=>z ((e a).mpr q)]
theorem zq3{l m:List (List Nat)}(h:l.Pairwise λa b=>wlt a b=true)(h':m.Pairwise λa b=>wlt a b=true)(e:∀ x,x ∈ l↔x ∈ m):l=m:=by
 have nd:∀ {l:List (List Nat)},l.Pairwise (λa b=>wlt a b=true)->l.Nodup:=λh=>h.imp λ{a b} z e=>by subst e;rw[zd6] at z;cases z
 refine JR (le:=λa b=>wlt a b=true) (λa b _ _ z1 z2=>?_) h h' (zmt (nd h) (nd h') e);have:=zk5 _ _ _ z1 z2;rw[zd6] at this;cases this
end L6
namespace L3
open PySem PySem.Spec
open PyProof.Rows hiding St
open L2
abbrev tS(w:List Nat):Ve := .str (tx w)
def Sml(w:List Nat):Prop:=w.length<=100/\∀ c ∈ w,c<128
theorem zrq{w:List Nat}(h:Sml w):PyData.strOk (tx w)=true:=by
 rw[strOk_iff];intro c hc;rw[zbe] at hc;have:=h.2 c hc;omega
mutual
def solid:Ve->Bool
 | .none=>true
 | .int _=>true
 | .str _=>true
 | .tuple ds=>solids ds
 | _=>false
def solids:List Ve->Bool
 | []=>true
 | d::ds=>solid d && solids ds
end
mutual
theorem eqv_solid:∀ d e:Ve,solid d=true->solid e=true->(PyData.eqv d e=true↔d=e)
 | .none,e,_,h=>by cases e <;> simp[PyData.eqv,solid] at *
 | .int i,e,_,h=>by cases e <;> simp[PyData.eqv,solid] at *
 | .str x,e,_,h=>by cases e <;> simp[PyData.eqv,solid] at *
 | .tuple ds,e,h0,h=>by
   cases e with
   | tuple es =>
     have:=ze5 ds es (by simpa[solid] using h0) (by simpa[solid] using h);simp only[PyData.eqv];rw[this];exact⟨λz=>by rw[z],λz=>by cases z;rfl⟩
   | none=>simp[PyData.eqv]
   | int _=>simp[PyData.eqv]
   | str _=>simp[PyData.eqv]
   | bool _=>simp[solid] at h
   | list _=>simp[solid] at h
   | dict _=>simp[solid] at h
 | .bool _,_,h,_=>by simp[solid] at h
 | .list _,_,h,_=>by simp[solid] at h
 | .dict _,_,h,_=>by simp[solid] at h
theorem ze5:∀ ds es:List Ve,solids ds=true->solids es=true->(PyData.eqvAll ds es=true↔ds=es)
 | [],[],_,_=>by simp[PyData.eqvAll]
 | [],_::_,_,_=>by simp[PyData.eqvAll]
 | _::_,[],_,_=>by simp[PyData.eqvAll]
 | d::ds,e::es,h,h'=>by
   simp only[solids,Q5] at h h';simp only[PyData.eqvAll,Q5];rw[eqv_solid d e h.1 h'.1,ze5 ds es h.2 h'.2];simp
end
structure Nice (n b:Nat) (d:Ve):Prop where
 lay:d.canLay0=true
 sh:d.showable=true
 sho:d.leavesShort 13=true
 dep:d.depth<=n
 bul:d.bulk<=b
 sol:solid d=true
theorem zun{x:Str}{b:Nat}(h:PyData.strOk x=true)(hb:x.length<=b):Nice 0 b (.str x):=⟨h,by simp[PyData.showable],zsk h,Qc _,hb,rfl⟩
theorem zt0{v:List Nat}{b:Nat}(h:∀ c ∈ v,c<1000)(hb:v.length<=b):Nice 0 b (tS v):=zun (by
 rw[strOk_iff];intro c hc;rw[zbe] at hc;have:=h c hc
 omega) (by rw[zb5];exact hb)
theorem zhv{α:Type}{f:α->Ve}:∀ {l:List α},(∀ a ∈ l,solid (f a)=true)->solids (l.map f)=true
 | [],_=>rfl
 | a::l,h=>by rw[Qn,solids,h a Qt,zhv λx hx=>h x (Qb _ hx)];rfl
theorem zl8{α:Type}{f:α->Ve}{l:List α}{n b m:Nat}(h:∀ a ∈ l,Nice n b (f a))(hl:l.length<=m):Nice (n+1) (m * (b+1)) (.tuple (l.map f)):=by
 refine⟨zc4 λa ha=>(h a ha).lay,?_,?_,?_,?_,?_⟩
 ·rw[PyData.showable];exact zgp λa ha=>(h a ha).sh
 ·rw[PyData.leavesShort];exact zfn λa ha=>(h a ha).sho
 ·rw[PyData.depth];have:=zdu (f:=f) (n:=n) (l:=l) λa ha=>(h a ha).dep;omega
 ·rw[PyData.bulk];have:=zgq (f:=f) (n:=b) (l:=l) λa ha=>(h a ha).bul;exact QH this (Yw _ hl)
 ·rw[solid];exact zhv λa ha=>(h a ha).sol
theorem Nice.okD{n b:Nat}{d:Ve}(h:Nice n b d)(hn:n<=60:=by decide):L3.okD d=true:=by
 unfold L3.okD;rw[h.lay];have:=h.dep;simp;omega
theorem zje{ds:List Ve}{i:Nat}{d:Ve}(h:ds[i]? = some d):idxF (.list ds) (.int (i:Nat))=some (.o d):=by
 show(atI ds _).map R.o=_;rw[zod (v:=d) h];rfl
theorem zon{a b:List Ve}(h:a.length+b.length<=16777216):addF (.list a) (.list b)=some (.n (a++b)):=by
 show(if a.length+b.length<=sizeLine then some (R.n (a++b)) else none)=_;rw[GQ (by rw[Vj];exact h)]
end L3
namespace L6
structure WO {α:Type} (blt:α->α->Bool):Prop where
 irr:∀ a,blt a a=false
 tr:∀ a b c,blt a b=true->blt b c=true->blt a c=true
 neg:∀ a b c,blt a c=true->blt a b=true\/blt b c=true
section
variable {α : Type} {blt : α → α → Bool} {k : Nat → α}
def Rk(blt:α->α->Bool)(k:Nat->α)(a b:Nat):Prop:=blt (k a) (k b)=true\/(blt (k b) (k a)=false/\a<b)
theorem Rk.trans(W:WO blt){a b c:Nat}(h:Rk blt k a b)(h':Rk blt k b c):Rk blt k a c:=by
 rcases h with h|⟨h,l⟩ <;> rcases h' with h'|⟨h',l'⟩
 ·exact .inl (W.tr _ _ _ h h')
 ·rcases W.neg _ (k c) _ h with z|z
  ·exact .inl z
  ·rw[h'] at z;cases z
 ·rcases W.neg _ (k a) _ h' with z|z
  ·rw[h] at z;cases z
  ·exact .inl z
 ·refine .inr ⟨?_,by omega⟩
  cases e:blt (k c) (k a) with
  | false=>rfl
  | true =>
    rcases W.neg _ (k b) _ e with z|z
    ·rw[h'] at z;cases z
    ·rw[h] at z;cases z
theorem Rk.le(W:WO blt){a b:Nat}(h:Rk blt k a b):blt (k b) (k a)=false:=by
 rcases h with h|⟨h,_⟩
 ·cases e:blt (k b) (k a) with
  | false=>rfl
  | true=>have:=W.tr _ _ _ h e;rw[W.irr] at this;cases this
 ·exact h
theorem zeu(W:WO blt){x y z:α}(h:blt x y=true)(h':blt z y=false):blt x z=true:=by
 rcases W.neg _ z _ h with e|e
 ·exact e
 ·rw[h'] at e;cases e
theorem zf9(W:WO blt){x y z:α}(h:blt y x=false)(h':blt y z=true):blt x z=true:=by
 rcases W.neg _ x _ h' with e|e
 ·rw[h] at e;cases e
 ·exact e
theorem zck(W:WO blt){x y z:α}(h:blt y x=false)(h':blt z y=false):blt z x=false:=by
 cases e:blt z x with
 | false=>rfl
 | true =>
   rcases W.neg _ y _ e with q|q
   ·rw[h'] at q;cases q
   ·rw[h] at q;cases q
def Up(blt:α->α->Bool)(k:Nat->α)(ix:Nat->Nat)(m:Nat):Prop:=∀ i j,i<j->j<m->Rk blt k (ix i) (ix j)
def Dn(blt:α->α->Bool)(k:Nat->α)(ix:Nat->Nat)(m:Nat):Prop:=∀ i j,i<j->j<m->Rk blt k (ix j) (ix i)
structure Pre (ix:Nat->Nat) (m:Nat):Prop where
 lt:∀ i,i<m->ix i<m
 id:∀ i,m<=i->ix i=i
theorem Pre.more{ix:Nat->Nat}{m n:Nat}(h:Pre ix m)(hm:m<=n):Pre ix n :=
 ⟨λi hi=>by
  by_cases z:i<m
  ·have:=h.lt i z;omega
  ·rw[h.id i (by omega)];exact hi,λi hi=>h.id i (by omega)⟩
theorem Pre.idf:Pre (λi=>i) m:=⟨λ_ h=>h,λ_ _=>rfl⟩
def mixF(ix:Nat->Nat)(i j:Nat):Nat->Nat:=λp=>if i<=p/\p<j then ix (i+j - 1 - p) else ix p
def bubF(ix:Nat->Nat)(s l:Nat):Nat->Nat:=λp=>if p=l then ix s else if l<p/\p<=s then ix (p - 1) else ix p
theorem Pre.mix{ix:Nat->Nat}{m i j:Nat}(h:Pre ix m)(hj:j<=m):Pre (mixF ix i j) m:=by
 refine⟨λp hp=>?_,λp hp=>?_⟩
 ·unfold mixF
  split
  ·exact h.lt _ (by omega)
  ·exact h.lt _ hp
 ·unfold mixF;rw[GT (by omega)];exact h.id p hp
theorem Pre.bub{ix:Nat->Nat}{s l:Nat}(h:Pre ix s)(hl:l<=s):Pre (bubF ix s l) (s+1):=by
 refine⟨λp hp=>?_,λp hp=>?_⟩
 ·unfold bubF
  split
  ·rw[h.id s (Qc _)];omega
  ·split
   ·have:=h.lt (p - 1) (by omega);omega
   ·have:=h.lt p (by omega);omega
 ·unfold bubF;rw[GT (by omega),GT (by omega)];exact h.id p (by omega)
theorem zr2{ix:Nat->Nat}(W:WO blt){m:Nat}(h:Up blt k ix m)(hm:0<m)(n:Rk blt k (ix (m - 1)) (ix m)):Up blt k ix (m+1):=λi j hij hj=>by
 by_cases e:j<m
 ·exact h i j hij e
 ·have:j=m:=by omega
  subst this
  by_cases e2:i=j - 1
  ·subst e2;exact n
  ·exact(h i (j - 1) (by omega) (by omega)).trans W n
theorem z0w{ix:Nat->Nat}{m:Nat}(h:Dn blt k ix m):Up blt k (mixF ix 0 m) m:=λi j hij hj=>by
 unfold mixF;rw[GQ (by omega),GQ (by omega)];exact h _ _ (by omega) (by omega)
theorem z1j{ix:Nat->Nat}{s l:Nat}(h:Up blt k ix s)(p:Pre ix s)(hl:l<=s)(lo:∀ i,i<l->blt (k s) (k (ix i))=false)(hi:∀ i,l<=i->i<s->blt (k s) (k (ix i))=true):Up blt k (bubF ix s l) (s+1):=by
 have es:=p.id s (Qc _);intro i j hij hj;unfold bubF
 by_cases a:i=l
 ·rw[GQ a,GT (by omega),GQ (by omega),es];exact .inl (hi _ (by omega) (by omega))
 ·rw[GT a]
  by_cases b:l<i/\i<=s
  ·rw[GQ b,GT (by omega),GQ (by omega)];exact h _ _ (by omega) (by omega)
  ·rw[GT b]
   by_cases c:j=l
   ·rw[GQ c,es];exact .inr ⟨lo i (by omega),p.lt i (by omega)⟩
   ·rw[GT c]
    by_cases d:l<j/\j<=s
    ·rw[GQ d];exact h _ _ (by omega) (by omega)
    ·rw[GT d];exact h _ _ (by omega) (by omega)
structure Des (blt:α->α->Bool) (k:Nat->α) (ix:Nat->Nat) (m q:Nat):Prop where
 le:q+1<=m
 up:∀ i j,i<j->j<m->i+(q+1)<m->Rk blt k (ix j) (ix i)
 far:∀ i j,i+(q+1)<m->m<=j+(q+1)->j<m->blt (k (ix j)) (k (ix i))=true
 al:∀ i j,m<=i+(q+1)->i<j->j<m->blt (k (ix i)) (k (ix j))=false/\blt (k (ix j)) (k (ix i))=false/\ix i<ix j
theorem Des.turn{ix:Nat->Nat}{m q:Nat}(h:Des blt k ix m q):Dn blt k (mixF ix (m - (q+1)) m) m:=by
 intro i j hij hj;have:=h.le;unfold mixF
 by_cases a:m - (q+1)<=i/\i<m
 ·rw[GQ a,GQ (by omega)];obtain⟨h1,h2,h3⟩:=h.al (m - (q+1)+m - 1 - j) (m - (q+1)+m - 1 - i) (by omega) (by omega) (by omega);exact .inr ⟨h2,h3⟩
 ·rw[GT a]
  by_cases b:m - (q+1)<=j/\j<m
  ·rw[GQ b];exact h.up _ _ (by omega) (by omega) (by omega)
  ·rw[GT b];exact h.up _ _ hij hj (by omega)
theorem Des.dn{ix:Nat->Nat}{m:Nat}(h:Des blt k ix m 0):Dn blt k ix m:=λi j hij hj=>h.up i j hij hj (by omega)
theorem zgg{ix:Nat->Nat}(W:WO blt){m:Nat}(h:Dn blt k ix m)(hm:0<m)(n:blt (k (ix m)) (k (ix (m - 1)))=true):Des blt k ix (m+1) 0:=by
 have hb:∀ i,i<m->blt (k (ix m)) (k (ix i))=true:=λi hi=>by
  by_cases e:i=m - 1
  ·subst e;exact n
  ·exact zeu W n ((h i (m - 1) (by omega) (by omega)).le W)
 refine⟨by omega,λi j hij hj _=>?_,λi j h1 h2 h3=>?_,λi j h1 h2 h3=>by omega⟩
 ·by_cases e:j<m
  ·exact h i j hij e
  ·have:j=m:=by omega
   subst this;exact .inl (hb i hij)
 ·have:j=m:=by omega
  subst this;exact hb i (by omega)
theorem z1y{ix:Nat->Nat}(W:WO blt){m q:Nat}(h:Des blt k ix m q)(p:Pre ix m)(n1:blt (k (ix m)) (k (ix (m - 1)))=false)(n2:blt (k (ix (m - 1))) (k (ix m))=false):Des blt k ix (m+1) (q+1):=by
 have hl:=h.le;have em:=p.id m (Qc _)
 have key:∀ i,m<=i+(q+1)->i<m->blt (k (ix i)) (k (ix m))=false/\blt (k (ix m)) (k (ix i))=false:=λi h1 h2=>by
  by_cases e:i=m - 1
  ·subst e;exact⟨n2,n1⟩
  ·obtain⟨a,b,_⟩:=h.al i (m - 1) h1 (by omega) (by omega);exact⟨zck W n2 a,zck W b n1⟩
 refine⟨by omega,λi j hij hj hi=>?_,λi j h1 h2 h3=>?_,λi j h1 h2 h3=>?_⟩
 ·by_cases e:j<m
  ·exact h.up i j hij e (by omega)
  ·have:j=m:=by omega
   subst this;exact .inl (zf9 W n2 (h.far i (j - 1) (by omega) (by omega) (by omega)))
 ·by_cases e:j<m
  ·exact h.far i j (by omega) (by omega) e
  ·have:j=m:=by omega
   subst this;exact zf9 W n2 (h.far i (j - 1) (by omega) (by omega) (by omega))
 ·by_cases e:j<m
  ·exact h.al i j (by omega) h2 e
  ·have:j=m:=by omega
   subst this;obtain⟨a,b⟩:=key i (by omega) h2;refine⟨a,b,?_⟩;rw[em];exact p.lt i h2
structure Bij (ix:Nat->Nat) (n:Nat):Prop where
 lt:∀ i,i<n->ix i<n
 inj:∀ i j,i<n->j<n->ix i=ix j->i=j
 sur:∀ p,p<n->∃ i,i<n/\ix i=p
theorem Bij.idf{n:Nat}:Bij (λi=>i) n:=⟨λ_ h=>h,λ_ _ _ _ e=>e,λp h=>⟨p,h,rfl⟩⟩
theorem Bij.comp{ix f:Nat->Nat}{n:Nat}(h:Bij ix n)(g:Bij f n):Bij (λp=>ix (f p)) n :=
 ⟨λi hi=>h.lt _ (g.lt i hi),λi j hi hj e=>g.inj i j hi hj (h.inj _ _ (g.lt i hi) (g.lt j hj) e),λp hp=>by
  obtain⟨i,hi,e⟩:=h.sur p hp;obtain⟨j,hj,e'⟩:=g.sur i hi
  exact⟨j,hj,by rw[e',e]⟩⟩
theorem Bij.of{f g:Nat->Nat}{n:Nat}(a:∀ i,i<n->f i<n)(b:∀ i,i<n->g i<n)(c:∀ i,i<n->g (f i)=i)(d:∀ i,i<n->f (g i)=i):Bij f n :=
 ⟨a,λi j hi hj e=>by rw[<- c i hi,e,c j hj],λp hp=>⟨g p,b p hp,d p hp⟩⟩
def swF(i j p:Nat):Nat:=if i<=p/\p<j then i+j - 1 - p else p
def bbF(s l p:Nat):Nat:=if p=l then s else if l<p/\p<=s then p - 1 else p
def bbG(s l p:Nat):Nat:=if p=s then l else if l<=p/\p<s then p+1 else p
theorem zq2{i j n p:Nat}(hj:j<=n)(hp:p<n):swF i j p<n:=by unfold swF;split <;> omega
theorem zro(i j p:Nat):swF i j (swF i j p)=p:=by
 unfold swF
 by_cases a:i<=p/\p<j
 ·rw[GQ a,GQ (by omega)];omega
 ·rw[GT a,GT a]
theorem Bij.mix{ix:Nat->Nat}{n i j:Nat}(h:Bij ix n)(hj:j<=n):Bij (mixF ix i j) n:=by
 have e:mixF ix i j=λp=>ix (swF i j p):=by
  funext p;unfold mixF swF
  split <;> rfl
 rw[e];exact h.comp (.of (g:=swF i j) (λp hp=>zq2 hj hp) (λp hp=>zq2 hj hp) (λp _=>zro i j p) λp _=>zro i j p)
theorem Bij.bub{ix:Nat->Nat}{n s l:Nat}(h:Bij ix n)(hs:s<n)(hl:l<=s):Bij (bubF ix s l) n:=by
 have e:bubF ix s l=λp=>ix (bbF s l p):=by
  funext p;unfold bubF bbF
  split
  ·rfl
  ·split <;> rfl
 rw[e];refine h.comp (.of (g:=bbG s l) (λp hp=>?_) (λp hp=>?_) (λp hp=>?_) λp hp=>?_)
 ·unfold bbF;repeat' split
  all_goals omega
 ·unfold bbG;repeat' split
  all_goals omega
 ·unfold bbF bbG;repeat' split
  all_goals omega
 ·unfold bbF bbG;repeat' split
  all_goals omega
theorem Bij.perm{ix:Nat->Nat}{n:Nat}(h:Bij ix n):((Qx n).map ix).Perm (Qx n):=by
 rw[Y4];intro a
 have nd:((Qx n).map ix).Nodup:=by
  unfold List.Nodup;rw[Zw,QR];intro i j hi hj hij e;rw[QF] at hi hj;rw[Zo,Zo] at e;have:=h.inj i j hi hj e;omega
 rw[nd.count,je.count]
 have:(a ∈ (Qx n).map ix)↔a ∈ Qx n:=by
  rw[Qp,QK];constructor
  ·rintro⟨i,hi,rfl⟩;exact h.lt i (QK.mp hi)
  ·intro ha;obtain⟨i,hi,e⟩:=h.sur a ha;exact⟨i,QK.mpr hi,e⟩
 by_cases z:a ∈ Qx n
 ·rw[GQ z,GQ (this.mpr z)]
 ·rw[GT z,GT λq=>z (this.mp q)]
theorem zzf{γ:Type}(g:Nat->γ)(n:Nat):((Qx n).map g).zipIdx=(Qx n).map λi=>(g i,i):=by
 refine JY (by simp) λi h1 h2=>?_;simp
theorem zpm{γ:Type}{key:γ->α}{g:Nat->γ}{n:Nat}{ix:Nat->Nat}(W:WO blt)(up:Up blt (λi=>key (g i)) ix n)(b:Bij ix n) :
 (Qx n).map (λi=>g (ix i))=((Qx n).map g).mergeSort (λp q=>!blt (key q) (key p)):=by
 rw[<- List.mergeSort_zipIdx,zzf];have e:(Qx n).map (λi=>g (ix i))=((Qx n).map λi=>(g (ix i),ix i)).map (·.1):=by rw[QG];rfl
 rw[e];refine Tb (JZ (λx:γ × Nat=>x.1)) ?_
 have tr:∀ a b c:γ,(!blt (key b) (key a))=true->(!blt (key c) (key b))=true->(!blt (key c) (key a))=true:=λa b c h1 h2=>by
  rw[Zv] at h1 h2 ⊢;exact zck W h1 h2
 have tt:∀ a b:γ,((!blt (key b) (key a)) || (!blt (key a) (key b)))=true:=λa b=>by
  cases h1:blt (key b) (key a) with
  | false=>rfl
  | true =>
    cases h2:blt (key a) (key b) with
    | false=>rfl
    | true=>have:=W.tr _ _ _ h1 h2;rw[W.irr] at this;cases this
 have m1:∀ x,x ∈ ((Qx n).map λi=>(g (ix i),ix i))->x.1=g x.2:=λx hx=>by
  obtain⟨i,_,rfl⟩:=Qp.mp hx;rfl
 have m2:∀ x,x ∈ (((Qx n).map λi=>(g i,i)).mergeSort (JS λp q=>!blt (key q) (key p)))->x.1=g x.2:=λx hx=>by
  rw[(ZM _ _).mem_iff] at hx;obtain⟨i,_,rfl⟩:=Qp.mp hx;rfl
 refine JR (le:=λa b=>JS (λp q=>!blt (key q) (key p)) a b=true) (λx y hx hy h1 h2=>?_) ?_ (Ya (List.zipIdxLE_trans tr) (List.zipIdxLE_total tt) _) ?_
 ·have e1:=m1 x hx;have e2:=m2 y hy
  have e3:x.2=y.2:=by
   unfold JS at h1 h2;dsimp only at h1 h2;cases a:blt (key y.1) (key x.1) <;> cases c:blt (key x.1) (key y.1) <;> simp[a,c] at h1 h2;omega
  exact YK (by rw[e1,e2,e3]) e3
 ·rw[Zw,QR];intro i j hi hj hij;rw[QF] at hi hj;rw[Zo,Zo];have r:=up i j hij hj;have rl:=r.le W;unfold JS
  have key2:∀ (x y:Bool) (d:Bool),x=false->(y=true\/d=true)->(if(!x)=true then(if(!y)=true then d else true) else false)=true:=by
   intro x y d hx hy;subst hx;cases y
   ·rcases hy with hy|hy
    ·cases hy
    ·simpa using hy
   ·rfl
  refine key2 _ _ _ rl ?_;rcases r with r|⟨r,l⟩
  ·exact .inl r
  ·exact .inr (GW (Jc l))
 ·refine List.Perm.trans ?_ (ZM _ _).symm;have:=b.perm.map λi=>(g i,i);rw[QG] at this;exact this
end
end L6
namespace L6
open PySem PyProof.Rows
section
variable {prog : Vf} {w : Vk} {A : Vl} {E : Vb → Vc → Prop} {s : Vc} {α : Type} {blt : α → α → Bool} {k : Nat → α} {a₀ : Array Vu} {kd : VE} {ix : Nat → Nat} {st : Vt}
def zbo(prog:Vf)(w:Vk)(A:Vl)(s:Vc)(kd:VE)(a₀:Array Vu)(blt:α->α->Bool)(k:Nat->α):Prop :=
 ∀ (i j:Nat) (x p y q:Vb) (E:Vb->Vc->Prop) (Q:Bool->Vc->Prop),a₀[i]? = some (x,p)->a₀[j]? = some (y,q)->Q (blt (k i) (k j)) s->wpAny (model prog w) A (keyLt' kd x y) Q E s
structure Sb (a₀:Array Vu) (kd:VE) (ix:Nat->Nat) (st:Vt):Prop where
 sz:(arrOf st).size=a₀.size
 at_:∀ i,i<a₀.size->(arrOf st)[i]? = a₀[ix i]?
 bj:Bij ix a₀.size
 fa:VF st=none
 pe:pendingOf st = #[]
 ki:kindOf st=kd
end
section
variable {prog : Vf} {w : Vk} {A : Vl} {E : Vb → Vc → Prop} {s : Vc}
structure Ord {α:Type} (blt:α->α->Bool) (k:Nat->α) (n:Nat) (ix:Nat->Nat):Prop where
 bj:Bij ix n
 up:Up blt k ix n
def zbj(vs:List Vb)(ix:Nat->Nat):List Vb:=(Qx vs.length).map λi=>vs.getD (ix i) .none
structure KeysOk {α:Type} (prog:Vf) (w:Vk) (A:Vl) (s:Vc) (ks vs:List Vb) (blt:α->α->Bool) (k:Nat->α):Prop where
 wo:WO blt
 kd:2<=vs.length->∃ kd:VE,(∀ (E:Vb->Vc->Prop) (Q:VE->Vc->Prop),Q kd s->wpAny (model prog w) A (keyKind' ks.toArray) Q E s)/\zbo prog w A s kd (ks.toArray.zip vs.toArray) blt k
theorem zch{ks vs:List Vb}(hl:ks.length=vs.length){i:Nat}{p:Vu}(h:(ks.toArray.zip vs.toArray)[i]? = some p):ks[i]? = some p.1/\vs[i]? = some p.2:=by
 have:(ks.zip vs)[i]? = some p:=by
  have e:ks.toArray.zip vs.toArray=(ks.zip vs).toArray:=by simp
  rw[e] at h;simpa using h
 rw[JK] at this;exact this
theorem zom{vs:List Vb}{ks:List Vb}(hl:ks.length=vs.length){ix:Nat->Nat}(bj:Bij ix vs.length){arr:Array Vu}(hz:arr.size=vs.length)(h:∀ i,i<vs.length->arr[i]? = (ks.toArray.zip vs.toArray)[ix i]?):arr.map (·.2)=(zbj vs ix).toArray:=by
 refine Array.ext (by simp[zbj,hz]) λi h1 h2=>?_;have hi:i<vs.length:=by simpa[zbj] using h2
 have hx:=bj.lt i hi;have h3:=h i hi;obtain⟨p,hp⟩:∃ p,arr[i]? = some p:=⟨_,Q1 (by omega)⟩;have h4:=(zch hl (h3.symm.trans hp)).2;have e1:(arr.map (·.2))[i]? = some p.2:=by simp[hp]
 have e2:(zbj vs ix).toArray[i]? = some p.2:=by
  simp only[zbj,Yo,Qk,Jf hi,ZC];rw[Qq,h4];rfl
 rw[Q1 h1] at e1;rw[Q1 h2] at e2;exact QS (e1.trans e2.symm)
end
end L6
namespace L6
open PySem PyProof.Rows PySem.W
theorem z0l:WO (λa b:Int=>decide (a<b)):=⟨λa=>by simp,λa b c h h'=>by simp at *; omega,λa b c h=>by simp at *; omega⟩
theorem z1g:WO (λa b:List Nat=>decide (a<b)):=by
 refine⟨λa=>by simp[Ja],λa b c h h'=>?_,λa b c h=>?_⟩
 ·simp only[GY] at *; exact J2 h h'
 ·simp only[GY] at *
  by_cases z:a<b
  ·exact .inl z
  ·exact .inr (Y5 (J4.mp z) h)
def plt(a b:Int × List Nat):Bool:=decide (a.1<b.1) || (decide (a.1=b.1) && decide (a.2<b.2))
theorem zfy{a b:Int × List Nat}:plt a b=true↔a.1<b.1\/(a.1=b.1/\a.2<b.2):=by simp[plt]
theorem zri:WO plt:=by
 refine⟨λa=>by simp[plt,Ja],λa b c h h'=>?_,λa b c h=>?_⟩
 ·rw[zfy] at *;rcases h with h|⟨h1,h2⟩ <;> rcases h' with h'|⟨h3,h4⟩
  ·left;omega
  ·left;omega
  ·left;omega
  ·right;exact⟨by omega,J2 h2 h4⟩
 ·rw[zfy,zfy];rw[zfy] at h
  by_cases z1:a.1<b.1
  ·exact .inl (.inl z1)
  ·by_cases z2:b.1<c.1
   ·exact .inr (.inl z2)
   ·rcases h with h|⟨h1,h2⟩
    ·omega
    ·have e1:a.1=b.1:=by omega
     have e2:b.1=c.1:=by omega
     by_cases z:a.2<b.2
     ·exact .inl (.inr ⟨e1,z⟩)
     ·exact .inr (.inr ⟨e2,Y5 (J4.mp z) h2⟩)
theorem zyr(a b:List Nat):plt ((a.length:Nat),a) ((b.length:Nat),b)=wlt a b:=by
 unfold plt wlt
 congr 1
 ·exact decide_eq_decide.mpr (by show((a.length:Nat):Int)<((b.length:Nat):Int)↔_;omega)
 ·congr 1
  exact decide_eq_decide.mpr (by show((a.length:Nat):Int)=((b.length:Nat):Int)↔_;omega)
section
variable {prog : Vf} {w : Vk} {A : Vl} {s : Vc} {ks vs : List Vb}
theorem zvk{ns:List Int}(hl:ks.length=vs.length)(hk:∀ (i:Nat) v,ks[i]? = some v->∃ t,v = .int (ns.getD i 0) t):KeysOk prog w A s ks vs (λa b:Int=>decide (a<b)) (λi=>ns.getD i 0):=by
 refine⟨z0l,λh2=>⟨GN,λE Q q=>?_,λi j x p y q E Q hi hj h=>?_⟩⟩
 ·refine kas_kind (T := .type "int") (by omega) (λv hv=>?_) (by rfl) (by rfl) q;obtain⟨i,hi⟩:=ZV.mp hv;obtain⟨t,rfl⟩:=hk i v hi;exact .now
 ·obtain⟨t,rfl⟩:=hk i x (zch hl hi).1;obtain⟨u,rfl⟩:=hk j y (zch hl hj).1;exact kat_lt_int h
theorem zls{xs:List Str}(hl:ks.length=vs.length)(hk:∀ (i:Nat) v,ks[i]? = some v->∃ t,v = .str (xs.getD i Str.empty) t):KeysOk prog w A s ks vs (λa b:List Nat=>decide (a<b)) (λi=>(xs.getD i Str.empty).cps.toList):=by
 refine⟨z1g,λh2=>⟨GN,λE Q q=>?_,λi j x p y q E Q hi hj h=>?_⟩⟩
 ·refine kas_kind (T := .type "str") (by omega) (λv hv=>?_) (by rfl) (by rfl) q;obtain⟨i,hi⟩:=ZV.mp hv;obtain⟨t,rfl⟩:=hk i v hi;exact .now
 ·obtain⟨t,rfl⟩:=hk i x (zch hl hi).1;obtain⟨u,rfl⟩:=hk j y (zch hl hj).1;exact kas_lt_str h
def zlt(h:Heap)(v:Vb)(n:Int)(x:Str):Prop:=∃ (a:Addr) (o:Obj) (t u:Tok) (e:Nat),v = .ref a/\h.get? a=some o/\o.cls = .type "tuple" /\ o.data = .seq #[.int n t,.str x u] e
theorem zre{ps:List (Int × Str)}(hl:ks.length=vs.length)(hp:ps.length=ks.length)(hk:∀ (i:Nat) v p,ks[i]? = some v->ps[i]? = some p->zlt s.heap v p.1 p.2) :
 KeysOk prog w A s ks vs plt (λi=>((ps.getD i (0,Str.empty)).1,(ps.getD i (0,Str.empty)).2.cps.toList)):=by
 have hk':∀ (i:Nat) v,ks[i]? = some v->zlt s.heap v (ps.getD i (0,Str.empty)).1 (ps.getD i (0,Str.empty)).2:=λi v e=>by
  have hi:i<ps.length:=by rw[hp];exact(Qi.mp e).1
  have:=hk i v ps[i] e (Qa hi);rw[Qq,Qa hi];exact this
 refine⟨zri,λh2=>⟨tuples' true,λE Q q=>?_,λi j x p y q E Q hi hj h=>?_⟩⟩
 ·have go:∀ l:List Vb,(∀ v ∈ l,∃ n x,zlt s.heap v n x)->∃ fs:List Vb,KatTups s.heap l fs/\fs.length=l.length/\∀ f ∈ fs,∃ n t,f = .int n t:=by
   intro l
   induction l with
   | nil=>exact λ_=>⟨[],.nil,rfl,λ_ h=>by cases h⟩
   | cons v l ih =>
     intro h;obtain⟨fs,z1,z2,z3⟩:=ih λv' hv=>h v' (Qb _ hv);obtain⟨n,x,a,o,t,u,e,rfl,ho,hc,hd⟩:=h v Qt;refine⟨.int n t::fs,.cons ho hc hd rfl z1,by simp[z2],λf hf=>?_⟩;rcases Qs.mp hf with rfl|hf
     ·exact⟨n,t,rfl⟩
     ·exact z3 f hf
  obtain⟨fs,z1,z2,z3⟩:=go ks λv hv=>by
   obtain⟨i,hi⟩:=ZV.mp hv;exact⟨_,_,hk' i v hi⟩
  refine kat_kind (T := .type "int") z1 (by omega) (λf hf=>?_) (by rfl) q;obtain⟨n,t,rfl⟩:=z3 f hf;exact .now
 ·obtain⟨a,o,t,u,e,rfl,ho,hc,hd⟩:=hk' i x (zch hl hi).1;obtain⟨a',o',t',u',e',rfl,ho',hc',hd'⟩:=hk' j y (zch hl hj).1;dsimp only at h;generalize (ps.getD i (0,Str.empty)).1=n at *;generalize (ps.getD i (0,Str.empty)).2=x at *;generalize (ps.getD j (0,Str.empty)).1=m at *;generalize (ps.getD j (0,Str.empty)).2=y at *;refine kat_lt ho hd ho' hd' (kat_cons (wpAny_eqBool_int ?_))
  by_cases en:n=m
  ·subst en;rw[show(n == n)=true by simp];refine kat_yes (kat_cons (wpAny_eqBool_str ?_))
   by_cases ex:x=y
   ·subst ex;rw[show decide (x=x)=true by simp];refine kat_yes (kat_nil ?_);simpa[plt,Ja] using h
   ·rw[GU ex];refine kat_no (kat_one _ _ ?_);have e1:plt (n,x.cps.toList) (n,y.cps.toList)=decide (x.cps.toList<y.cps.toList):=by simp[plt]
    rw[e1] at h;exact lt_str h
  ·rw[show(n == m)=false by simpa using en];refine kat_no ?_;have e1:plt (n,x.cps.toList) (m,y.cps.toList)=decide (n<m):=by simp[plt,en]
   rw[e1] at h;exact oneLt_int h
end
end L6
namespace L2
open PySem PySem.Spec
open PyProof.Rows hiding St
section
variable {X : Cx} {pins : List (Addr × Obj)} {σ : St} {H : Hp} {s : Vc} {h' : Heap}
theorem Inv.adopt{q:Addr}{o:HO}{t':Nat}(I:Inv X pins σ H s)(fp:FpOk X pins H q)(k:∀ b u,b ≠ q->s.heap.get? b=some u->h'.get? b=some u)(new:ObjOk X.prog X.w (upd H q o) h' q o):Inv X pins σ (upd H q o) { s with heap:=h',toks:=t' }:=by
 obtain⟨f0,f1,f2,f3,f4,f5⟩:=fp;have nq:∀ c u,H c=some u->c ≠ q:=λc u e=>zbp e f0
 refine I.step (g':=s.gens) (d':=s.drawn) (ch := [q]) (λb hb=>?_) (λb o _ _ hc e _=>k b o (λz=>hc (by simp[z])) e) (λb o _ _ hc e _=>⟨o.slots,k b o (λz=>hc (by simp[z])) e⟩)
  (λb o hc _ n=>by rw[zaa (λz=>hc (by simp[z]))];exact n) (λb o hc e=>⟨o,k b o (λz=>hc (by simp[z])) e⟩) (λb xs e=>by rw[zaa (nq _ _ e)];exact e) (λb o u e=>by rw[zaa (nq _ _ e)];exact e)
  (λb ps e=>⟨#[],by rw[zaa (nq _ _ e),e];simp⟩) (λm hm=>?_) (λb u e=>?_) I.bare
 ·have e:b=q:=by simpa using hb
  subst e;exact⟨f3,f1,f4,f5⟩
 ·obtain⟨o,es,ep,ho,r⟩:=hm;exact⟨o,es,ep,k _ o (Zj f1) ho,r⟩
 ·by_cases hb:b=q
  ·subst hb;rw[zad] at e;cases e;exact new
  ·rw[zaa hb] at e;refine(I.hok b u e).stay (λc v hc r=>k c v ?_ r) (λc r=>by rw[zaa (nq _ _ r)];exact r) λc xs r=>by rw[zaa (nq _ _ r)];exact r
   rcases hc with z|z
   ·rw[z];exact hb
   ·exact nq _ _ z
theorem Room.in2{k:Nat}{A:Vl}(r:Room (k+1) A):Room k A.in1.in1 :=
 ⟨r.hd,by have:=r.dp;show A.depth+3 * k+5<_;omega,by have:=r.un;show A.units+1+1+16 * k+200<_;omega,r.gd⟩
theorem zyz{k:Nat}{f:Addr}{fd:VB}{ps:List Str}{sp:Sp}{Q:VK}{us:List Vb}{vs:List V}(F:FnOk X.prog X.w X.K X.mg X.base CX0 k f fd ps sp)(hr:Room (k+1) X.A)(hb:Binds X.K fd ps [])
 (I:Inv X pins σ H s) (r:Vals vs us) (h:sp vs H Q E0):wpAny (model X.prog X.w) X.A.in1.in1 (call (.ref f) us) (EP X pins σ Q) (λ_ _=>False) s:=by
 have hl:us.length=ps.length:=by rw[<- r.length];exact F.len _ _ _ _ h
 have bd:=hb s us I.kIn (by rw[QD];exact hl);rw[QD] at bd;refine G5 (Uq (F.run X.A.in1.in1 X.stack s H ⟨us,[]⟩ us vs Q E0 hr.in2 I.env0.in1.in1 bd r h) λr s' hq=>?_)
 cases r with
 | error e=>exact Z4 hq
 | ok fl =>
   cases fl with
   | ret u=>exact I.after hq
   | next=>exact Z4 hq
   | brk=>exact Z4 hq
   | cont=>exact Z4 hq
end
end L2
namespace L6
open PySem PySem.Spec
open PyProof.Rows hiding St
open L2 L3
def zk0(sp:Sp)(R:List V->Hp->Prop):List V->List V->Hp->Prop
 | [],ks,H=>R ks H
 | x::xs,ks,H=>sp [x] H (λk H'=>zk0 sp R xs (ks ++ [k]) H') E0
inductive KeysV (K:PySem.W.Frag) (H:Hp):List V->(α:Type)->(α->α->Bool)->(Nat->α)->Prop
 | int (ns:List Int):KeysV K H (ns.map V.int) Int (λa b=>decide (a<b)) (λi=>ns.getD i 0)
 | txt (xs:List Str):KeysV K H (xs.map V.str) (List Nat) (λa b=>decide (a<b)) (λi=>(xs.getD i Str.empty).cps.toList)
 | pair (ps:List (Int × Str)) (ks:List V) (hl:ps.length=ks.length) (h:∀ (i:Nat) v p,ks[i]? = some v->ps[i]? = some p->∃ a,v = .ref a/\SqT K H a [.int p.1,.str p.2]) :
  KeysV K H ks (Int × List Nat) plt (λi=>((ps.getD i (0,Str.empty)).1,(ps.getD i (0,Str.empty)).2.cps.toList))
def zew{α:Type}(d:α)(xs:List α)(ix:Nat->Nat):List α:=(Qx xs.length).map λi=>xs.getD (ix i) d
section
variable {X : Cx} {pins : List (Addr × Obj)} {σ : St} {H : Hp} {s : Vc}
theorem Vals.pick{xs:List V}{vs:List Vb}(r:Vals xs vs){ix:Nat->Nat}(bj:Bij ix vs.length):Vals (zew .non xs ix) (zbj vs ix):=by
 have hl:=r.length
 have go:∀ l:List Nat,(∀ i ∈ l,i<vs.length)->Vals (l.map λi=>xs.getD (ix i) .non) (l.map λi=>vs.getD (ix i) .none):=by
  intro l
  induction l with
  | nil=>exact λ_ => .nil
  | cons i l ih =>
    intro h;have hi:=bj.lt i (h i Qt);have e1:xs[ix i]? = some (xs.getD (ix i) .non):=by rw[Qq,Qa (by omega)];rfl
    obtain⟨u,hu,ru⟩:=Vals.get r e1;have e2:vs.getD (ix i) .none=u:=by rw[Qq,hu];rfl
    refine .cons ?_ (ih λj hj=>h j (Qb _ hj));show L2.RelV (xs.getD (ix i) .non) (vs.getD (ix i) .none);rw[e2];exact ru
 unfold zew zbj;rw[hl];exact go _ λi hi=>QK.mp hi
theorem zt5{α:Type}{blt:α->α->Bool}{k:Nat->α}{kvs:List V}{ks vs:List Vb}{A:Vl}(I:Inv X pins σ H s)(h:KeysV X.K H kvs α blt k)(r:Vals kvs ks)(hl:ks.length=vs.length):KeysOk X.prog X.w A s ks vs blt k:=by
 cases h with
 | int ns =>
   refine zvk hl λi v e=>?_;have hi:=(Qi.mp e).1;have hi':i<ns.length:=by have:=r.length;rw[Qe] at this;omega
   obtain⟨u,hu,ru⟩:=Vals.get r (i:=i) (x:=V.int ns[i]) (by rw[Qk,Qa hi'];rfl);rw[e] at hu;cases hu;obtain⟨t,rfl⟩:=ru;exact⟨t,by rw[Qq,Qa hi'];rfl⟩
 | txt xs =>
   refine zls hl λi v e=>?_;have hi:=(Qi.mp e).1;have hi':i<xs.length:=by have:=r.length;rw[Qe] at this;omega
   obtain⟨u,hu,ru⟩:=Vals.get r (i:=i) (x:=V.str xs[i]) (by rw[Qk,Qa hi'];rfl);rw[e] at hu;cases hu;obtain⟨t,rfl⟩:=ru;exact⟨t,by rw[Qq,Qa hi'];rfl⟩
 | pair ps _ hp hk =>
   refine zre hl (by rw[hp];exact r.length) λi v p e ep=>?_;have hi:=(Qi.mp e).1;have hi':i<kvs.length:=by rw[r.length];exact hi
   obtain⟨u,hu,ru⟩:=Vals.get r (Qa hi');rw[e] at hu;cases hu;obtain⟨a,ea,hs⟩:=hk i _ p (Qa hi') ep;rw[ea] at ru;cases ru;obtain⟨its,rv,⟨o,e1,c,n,d⟩,_⟩:=I.tuple hs
   cases rv with
   | cons r1 rv =>
     cases rv with
     | cons r2 rv =>
       cases rv;obtain⟨t,rfl⟩:=r1;obtain⟨u,rfl⟩:=r2;exact⟨a,o,t,u,n,rfl,e1,c,d⟩
end
end L6
namespace L3
open PySem PySem.Spec
open PyProof.Rows hiding St
open L2
theorem zmw:Vv "reversed" = some (.type "reversed"):=by decide +kernel
theorem IsS.sq{K:PySem.W.Frag}{F:Addr->Prop}{H:Hp}{v:V}{n:Nat}(h:IsS K F H v n):∃ a xs,v = .ref a/\xs.length=n/\SqL K H a xs:=by
 obtain⟨a,xs,e,l,⟨_,q⟩|q⟩:=h
 ·exact⟨a,xs,e,l,.inl q⟩
 ·exact⟨a,xs,e,l,q H⟩
def z2c(i:Nat)(m:Int):DE:=λρ Q=>∃ l:Nat,ρ[i]? = some (some (.scr l))/\Q (.o (.int (min (l:Int) m)))
section
variable {ι κ : Type} {P : Vf} {w : Vk} {K : PySem.W.Frag} {mg : Str → Option Vb} {base : Heap} {k : Nat} {X : ι → Cx} {O : κ → Ob} {a tg : Expr} {fa : DE} {pos p p2 p3 p4 px : Pos}
theorem z1x(n:Nat){x:Str}{m:Int}{jc:Nat}(C:Ctx3 P w K mg base k X)(B:Blt mg)(hm:0<=m:=by decide)(hN:∀ i,(X i).N[n]? = some x:=by intro i;rfl)(hv:∀ i,Vis (X i).env.scope x:=by intro i;first|exact Or.inl rfl|exact Or.inr (Or.inl rfl)|exact Or.inr (Or.inr rfl))
 (hd:(x == ("__debug__" : Str))=false:=by decide) (hcd:(x == ("__classdict__" : Str))=false:=by decide) (hg:∀ i,Gl (X i) "len" := by intro i;rfl)
 (he:∀ i,Vg [.Subscript (.Name x px) (.Slice none (some (.Constant (.int m) jc p4)) none p2) p3] (X i).env=(false,eval (.Subscript (.Name x px) (.Slice none (some (.Constant (.int m) jc p4)) none p2) p3) (X i).env)::Vg [] (X i).env:=by intro i;rfl) :
 E3 K X O (.Call (.Name "len" p) [.Subscript (.Name x px) (.Slice none (some (.Constant (.int m) jc p4)) none p2) p3] [] pos) (z2c n m):=by
 refine⟨_,λi=>zcq (X:=X i) (r:=λxs H Q=>∃ x n,xs = [x]/\LenV K x H n/\Q (.int n) H) (by have h:=zfb (X:=X i);rw[C.hK] at h;exact h) (hg i) (by rw[C.hmg];exact B.len) zha (zai (zgv (r:=rSlL K) (by have h:=sl_list (X:=X i);rw[C.hK] at h;exact h) (zag (hN i) (hv i) hd hcd) znt (zfz zar)) zaq (he i)) (by decide) (by decide) (he i) rfl,λj σ H ρ Q Qd S hf k=>?_⟩;obtain⟨l,e,q⟩:=hf;obtain⟨v,hv',sv⟩:=S.at_ n _ e;obtain⟨a,xs,rfl,hl,sq⟩:=IsS.sq sv;refine⟨_,hv',?_⟩;refine⟨m,rfl,a,xs,rfl,sq,λp hp=>⟨.ref p,(cutV xs none (some m)).length,rfl,.inl ⟨_,.of zad,rfl⟩,?_⟩⟩
 have e2:((cutV xs none (some m)).length:Int)=min (l:Int) m:=by
  have:=hl;simp only[cutV,HT.sIx,QJ,Q9]
  split <;> omega
 rw[e2];exact k _ _ (.o (.int _)) (.new S.ok hp _) (.int _) q
end
theorem zy2{P:Vf}{w:Vk}{K:PySem.W.Frag}{mg:Str->Option Vb}{base:Heap}{k:Nat}{st st0:Stmt}{rest:List Stmt}{N:List Str}{f₁:Addr}{fd₁:VB}(Fu:Fun K "law" "law" st f₁ fd₁)(S:FnScope ("_law_script" :: "_law_deal_here" :: N) ["_law_script"] (zaf st))
 (hs:za2 st=st0::rest)
 (first:∀ (f:Addr) (cdv:Vb) (A:Vl) (outer:List Env) (s:Vc) (H:Hp) (E:XK),Ctx3 P w K mg base k (zcj P w K mg base ("_law_script" :: "_law_deal_here" :: N) "law" (zaf st) f cdv A outer s H E) ->
  PS (zcj P w K mg base ("_law_script" :: "_law_deal_here" :: N) "law" (zaf st) f cdv A outer s H E ()) st0 (tAsg (zcv (zhi K) [] E0 (zaj (tVar 0) (zaj (tC (.int 0)) tNil))) (zao 1)))
 (body:∀ (f:Addr) (cdv:Vb) (A:Vl) (outer:List Env) (s:Vc) (H:Hp) (E:XK),Ctx3 P w K mg base k (zcj P w K mg base ("_law_script" :: "_law_deal_here" :: N) "law" (zaf st) f cdv A outer s H E) ->
  ∃ g,Ss3 K (zcj P w K mg base ("_law_script" :: "_law_deal_here" :: N) "law" (zaf st) f cdv A outer s H E) (λj:Addr × Addr=>zhd j.1 j.2) rest g/\∀ n:Nat,n<=63->g { nx:=λ_=>False,rt:=λr=>r = .o (.bool true) } (some (.scr n)::some .ob::Qh N.length none)) :
 FnOk P w K mg base CX0 (k+1) f₁ fd₁ ["_law_script"] (zhb K):=by
 refine Fu.ok S (λvs H Q E h=>by obtain⟨a,ns,rfl,_⟩:=h;rfl) (λcdv A outer s H vs Q E hr h=>?_);obtain⟨a,ns,rfl,hS,hl,q⟩:=h;have C:=zez (P:=P) (w:=w) (K:=K) (mg:=mg) (base:=base) (N := "_law_script" :: "_law_deal_here" :: N) (x := "law") (sc:=zaf st) (f:=f₁) (cdv:=cdv) (A:=A) (outer:=outer) (s:=s) (H:=H) (E:=E) hr;obtain⟨g,⟨t,h1,h2⟩,h3⟩:=body f₁ cdv A outer s H E C;refine⟨tSeq (tAsg (zcv (zhi K) [] E0 (zaj (tVar 0) (zaj (tC (.int 0)) tNil))) (zao 1)) t,?_,?_⟩
 ·rw[hs];exact za1 (first f₁ cdv A outer s H E C) (h1 ())
 ·refine⟨_,rfl,a,ns,rfl,hS,hl,λp l s left H' hp hln sm pa=>?_⟩;refine h2 (p,l) H' (λ_ _=>False) _ H' _ _ _ ⟨zqs p l,⟨s,0,left,pa⟩,⟨s,0,left,pa⟩,.refl _ _,λ_ _ _ z=>z.elim,λ_ _ z=>z.elim,λi r e=>?_,?_⟩ (h3 ns.length hl) ⟨λ_ _ _ _ _ _ z=>z.elim,λ_ _ _ _ _ _ z=>z.elim,λ_ _ _ _ _ _ z=>z.elim,λH' v r _ o e=>?_⟩
  ·match i with
   | 0 =>
     cases e;refine⟨_,rfl,a,ns.map V.int,rfl,by simp,?_⟩;rcases hS with (hS|⟨o,hS⟩)|hS
     ·exact .inl ⟨⟨λm=>by rcases m with rfl|rfl <;> simp_all,λ_ z=>z⟩,.inl (sm _ _ hS)⟩
     ·exact .inl ⟨⟨λm=>by rcases m with rfl|rfl <;> simp_all,λ_ z=>z⟩,.inr ⟨o,sm _ _ hS⟩⟩
     ·exact .inr λ_ => .inr hS
   | 1=>cases e;exact⟨_,rfl,rfl⟩
   | i+2 =>
     rw[ZO,ZO,QV] at e
     split at e <;> cases e
  ·rw[Zb];simp[L2.start]
  ·subst e;cases o;exact q H'
end L3
namespace SX
open PySem PySem.Spec PyProof.Rows
abbrev Es:=Array (Int × Vb)
def keyE(e:Int × Vb):Str:=strOf e.2
def keys(es:Es):List Str:=es.toList.map keyE
def byT(w:Vk):Bool:=w.params.followText "set-order"
structure Sx (w:Vk) (h:Heap) (a:Addr) (es:Es) (ep:Nat) (t:V2):Prop where
 at_:∃ o,h.get? a=some o/\o.ExactSet/\o.data = .set es ep t
 lt:es.size<scanBound
 fit:t.fits es.size=true
 led:t.led = !byT w
 pl:1<es.size->t.plain=false
structure Tx (P:Vf) (w:Vk) (h:Heap) (a:Addr) (es:Es) (ep:Nat) (t:V2):Prop extends Sx w h a es ep t where
 el:ElemsOf (PySem.strKind P w) es.toList
 nd:(keys es).Nodup
theorem zze(t:V2)(es:Es)(h:Int)(x:Vb):(layNew t es h x).2.1.led=t.led:=by
 unfold layNew
 cases t.freeSlot h with
 | none=>rfl
 | some p =>
   obtain⟨j,d⟩:=p;show((t.put j).1.orStandIn _).led=t.led;unfold SetTable.orStandIn
   split <;> rfl
theorem zys(t:V2)(es:Es)(n:Nat):(UK t es n).2.1.led=t.led/\(t.plain=false->(UK t es n).2.1.plain=false):=by
 unfold UK
 cases e:t.relaid (es.map (·.1)) n with
 | none=>exact⟨rfl,λ_=>rfl⟩
 | some p =>
   obtain⟨t',ord⟩:=p
   have:t'.led=t.led/\t'.plain=t.plain:=by
    unfold SetTable.relaid SetTable.laid at e
    cases q:SetTable.layClean (SetTable.sizeAbove n - 1) (es.map (·.1)) with
    | none=>rw[q] at e;cases e
    | some o=>rw[q] at e;cases e;exact⟨rfl,rfl⟩
   dsimp only
   split
   ·exact⟨this.1,λh=>this.2.trans h⟩
   ·exact⟨rfl,λ_=>rfl⟩
section
variable {P : Vf} {w : Vk} {A : Vl} {E : Vb → Vc → Prop} {s : Vc}
theorem zqy{e:Int × Vb}(h:∃ k,(PySem.strKind P w).is k e.2=true/\e.1=(PySem.strKind P w).hash k)(k:Str):(PySem.strKind P w).is k e.2=true↔keyE e=k:=by
 obtain⟨k',hk,_⟩:=h;obtain⟨i,v⟩:=e;obtain⟨t,ev⟩:=Value.isStrOf_shape hk;subst ev;show Value.isStrOf k (.str k' t)=true↔k'=k;constructor
 ·intro h;exact(PySem.strKind P w).inj (.str k' t) _ _ hk h
 ·rintro rfl;exact hk
theorem Tx.put{a:Addr}{es es':Es}{ep:Nat}{t t':V2}(S:Tx P w s.heap a es ep t)(el:ElemsOf (PySem.strKind P w) es'.toList)(nd:(keys es').Nodup)(lt:es'.size<scanBound)(fit:t'.fits es'.size=true)(led:t'.led = !byT w)(pl:t'.plain=false)
 {Q:Unit->Vc->Prop} (h:∀ h',Heap.SameBut a s.heap h'->Tx P w h' a es' (ep+1) t'->Q () { s with heap:=h' }):wpAny (model P w) A (storeSet a es' t') Q E s:=by
 obtain⟨o,ho,hx,hd⟩:=S.at_;refine wpAny_storeSet_of ho hd (h _ (.update ..) ⟨⟨⟨{ o with data := .set es' (ep+1) t' },?_,hx,rfl⟩,lt,fit,led,λ_=>pl⟩,el,nd⟩) (Ur lt);have:=Heap.get?_update_self (Obj.putSet es' t') ho (by rw[putSet_of es' t' hd];rfl);rw[putSet_of es' t' hd] at this;exact this
theorem zsd{es es':Es}(p:es'.toList.Perm es.toList):es'.size=es.size:=by simpa using p.length_eq
theorem zkh{es es':Es}(p:es'.toList.Perm es.toList):(keys es').Perm (keys es):=p.map _
theorem Tx.add{a:Addr}{es:Es}{ep:Nat}{t:V2}{x:Str}{tk:Tok}{Q:Bool->Vc->Prop}(S:Tx P w s.heap a es ep t)(hr:es.size+1<scanBound)
 (h:∀ b h' es' ep' t',Heap.SameBut a s.heap h'->Tx P w h' a es' ep' t'->(∀ k,k ∈ keys es'↔k ∈ keys es\/k=x)->es'.size<=es.size+1->Q b { s with heap:=h' }) :
 wpAny (model P w) A (setAddHashed a (.str x tk) (UT w x)) Q E s:=by
 have hk:(PySem.strKind P w).is x (.str x tk)=true:=by show Value.isStrOf x (.str x tk)=true;simp[Value.isStrOf]
 obtain⟨o,ho,hx,hd⟩:=S.at_
 have gw:∀ (b:Bool) (s₁:Vc) (Q':Unit->Vc->Prop),Q' () s₁->wpAny (model P w) A (match b with|true=>rule "set.scan.the-table-gave-way" | false=>pure ()) Q' E s₁:=λb s₁ Q' q=>by
  cases b
  ·exact Vd q
  ·exact V1 q
 unfold setAddHashed setAddHashedIn;refine Vr (Va (wpAny_setState_of ho hd S.fit ?_));dsimp only;rw[GQ (byScan_of rfl S.lt S.el)];unfold setAddByScan;refine Va (Va (V1 (Va (wpAny_setScan_of (knd:=PySem.strKind P w) hk ho hd S.fit S.el ?_))))
 cases hf:es.toList.findIdx? (λe=>(PySem.strKind P w).is x e.2) with
 | some j =>
   obtain⟨hj,hp,_⟩:=List.findIdx?_eq_some_iff_getElem.mp hf;have hm:x ∈ keys es:=Qp.mpr ⟨_,Zc hj,(zqy (S.el _ (Zc hj)).1 x).mp hp⟩;refine Vd (Vd ?_);exact h false s.heap es ep t (.refl ..) S (λk=>⟨.inl,λz=>z.elim id λz=>z ▸ hm⟩) (Z8 _)
 | none =>
   have hm:x ∉ keys es:=λhm=>by
    obtain⟨e,he,hk'⟩:=Qp.mp hm;have:=List.findIdx?_eq_none_iff.mp hf e he;rw[(zqy (S.el e he).1 x).mpr hk'] at this;cases this
   have hp:=layNew_perm t es (UT w x) (.str x tk);have hfit:=layNew_fits t es (UT w x) (.str x tk);have hled:=zze t es (UT w x) (.str x tk);generalize layNew t es (UT w x) (Value.str x tk)=L at hp hfit hled ⊢;obtain⟨e1,t1,wd,gv⟩:=L;dsimp only at hp hfit hled ⊢;rw[ZW] at hp;have el1:ElemsOf (PySem.strKind P w) e1.toList:=(S.el.push (k:=x) (x := .str x tk) hk rfl).perm hp
   have kp:(keys e1).Perm (keys es ++ [x]):=by
    have:=hp.map keyE;rw[Qy] at this;exact this
   have nd1:(keys e1).Nodup:=kp.nodup_iff.mpr (Zx.mpr ⟨S.nd,(by simp),λa ha b hb=>by
    rw[Qg] at hb;subst hb
    exact λz=>hm (z ▸ ha)⟩)
   have mem1:∀ k,k ∈ keys e1↔k ∈ keys es\/k=x:=λk=>by rw[kp.mem_iff,Qv,Qg]
   have sz1:e1.size=es.size+1:=by simpa using hp.length_eq
   have lt1:e1.size<scanBound:=by omega
   refine Va (gw _ _ _ ?_)
   have fin:∀ t2:V2,t2.fits e1.size=true->t2.led=t.led->t2.plain=false->wpAny (model P w) A (do
    storeSet a e1 t2
    if(!wd && t2.tooFull)=true then do
        (match (UK t2 e1 (SetTable.grown e1.size)).2.2 with|true=>rule "set.scan.the-table-gave-way" | false=>pure ())
        storeSet a (UK t2 e1 (SetTable.grown e1.size)).1 (UK t2 e1 (SetTable.grown e1.size)).2.1
        pure (some true)
     else pure (some true)) (λr s₁=>wpAny (model P w) A (match r with|some b=>pure b|none=>setAddHashedIn a (.str x tk) (UT w x) 99999) Q E s₁) E s:=λt2 f2 l2 p2=>by
    refine Va (S.put el1 nd1 lt1 f2 (l2.trans S.led) p2 λh1 sb1 S1=>?_)
    cases hw:(!wd && t2.tooFull) with
    | false=>exact Vd (Vd (h true h1 e1 _ t2 sb1 S1 mem1 (YQ sz1)))
    | true =>
      have rp:=relayAll_perm t2 e1 (SetTable.grown e1.size);have rf:=relayAll_fits t2 e1 (SetTable.grown e1.size);have rl:=zys t2 e1 (SetTable.grown e1.size);generalize UK t2 e1 (SetTable.grown e1.size)=R at rp rf rl ⊢;obtain⟨e2,t3,g2⟩:=R;dsimp only at rp rf rl ⊢;refine Va (gw _ _ _ ?_);have z2:=zsd rp;refine Va (S1.put (s:={ s with heap:=h1 }) (el1.perm rp) ((zkh rp).nodup_iff.mpr nd1) (by omega) rf (rl.1.trans (l2.trans S.led)) (rl.2 p2) λh2 sb2 S2=>?_);exact Vd (Vd (h true h2 e2 _ t3 (sb1.trans sb2) S2 (λk=>by rw[(zkh rp).mem_iff];exact mem1 k) (by omega)))
   split
   ·rename_i hpl
    refine Va ?_;rw[hashByValue_scannable 8 (x := .str x tk) rfl];refine Vd ?_;exact fin { t1 with plain:=false } (SetTable.fits_plain_off hfit) hled rfl
   ·rename_i hpl
    refine Va (Vd ?_);exact fin t1 hfit hled (by simpa using hpl)
end
end SX
namespace SX
open PySem PySem.Spec PyProof.Rows
section
variable {P : Vf} {w : Vk} {A : Vl} {R : Result → Vc → Prop} {I : Addr} {fp wr : List Addr} {G : Array Gi → Array Gi → Prop} {n : Nat} {Pv : Nat → Vb → Prop} {St : Nat → Vc → Prop}
theorem Sx.keep{h h':Heap}{a:Addr}{es:Es}{ep:Nat}{t:V2}(S:Sx w h a es ep t)(k:∀ o,h.get? a=some o->h'.get? a=some o):Sx w h' a es ep t :=
 { S with at_:=let ⟨o,e,r⟩:=S.at_; ⟨o,k o e,r⟩ }
theorem Tx.keep{h h':Heap}{a:Addr}{es:Es}{ep:Nat}{t:V2}(S:Tx P w h a es ep t)(k:∀ o,h.get? a=some o->h'.get? a=some o):Tx P w h' a es ep t :=
 ⟨S.toSx.keep k,S.el,S.nd⟩
theorem zy3(W:WalksS P w A.in1 I fp wr G n Pv St)(S:Addr)(hS:S ∉ fp)(val:Nat->Str)(hval:∀ i v,Pv i v->∃ t,v = .str (val i) t)(hb:n+1<scanBound) :
 ∀ (m i:Nat) (s:Vc) (es:Es) (ep:Nat) (t:V2),n - i=m->i<=n->St i s->Tx P w s.heap S es ep t->(∀ x,x ∈ keys es↔∃ j,j<i/\val j=x)->es.size<=i ->
   (∀ s' es' ep' t',Moved (S::wr) G s s'->Tx P w s'.heap S es' ep' t'->(∀ x,x ∈ keys es'↔∃ j,j<n/\val j=x)->R (.ok (.ret .none)) s') ->
   Uw (model P w) A (.builtin "set.update.loop" ⟨[.ref S,.ref I],[]⟩) R s:=by
 have nw:S ∉ wr:=λz=>hS (W.sub _ z);have up:∀ b ∈ wr,b ∈ S::wr:=λb z=>Qb _ z;intro m
 induction m with
 | zero =>
   intro i s es ep t hm hi st T hk _ k;obtain rfl:i=n:=by omega
   refine V4 Yb ?_;rw[Around.under_plainId Jn _];refine Va (W.done s _ _ st λs' mv=>Vd ?_);exact k s' es ep t (mv.mono up) (T.keep λo e=>mv.heap S o nw e) hk
 | succ m ih =>
   intro i s es ep t hm hi st T hk hz k;have hlt:i<n:=by omega
   refine V4 Yb ?_;rw[Around.under_plainId Jn _];refine Va (W.item i s _ _ hlt st λv s' pv st' mv=>?_);obtain⟨tk,rfl⟩:=hval i v pv;have T1:Tx P w s'.heap S es ep t:=T.keep λo e=>mv.heap S o nw e;refine Va (m:=holding [Value.str (val i) tk] (setAdd S (.str (val i) tk))) (Vr ?_);unfold setAdd;refine Vr (Va ((PySem.strKind P w).pyHash (k:=val i) (by show Value.isStrOf (val i) (.str (val i) tk)=true;simp[Value.isStrOf]) ?_));refine Tx.add (s:={ s' with toks:=s'.toks+1 }) (x:=val i) T1 (by omega) λb h' es' ep' t' sb T2 hk' hz'=>?_;refine Vd ⟨V6 Jn _,ih (i+1) _ es' ep' t' (by omega) hlt (W.frame _ s' _ _ st' (Z8 _) λb hb o e=>?_) T2 (λx=>?_) (by omega) λs'' e2 p2 t2 mv2 T3 hk3=>?_⟩
   ·rw[sb.2 b (λz:b=S=>hS (z ▸ hb))];exact e
   ·rw[hk',hk];constructor
    ·rintro(⟨j,h1,h2⟩|rfl)
     ·exact⟨j,by omega,h2⟩
     ·exact⟨i,by omega,rfl⟩
    ·rintro⟨j,h1,h2⟩
     by_cases hj:j=i
     ·subst hj;exact .inr h2.symm
     ·exact .inl ⟨j,by omega,h2⟩
   ·refine k s'' e2 p2 t2 (.trans W.gtrans ((mv.mono up).then_heap (Z8 _) λb o hb e=>?_) mv2) T3 hk3;rw[sb.2 b (λz:b=S=>hb (z ▸ Qt))];exact e
end
section
variable {P : Vf} {w : Vk} {A : Vl} {E : Vb → Vc → Prop} {s : Vc}
abbrev eObj(w:Vk):Obj:={ cls := .type "set", dict:=none,data := .set #[] 0 (.fresh 0 0 (!byT w)) }
theorem z0a{h:Heap}{a:Addr}(e:h.get? a=some (eObj w)):Tx P w h a #[] 0 (.fresh 0 0 (!byT w)) :=
 ⟨⟨⟨_,e,⟨rfl,rfl,rfl⟩,rfl⟩,by decide,rfl,rfl,λz=>absurd z (by decide)⟩,λ_ z=>by simp at z,by simp[keys]⟩
theorem zw7(v:Vb){Q:Vb->Vc->Prop}(h:Q (.ref s.heap.objs.size) { s with heap:=s.heap.push (eObj w) }) :
 Uw (model P w) A (.call (.builtin "set.__new__") ⟨[.type "set", v],[]⟩) (wants Q E) s:=by
 refine codeAny_of_tree ?_;refine Va (m:=checkBuiltinCall "set.__new__" ⟨[.type "set", v],[]⟩) (VZ (F.newCall_set_1 v) (Vd ⟨V6 F.plain_set_new _,V4 F.entry_set_new ?_⟩));rw[Around.under_plainId F.plain_set_new _];unfold Builtin.«set.__new__» Builtin.Frozenset.newClass;have hsub:=sub_set_self;obtain⟨hp,g,d,tk,os⟩:=s;dsimp only
 wp_walk
 refine UM (Vd ?_);dsimp only;simp only[newObj];refine Va (wpAny_alloc (Vd ?_));exact Vd h
end
end SX
namespace SX
open PySem PySem.Spec PyProof.Rows
section
variable {P : Vf} {w : Vk} {A : Vl} {E : Vb → Vc → Prop} {s : Vc}
abbrev Ext(h h':Heap):Prop:=∀ b o,h.get? b=some o->h'.get? b=some o
def Src(P:Vf)(w:Vk)(h:Heap)(v:Vb)(n:Nat)(Pv:Nat->Vb->Prop):Prop :=
 ∀ (A:Vl) (E:Vb->Vc->Prop) (s₁:Vc) (Q:Vb->Vc->Prop),A.handled=none->Ext h s₁.heap ->
   (∀ I h' fp St,(∀ A':Vl,A'.handled=none->Walks P w A' I fp [I] n Pv St)->St 0 h'->Ext s₁.heap h'->(∀ b ∈ fp,b<h.objs.size\/s₁.heap.objs.size<=b)->s₁.heap.objs.size<=I->Q (.ref I) { s₁ with heap:=h' }) ->
   wpAny (model P w) A (U2 v) Q E s₁
theorem zkb{v:Vb}{T:String}{n:Nat}{Pv:Nat->Vb->Prop}{val:Nat->Str}{Q:Vb->Vc->Prop}(hh:A.handled=none)(hT:∀ s₁:Vc,Ext s.heap s₁.heap->s₁.TypeIs v T)
 (h1:Gw (.type T) (.type "set")=pure false) (h2:Gw (.type T) (.type "frozenset")=pure false) (h3:(Value.type T == Value.type "dict")=false) (src:Src P w s.heap v n Pv)
 (hval:∀ i v,Pv i v->∃ t,v = .str (val i) t) (hb:n+1<scanBound)
 (k:∀ h' tk es ep t,Tx P w h' s.heap.objs.size es ep t->(∀ x,x ∈ keys es↔∃ j,j<n/\val j=x)->Ext s.heap h'->Q (.ref s.heap.objs.size) { s with heap:=h',toks:=tk }) :
 wpAny (model P w) A (call (.type "set") [v]) Q E s:=by
 obtain⟨c,tl,hmro⟩:=F.called_set.mro;have hmade:=F.called_set.made;have hsub:=F.called_set.sub;refine G5 (codeAny_of_tree ?_);show wpAny _ _ (callAny (.type "set") _) _ _ _;refine Vd ⟨Code.quiet_builtin _ (by decide +kernel),V4 F.entry_type_call ?_⟩;rw[Around.under_plain (weight_type_call_type "set" [v] []) rfl];have c1:=F.called_set.notType;have c2:=F.called_set.canCreate;have c3:=F.typeCall_set_1 v
 repeat (any_goals (first|assumption|wp_step))
 refine Uq (zw7 v (E:=E) (Q:=λr s₁=>r = .ref s.heap.objs.size/\s₁ = { s with heap:=s.heap.push (eObj w) }) ⟨rfl,rfl⟩) λr s₁ hr=>?_
 cases r with
 | error e=>exact hr
 | ok fl =>
   cases fl with
   | ret obj =>
     obtain⟨rfl,rfl⟩:=hr;have eS:(s.heap.push (eObj w)).get? s.heap.objs.size=some (eObj w):=Heap.get?_push_size _ rfl;have hS:Shared.TypeIs { s with heap:=s.heap.push (eObj w) } (.ref s.heap.objs.size) "set" := ⟨_,eS,rfl⟩;have c4:=F.called_set.init.lookup;have c5:=F.called_set.init.bind (.ref s.heap.objs.size)
     repeat (any_goals (first|assumption|wp_step))
     refine Uq (Gm (R:=wants (λr s₂=>r = .none/\∃ h' tk es ep t,s₂ = { s with heap:=h',toks:=tk }/\Tx P w h' s.heap.objs.size es ep t/\(∀ x,x ∈ keys es↔∃ j,j<n/\val j=x)/\Ext s.heap h') E) F.called_set.init.plain F.entry_set_init (check_set_init_1 hS ?_)) λr₂ s₂ hr₂=>?_
     ·have e0:Ext s.heap (s.heap.push (eObj w)):=λb o e=>Heap.get?_push_of_some _ e;have hTv:=hT { s with heap:=s.heap.push (eObj w) } e0;unfold Builtin.«set.__init__» noKeywords Builtin.Frozenset.updateFrom;generalize hPI:U2=PI
      wp_walk
      subst hPI;have lt0:s.heap.objs.size<(s.heap.push (eObj w)).objs.size:=by rw[Heap.size_push];exact Z5 _
      refine src _ _ _ _ (by simpa using hh) e0 λI h' fp St W st ex fpb hI=>?_;refine Va (Gu ?_)
      have nS:s.heap.objs.size ∉ fp:=λz=>by
       rcases fpb _ z with y|y
       ·exact QQ _ y
       ·exact absurd lt0 (JF.mpr y)
      refine zy3 (W _ (by simpa using hh)).toS s.heap.objs.size nS val hval hb n 0 _ #[] 0 _ rfl (Qw _) st (z0a (ex _ _ eS)) (λx=>by simp[keys]) (Qc _) λs' es ep t mv T hk=>?_;obtain⟨h2,g2,d2,tk2,os2⟩:=s';obtain rfl:g2=s.gens:=mv.gens;obtain rfl:d2=s.drawn:=mv.drawn;obtain rfl:os2=s.os:=mv.os;show wpAny _ _ _ _ _ _;refine Vd (Vd ⟨rfl,h2,tk2,es,ep,t,rfl,T,hk,λb o e=>mv.heap b o (λz=>?_) (ex b o (e0 b o e))⟩);have hbl:=Heap.lt_size e;rcases Qs.mp z with z|z
      ·exact Qm hbl z
      ·rw[Qg.mp z] at hbl;exact absurd hbl (JF.mpr (QH (Jc lt0) hI))
     ·cases r₂ with
      | error e=>exact hr₂
      | ok fl₂ =>
        cases fl₂ with
        | ret r =>
          obtain⟨rfl,h',tk,es,ep,t,rfl,T,hk,ex⟩:=hr₂
          repeat (any_goals (first|assumption|wp_step))
          exact k _ _ _ _ _ T hk ex
        | _=>exact hr₂.elim
   | _=>exact hr.elim
end
end SX
namespace SX
open PySem PySem.Spec PyProof.Rows
theorem nx_slot:Slot "set_iterator" "__next__" "set_iterator.__next__" := by
 refine Slot.of (owner := "set_iterator") (n := "__next__") ?_ (by decide +kernel) (by decide +kernel) (by decide +kernel) ?_ ?_
 ·rw[Vw,Vo];kernel_rfl
 ·first
   | exact .inl (by decide +kernel)
   | exact .inr (by decide +kernel)
 ·rw[Vy];kernel_rfl
theorem zoe:Slot "set_iterator" "__iter__" "set_iterator.__iter__" := by
 refine Slot.of (owner := "set_iterator") (n := "__iter__") ?_ (by decide +kernel) (by decide +kernel) (by decide +kernel) ?_ ?_
 ·rw[Vw,Vo];kernel_rfl
 ·first
   | exact .inl (by decide +kernel)
   | exact .inr (by decide +kernel)
 ·rw[Vy];kernel_rfl
theorem zmk:U8 GP "set_iterator.__next__" = some Builtin.«set_iterator.__next__»:=by
 refine Uu ?_;kernel_rfl
theorem zue:U8 GP "set_iterator.__iter__" = some Builtin.«dict_keyiterator.__iter__»:=by
 refine U9 (id' := "dict_keyiterator.__iter__") ?_ rfl ?_ ?_
 ·kernel_rfl
 ·decide +kernel
 ·kernel_rfl
theorem zjc:U8 GP "set.__iter__" = some Builtin.«frozenset.__iter__»:=by
 refine U9 (id' := "frozenset.__iter__") ?_ rfl ?_ ?_
 ·kernel_rfl
 ·decide +kernel
 ·kernel_rfl
theorem zmq:Manifest.owners.lookup (jw ['r','o','t','a','r','e','t','i','_','t','e','s'].reverse)=some Manifest.sig_set_iterator:=by kernel_rfl
theorem zn2(a:Vb):UP "set_iterator.__next__" ⟨[a],[]⟩:=by
 unfold UP;rw[Uy (id := "set_iterator.__next__") (n := ['_','_','t','x','e','n','_','_']) (o := ['r','o','t','a','r','e','t','i','_','t','e','s']) (by kernel_rfl) zmq];kernel_rfl
theorem zya(a:Vb):UP "set_iterator.__iter__" ⟨[a],[]⟩:=by
 unfold UP;rw[Uy (id := "set_iterator.__iter__") (n := ['_','_','r','e','t','i','_','_']) (o := ['r','o','t','a','r','e','t','i','_','t','e','s']) (by kernel_rfl) zmq];kernel_rfl
theorem zeq{α:Type}:∀ {l:List α} {i:Nat} (h:i<l.length),(l[i]::l.eraseIdx i).Perm l
 | [],_,h=>absurd h (Ym _)
 | x::l,0,_ => .refl _
 | x::l,i+1,h=>(jr x _ _).trans ((zeq (l:=l) (i:=i) (Nat.lt_of_succ_lt_succ h)).cons x)
theorem znq{α:Type}(f:Nat->Nat):∀ (m k:Nat) (l:List α) (out:Array α),l.length=m->(pickOrder.go f m k l out).toList.Perm (out.toList++l)
 | 0,k,l,out,h=>by
   obtain rfl:l = []:=by cases l with|nil=>rfl|cons _ _=>simp at h
   simp[pickOrder.go]
 | m+1,k,l,out,h=>by
   have hi:f k % l.length<l.length:=Nat.mod_lt _ (by omega);unfold pickOrder.go;rw[Qa hi];refine(znq f m (k+1) (l.eraseIdx (f k % l.length)) (out.push l[f k % l.length]) (by rw[ZL];simp[hi];omega)).trans ?_;rw[ZW,Q3];refine Yr _ ?_;exact zeq hi
theorem zqi{α:Type}(f:Nat->Nat)(xs:Array α):(Ul f xs).toList.Perm xs.toList:=by
 simpa[Ul] using znq f xs.size 0 xs.toList #[] (by simp)
end SX
namespace SX
open PySem PySem.Spec PyProof.Rows
section
variable {P : Vf} {w : Vk} {A : Vl} {E : Vb → Vc → Prop} {s : Vc} {α : Type}
theorem zsg{src:Source}{n:Nat}{Q:Nat->Vc->Prop}(hn:n ≠ 0)(h:∀ i d,i<n->Q i { s with drawn:=d }):wpAny (model P w) A (choose src n) Q E s:=λΓ p _ =>
 ⟨hn,h _ _ (Nat.mod_lt _ (Nat.pos_of_ne_zero hn))⟩
theorem zot:∀ (m:Nat) (xs:List α) (s:Vc) (Q:List α->Vc->Prop),xs.length=m->(∀ ys d,ys.Perm xs->Q ys { s with drawn:=d })->wpAny (model P w) A (drawOrder m xs) Q E s
 | 0,xs,s,Q,e,h=>by
   obtain rfl:xs = []:=Yc.mp e;exact Vd (h [] s.drawn .nil)
 | m+1,[],s,Q,e,h=>by cases e
 | m+1,x::xs,s,Q,e,h=>by
   unfold drawOrder;refine Va (zsg (by simp) λi d hi=>?_);rw[Qa hi];refine Va (zot m _ _ _ (by rw[ZL,GQ hi];simpa using e) λys d2 hp=>?_);exact Vd (h _ d2 ((hp.cons _).trans (zeq hi)))
theorem wp_f{c:Prop}[Decidable c]{a b:Sem α}{Q:α->Vc->Prop}(hc:¬ c)(h:wpAny (model P w) A b Q E s):wpAny (model P w) A (if c then a else b) Q E s:=by
 rw[GT hc];exact h
theorem wp_t{c:Prop}[Decidable c]{a b:Sem α}{Q:α->Vc->Prop}(hc:c)(h:wpAny (model P w) A a Q E s):wpAny (model P w) A (if c then a else b) Q E s:=by
 rw[GQ hc];exact h
theorem zia{Q:Bool->Vc->Prop}(h:Q (byT w) s):wpAny (model P w) A setsByText Q E s:=by
 unfold setsByText;exact Va (UM (Vd h))
theorem Sx.state{a:Addr}{es:Es}{ep:Nat}{t:V2}{Q:(Es × Nat × V2)->Vc->Prop}(S:Sx w s.heap a es ep t)(h:Q (es,ep,t) s):wpAny (model P w) A (setState a) Q E s :=
 let ⟨_,ho,_,hd⟩:=S.at_
 wpAny_setState_of ho hd S.fit h
theorem Sx.entries{a:Addr}{es:Es}{ep:Nat}{t:V2}{Q:Es->Vc->Prop}(S:Sx w s.heap a es ep t)(h:Q es s):wpAny (model P w) A (setEntries a) Q E s :=
 let ⟨_,ho,_,hd⟩:=S.at_
 wpAny_setEntries_of ho hd S.fit h
theorem Sx.epoch{a:Addr}{es:Es}{ep:Nat}{t:V2}{Q:Nat->Vc->Prop}(S:Sx w s.heap a es ep t)(h:Q ep s):wpAny (model P w) A (setEpoch a) Q E s :=
 let ⟨_,ho,_,hd⟩:=S.at_
 wpAny_setEpoch_of ho hd S.fit h
abbrev itO(first:Vb)(i:Nat)(S:Addr)(n ep:Nat):Obj:={ cls := .type "set_iterator", dict:=none,data := .fields #[first,.int i 0,.ref S,.int n 0,.int ep 0],slots:=#[] }
theorem zoz{Z:α->Vc->Prop}{R:Option Vb->Vc->Prop}(hh:A.handled=none)(h:∀ h',Ext s.heap h'->R none { s with heap:=h' }) :
 wpAny (model P w) A.in1 (do GO (<- GM (.type "StopIteration") [])) Z (λe s₁=>wpAny (model P w) A (do if <- isInstance e (.type "StopIteration") then pure none else throw e) R E s₁) s:=by
 refine Va ?_;simp only[GM,newTuple];refine Va (Vm ?_ (by size_fits));refine Va (m:=VY _ _) (VZ (a:=Value.none) (by first|rfl|(simp only[VY];rfl)) ?_);refine Vm ?_ (by size_fits);simp only[GO];refine Va (G1 ?_);rw[show A.in1.handled=none from hh];refine Va (Vd (GF ?_));refine Va (VN (T := "StopIteration") (b:=true) ⟨_,Heap.get?_push_size _ rfl,rfl⟩ Gn ?_);exact Vd (h _ λb o e=>Heap.get?_push_of_some _ (Heap.get?_push_of_some _ e))
end
end SX
namespace SX
open PySem PySem.Spec PyProof.Rows
section
variable {P : Vf} {w : Vk} {A : Vl} {E : Vb → Vc → Prop} {s : Vc} {it S : Addr} {es : Es} {ep : Nat} {t : V2}
theorem zf3{first:Vb}{sl:Nat}{i:Nat}{R:Option Vb->Vc->Prop}(hf:first = .int sl 0)(ho:s.heap.get? it=some (itO first i S es.size ep))(T:Sx w s.heap S es ep t)
 (h:wpAny (model P w) A.in1 (GI S sl i ep) (λr s₁=>s₁=s/\match r with
  | some (x,nx)=>∀ h',h'.get? it=some (itO (.int nx 0) (i+1) S es.size ep)->Heap.SameBut it s.heap h'->R (some x) { s with heap:=h' }
  | none=>∀ h',(∀ b o,b ≠ it->s.heap.get? b=some o->h'.get? b=some o)->R none { s with heap:=h' }) (λ_ _=>False) s) (hh:A.handled=none):wpAny (model P w) A (U3 (.ref it)) R E s:=by
 subst hf;have hT:s.TypeIs (.ref it) "set_iterator" := ⟨_,ho,rfl⟩;unfold U3;refine Va (VD (Vx (name:=Str.ofString "__next__") hT nx_slot (Vn nx_slot hT zmk ?_ (zn2 _))));unfold Builtin.«set_iterator.__next__»;refine Va (Vd ?_);refine Va (Gs ho rfl ?_);refine Va (T.entries ?_);refine wp_f (by simp) ?_;refine Va (V0 h (λr s₁ q=>?_) λ_ _ z=>z.elim);obtain⟨rfl,q⟩:=q
 match r,q with
 | some (x,nx),q =>
   refine Va (Vs ho (by simp) λh1 e1 b1=>?_);refine Va (Vs (s:={ s₁ with heap:=h1 }) e1 (by simp) λh2 e2 b2=>?_);refine Vd ⟨x,rfl,Vd (q h2 ?_ (b1.trans b2))⟩;exact e2
 | none,q =>
   refine Va (Vs ho (by simp) λh1 e1 b1=>?_);exact zoz (s:={ s₁ with heap:=h1 }) hh λh' ex=>q h' λb o n e=>ex b o ((b1.2 b n).trans e)
end
end SX
namespace SX
open PySem PySem.Spec PyProof.Rows
section
variable {P : Vf} {w : Vk} {A : Vl} {E : Vb → Vc → Prop} {s : Vc} {it S : Addr} {es : Es} {ep : Nat} {t : V2}
theorem zwf{sl i:Nat}{Q:Option (Vb × Nat)->Vc->Prop}(hb:byT w=true)(T:Sx w s.heap S es ep t)(h:Q (((Ul (w.params.setOrder S ep) es)[i]?).map λe=>(e.2,sl)) s):wpAny (model P w) A (GI S sl i ep) Q E s:=by
 unfold GI;refine Va (T.state ?_);refine Va (zia ?_);rw[hb];refine wp_t rfl ?_;refine wp_f (by simp) ?_;refine Va ?_;unfold setWalk;refine Va (T.state ?_);refine Va (zia ?_);rw[hb];refine wp_t rfl ?_;exact Va (UM (Vd (Vd h)))
theorem zvu{sl i:Nat}{Q:Option (Vb × Nat)->Vc->Prop}(hb:byT w=false)(hz:es.size<=1)(T:Sx w s.heap S es ep t) (h:Q (match es[SetTable.below t.place sl]?,t.place[SetTable.below t.place sl]? with
 | some (_,x),some j=>some (x,j+1)
 | _,_=>none) s):wpAny (model P w) A (GI S sl i ep) Q E s:=by
 unfold GI;refine Va (T.state ?_);refine Va (zia ?_);rw[hb];refine wp_f (by decide) ?_;refine wp_f (show ¬ ((!t.plain && decide (es.size > 1))=true) by simp;omega) ?_;refine Va (m:=if(!t.led && !es.isEmpty)=true then unsupported "set:maker-not-led" else pure ()) (wp_f (by rw[T.led,hb];simp) (Vd ?_));exact Vd h
theorem zob{Tp:Addr}{pls:List Vb}{c:Nat}{i:Nat}{R:Option Vb->Vc->Prop}(ho:s.heap.get? it=some (itO (.ref Tp) i S es.size ep))(hp:s.heap.get? Tp=some { cls := .type "tuple", data := .seq pls.toArray c })(T:Sx w s.heap S es ep t)
 (h:match pls[i]? with
  | some v=>∃ (j:Nat) (e:Int × Vb),v = .int j 0/\es[j]? = some e/\∀ h',h'.get? it=some (itO (.ref Tp) (i+1) S es.size ep)->Heap.SameBut it s.heap h'->R (some e.2) { s with heap:=h' }
  | none=>∀ h',(∀ b o,b ≠ it->s.heap.get? b=some o->h'.get? b=some o)->R none { s with heap:=h' }) (hh:A.handled=none):wpAny (model P w) A (U3 (.ref it)) R E s:=by
 have hT:s.TypeIs (.ref it) "set_iterator" := ⟨_,ho,rfl⟩;unfold U3;refine Va (VD (Vx (name:=Str.ofString "__next__") hT nx_slot (Vn nx_slot hT zmk ?_ (zn2 _))));unfold Builtin.«set_iterator.__next__»;refine Va (Vd ?_);refine Va (Gs ho rfl ?_);refine Va (T.entries ?_);refine wp_f (by simp) ?_;refine Va (wpAny_seqItems hp rfl ?_);have ea:(pls.toArray)[(i:Int).toNat]? = pls[i]?:=by simp
 dsimp only;rw[ea]
 cases hv:pls[i]? with
 | some v =>
   rw[hv] at h;obtain⟨j,e,rfl,he,h⟩:=h;dsimp only;refine Va ?_;unfold setNextDrawn;refine Va (T.state ?_);refine wp_f (by simp) ?_;have ej:es[(j:Int).toNat]? = some e:=by simpa using he
   rw[ej];refine Vd ?_;refine Va (Vs ho (by simp) λh1 e1 b1=>?_);exact Vd ⟨_,rfl,Vd (h h1 e1 b1)⟩
 | none =>
   rw[hv] at h;dsimp only;refine Va (Vs ho (by simp) λh1 e1 b1=>?_);refine Va (Vs (s:={ s with heap:=h1 }) e1 (by simp) λh2 e2 b2=>?_);exact zoz (s:={ s with heap:=h2 }) hh λh' ex=>h h' λb o n e=>ex b o ((b2.2 b n).trans ((b1.2 b n).trans e))
theorem zir{first:Vb}{i n:Nat}{Q:Vb->Vc->Prop}(ho:s.heap.get? it=some (itO first i S n ep))(h:Q (.ref it) s):wpAny (model P w) A (U2 (.ref it)) Q E s:=by
 have hT:s.TypeIs (.ref it) "set_iterator" := ⟨_,ho,rfl⟩;refine VX hT zoe (Vn zoe hT zue ?_ (zya _));exact Vd ⟨_,rfl, "set_iterator", _,hT,nx_slot.lookup,h⟩
end
end SX
namespace SX
open PySem PySem.Spec PyProof.Rows
section
variable {P : Vf} {w : Vk} {A : Vl} {E : Vb → Vc → Prop} {s : Vc} {it S : Addr} {es : Es} {ep : Nat} {t : V2}
def ordP(ord:List (Int × Vb)):Nat->Vb->Prop:=λi v=>∃ e,ord[i]? = some e/\v=e.2
theorem zz5(hh:A.handled=none)(hb:byT w=true)(ne:S ≠ it) :
 Walks P w A it [it,S] [it] (Ul (w.params.setOrder S ep) es).toList.length (ordP (Ul (w.params.setOrder S ep) es).toList) (λi h=>(∃ sl:Nat,h.get? it=some (itO (.int sl 0) i S es.size ep))/\Sx w h S es ep t) where
 sub:=λb z=>by simp at z;simp[z]
 frame:=λi h h' st k=>⟨let ⟨sl,e⟩:=st.1; ⟨sl,k it (by simp) _ e⟩,st.2.keep λo e=>k S (by simp) o e⟩
 item:=λi s Q E hi st k=>by
  obtain⟨⟨sl,ho⟩,T⟩:=st;refine zf3 rfl ho T (zwf hb T ⟨rfl,?_⟩) hh
  have hx:(Ul (w.params.setOrder S ep) es)[i]? = some ((Ul (w.params.setOrder S ep) es).toList[i]):=by
   rw[<- QA];exact Qa hi
  rw[hx];refine λh' e' sb=>k _ h' s.toks ⟨_,Qa hi,rfl⟩ ⟨⟨sl,e'⟩,T.keep λo e=>(sb.2 S ne).trans e⟩ λb o nb e=>(sb.2 b (by simpa using nb)).trans e
 done:=λs Q E st k=>by
  obtain⟨⟨sl,ho⟩,T⟩:=st;refine zf3 rfl ho T (zwf hb T ⟨rfl,?_⟩) hh;rw[show(Ul (w.params.setOrder S ep) es)[(Ul (w.params.setOrder S ep) es).toList.length]? = none by simp];exact λh' kp=>k h' s.toks λb o nb e=>kp b o (by simpa using nb) e
 self:=λi s Q E st h=>zir st.1.choose_spec h
theorem zll:∀ {js:List Nat},(∀ j ∈ js,j<es.size)->(js.filterMap λj=>es[j]?)=js.map λj=>es[j]?.getD (0,.none)
 | [],_=>rfl
 | j::js,hj=>by
   obtain⟨e,h1⟩:∃ e,es[j]? = some e:=⟨_,Q1 (hj j (by simp))⟩;rw[List.filterMap_cons_some h1,Qn,h1,zll λx z=>hj x (Qb _ z)];rfl
theorem z0z{Tp:Addr}{ord:List (Int × Vb)}{js:List Nat}(hh:A.handled=none)(ne:S ≠ it)(nt:Tp ≠ it)(ho:ord=js.filterMap λj=>es[j]?)(hj:∀ j ∈ js,j<es.size) :
 Walks P w A it [it,S,Tp] [it] ord.length (ordP ord) (λi h=>h.get? it=some (itO (.ref Tp) i S es.size ep)/\Sx w h S es ep t/\h.get? Tp=some { cls := .type "tuple", data := .seq (js.map λ(j:Nat)=>Value.int j 0).toArray }) where
 sub:=λb z=>by simp at z;simp[z]
 frame:=λi h h' st k=>⟨k it (by simp) _ st.1,st.2.1.keep λo e=>k S (by simp) o e,k Tp (by simp) _ st.2.2⟩
 item:=λi s Q E hi st k=>by
  obtain⟨hi1,T,ht⟩:=st;have el:=ho.trans (zll hj);have hl:i<js.length:=by rw[el] at hi;simpa using hi
  obtain⟨e,h1⟩:∃ e,es[js[i]]? = some e:=⟨_,Q1 (hj _ (Zc hl))⟩;refine zob hi1 ht T ?_ hh;rw[Qk,Qa hl];refine⟨js[i],_,rfl,h1,λh' e' sb=>k _ h' s.toks ⟨e,?_,rfl⟩ ⟨e',T.keep λo e=>(sb.2 S ne).trans e,(sb.2 Tp nt).trans ht⟩ λb o nb e=>(sb.2 b (by simpa using nb)).trans e⟩;rw[el,Qk,Qa hl];show some (es[js[i]]?.getD (0,.none))=_;rw[h1];rfl
 done:=λs Q E st k=>by
  obtain⟨hi1,T,ht⟩:=st;have el:ord.length=js.length:=by rw[ho.trans (zll hj)];simp
  refine zob hi1 ht T ?_ hh;rw[Qk,Qu (by omega)];exact λh' kp=>k h' s.toks λb o nb e=>kp b o (by simpa using nb) e
 self:=λi s Q E st h=>zir st.1 h
theorem zj8{p:Array Nat}{sl:Nat}(h:p.size=1):SetTable.below p sl=if p.getD 0 sl<sl then 1 else 0:=by
 unfold SetTable.below;rw[h];unfold SetTable.below.go;rw[GQ (by omega)];show(if p.getD 0 sl<sl then SetTable.below.go p sl 0 1 1 else SetTable.below.go p sl 0 0 0)=_
 split <;> rfl
theorem zzs(hh:A.handled=none)(hb:byT w=false)(hz:es.size<=1)(ne:S ≠ it) :
 Walks P w A it [it,S] [it] es.toList.length (ordP es.toList) (λi h=>(∃ sl:Nat,(i=0->sl=0)/\(i=1->∃ j,t.place[0]? = some j/\sl=j+1)/\h.get? it=some (itO (.int sl 0) i S es.size ep))/\Sx w h S es ep t) where
 sub:=λb z=>by simp at z;simp[z]
 frame:=λi h h' st k=>⟨let ⟨sl,e0,e1,e⟩:=st.1; ⟨sl,e0,e1,k it (by simp) _ e⟩,st.2.keep λo e=>k S (by simp) o e⟩
 item:=λi s Q E hi st k=>by
  obtain⟨⟨sl,h0,_,ho⟩,T⟩:=st;have hi':i<es.size:=by simpa using hi
  obtain rfl:i=0:=by omega
  obtain rfl:=h0 rfl
  have f1:t.place.size=1:=by
   have:=T.fit;simp only[SetTable.fits,Q5,Te] at this;omega
  have hbel:SetTable.below t.place 0=0:=by rw[zj8 f1,GT (Ym _)]
  refine zf3 rfl ho T (zvu hb hz T ⟨rfl,?_⟩) hh;rw[hbel];have e1:es[0]? = some es[0]:=Q1 hi';have e2:t.place[0]? = some t.place[0]:=Q1 (by omega);rw[e1,e2];refine λh' e' sb=>k _ h' s.toks ⟨es[0],by rw[QA];exact e1,rfl⟩ ⟨⟨t.place[0]+1,λz=>by omega,λ_=>⟨_,e2,rfl⟩,e'⟩,T.keep λo e=>(sb.2 S ne).trans e⟩ λb o nb e=>(sb.2 b (by simpa using nb)).trans e
 done:=λs Q E st k=>by
  obtain⟨⟨sl,_,h1,ho⟩,T⟩:=st
  have f1:t.place.size=es.size:=by
   have:=T.fit;simp only[SetTable.fits,Q5,Te] at this;omega
  refine zf3 rfl ho T (zvu hb hz T ⟨rfl,?_⟩) hh
  have none':es[SetTable.below t.place sl]? = none:=by
   by_cases h:es.size=0
   ·exact Zy (by omega)
   ·obtain⟨j,e1,e2⟩:=h1 (by simp;omega);rw[zj8 (by omega),JB,e1,e2];show es[if j<j+1 then 1 else 0]? = none;rw[GQ (Z5 _)];exact Zy (by omega)
  rw[none'];exact λh' kp=>k h' s.toks λb o nb e=>kp b o (by simpa using nb) e
 self:=λi s Q E st h=>zir st.1.choose_spec.2.2 h
end
end SX
namespace SX
open PySem PySem.Spec PyProof.Rows
section
variable {P : Vf} {w : Vk} {A : Vl} {E : Vb → Vc → Prop} {s : Vc} {it S : Addr} {es : Es} {ep : Nat} {t : V2}
theorem Sx.typ(T:Sx w s.heap S es ep t):s.TypeIs (.ref S) "set" := let ⟨_,ho,hx,_⟩:=T.at_; ⟨_,ho,hx.1⟩
theorem Sx.lts(T:Sx w s.heap S es ep t):S<s.heap.objs.size:=let ⟨_,ho,_⟩:=T.at_;Heap.lt_size ho
theorem zt6{Q:Bool->Vc->Prop}(T:Sx w s.heap S es ep t)(h:Q (!byT w && decide (es.size > 1)) s):wpAny (model P w) A (setDrawn S) Q E s:=by
 unfold setDrawn;refine Va (T.state ?_);refine Va (zia ?_)
 have e:(!byT w && (!t.plain && decide (es.size > 1)))=(!byT w && decide (es.size > 1)):=by
  by_cases hz:1<es.size
  ·rw[T.pl hz];simp
  ·simp[hz]
 refine Vd ?_;show Q (!byT w && (!t.plain && decide (es.size > 1))) s;rw[e];exact h
theorem zut{Q:Vb->Vc->Prop}(T:Sx w s.heap S es ep t)
 (k:∀ (it:Addr) (h':Heap) (d':Drawn) (ord:List (Int × Vb)) (fp:List Addr) (St:Nat->Heap->Prop),ord.Perm es.toList->(∀ A':Vl,A'.handled=none->Walks P w A' it fp [it] ord.length (ordP ord) St)->St 0 h'->Ext s.heap h'->(∀ b ∈ fp,b<s.heap.objs.size->b=S)->(∀ b ∈ fp,b<h'.objs.size)->s.heap.objs.size<=it->it ∈ fp->Q (.ref it) { s with heap:=h',drawn:=d' }) :
 wpAny (model P w) A (U2 (.ref S)) Q E s:=by
 have hlt:=T.lts;refine VX T.typ F.slot_set_iter (Vn F.slot_set_iter T.typ zjc ?_ (F.args_set_iter_1 _));unfold Builtin.«frozenset.__iter__»;refine Va (m:=Builtin.Frozenset.slot0 "__iter__" ⟨[.ref S],[]⟩) (Vd ?_);refine Va (Va (T.entries (Vd ?_)));refine Va (zt6 T ?_);have sz:∀ (h:Heap) (o:Obj),(h.push o).objs.size=h.objs.size+1:=λh o=>Heap.size_push ..
 cases hd:(!byT w && decide (es.size > 1)) with
 | true =>
   refine wp_t rfl ?_;refine Va (zot es.size _ _ _ (by simp) λjs d hp=>?_)
   have hz:js.length<=sizeLine:=by
    have:=Ur T.lt;rw[hp.length_eq,QF];exact this
   refine Va (UA ?_ (by rw[Qe];exact hz));have T1:Sx w (s.heap.push { cls := .type "tuple", data := .seq (js.map λ(j:Nat)=>Uv j).toArray }) S es ep t:=T.keep λo e=>Heap.get?_push_of_some _ e;refine Va (Sx.epoch (s:={ s with heap:=s.heap.push { cls := .type "tuple", data := .seq (js.map λ(j:Nat)=>Uv j).toArray },drawn:=d }) T1 ?_);refine Va (Vm (Vd ⟨_,rfl, "set_iterator", _,⟨_,Heap.get?_push_size _ rfl,rfl⟩,nx_slot.lookup,?_⟩));have hj:∀ j ∈ js,j<es.size:=λj z=>QK.mp (hp.mem_iff.mp z);refine k _ _ d (js.filterMap λj=>es[j]?) [(s.heap.push { cls := .type "tuple", data := .seq (js.map λ(j:Nat)=>Uv j).toArray }).objs.size,S,s.heap.objs.size] _ ?_ (λA' hA=>z0z (t:=t) (ep:=ep) hA ?_ ?_ rfl hj) ⟨Heap.get?_push_size _ rfl,T1.keep λo e=>Heap.get?_push_of_some _ e,Heap.get?_push_of_some _ (Heap.get?_push_size _ rfl)⟩ (λb o e=>Heap.get?_push_of_some _ (Heap.get?_push_of_some _ e)) ?_ ?_ ?_ (by simp)
   ·refine(hp.filterMap _).trans ?_;rw[filterMap_getElem?_range]
   ·rw[sz];exact Qm (QI hlt)
   ·rw[sz];exact Qm (Z5 _)
   ·intro b hb hl;rw[sz] at hb;simp at hb;rcases hb with rfl|rfl|rfl
    ·exact absurd hl (JF.mpr (Z8 _))
    ·rfl
    ·exact absurd hl (QQ _)
   ·intro b hb;rw[sz] at hb;rw[sz,sz];simp at hb;rcases hb with rfl|rfl|rfl
    ·exact Z5 _
    ·exact QI (QI hlt)
    ·exact QI (Z5 _)
   ·rw[sz];exact Z8 _
 | false =>
   refine wp_f (by decide) (Va (Vd ?_));refine Va (T.epoch ?_);refine Va (Vm (Vd ⟨_,rfl, "set_iterator", _,⟨_,Heap.get?_push_size _ rfl,rfl⟩,nx_slot.lookup,?_⟩));have ne:S ≠ s.heap.objs.size:=Qm hlt
   have fpo:∀ b ∈ [s.heap.objs.size,S],b<s.heap.objs.size->b=S:=λb hb hl=>by
    simp at hb;rcases hb with rfl|rfl
    ·exact absurd hl (QQ _)
    ·rfl
   have fpl:∀ o:Obj,∀ b ∈ [s.heap.objs.size,S],b<(s.heap.push o).objs.size:=λo b hb=>by
    rw[sz];simp at hb;rcases hb with rfl|rfl
    ·exact Z5 _
    ·exact QI hlt
   cases hb:byT w with
   | true =>
     exact k _ _ s.drawn _ [s.heap.objs.size,S] _ (zqi _ es) (λA' hA=>zz5 (t:=t) hA hb ne) ⟨⟨0,Heap.get?_push_size _ rfl⟩,T.keep λo e=>Heap.get?_push_of_some _ e⟩ (λb o e=>Heap.get?_push_of_some _ e) fpo (fpl _) (Qc _) (by simp)
   | false =>
     have hz:es.size<=1:=by rw[hb] at hd;simpa using hd
     exact k _ _ s.drawn es.toList [s.heap.objs.size,S] _ (.refl _) (λA' hA=>zzs (t:=t) (ep:=ep) hA hb hz ne) ⟨⟨0,λ_=>rfl,λz=>absurd z (by decide),Heap.get?_push_size _ rfl⟩,T.keep λo e=>Heap.get?_push_of_some _ e⟩ (λb o e=>Heap.get?_push_of_some _ e) fpo (fpl _) (Qc _) (by simp)
end
end SX
namespace SX
open PySem PySem.Spec PyProof.Rows
section
variable {P : Vf} {w : Vk} {A : Vl} {E : Vb → Vc → Prop} {s : Vc} {it S : Addr} {es : Es} {ep : Nat} {t : V2}
abbrev lO(xs:Array Vb)(c:Nat):Obj:={ cls := .type "list", dict:=none,data := .seq xs c,slots:=#[] }
theorem zve:Gw (.type "set") (.type "set")=pure true:=by
 rw[Vy];kernel_rfl
theorem zik{a:Addr}{xs:Array Vb}{c:Nat}(f:Array Vb->Array Vb){Q:Unit->Vc->Prop}(ho:s.heap.get? a=some (lO xs c))(hz:xs.size<=sizeLine)(hz2:(f xs).size<=sizeLine+1)
 (h:∀ h' c',h'.get? a=some (lO (f xs) c')->Heap.SameBut a s.heap h'->Q () { s with heap:=h' }):wpAny (model P w) A (Builtin.List.listUpdate (.ref a) f) Q E s :=
 VW ho rfl (h _ _ (Heap.get?_update_self (Obj.mapSeq f) ho rfl) (.update ..)) hz hz2
theorem zm8{Q:List Vb->Vc->Prop}(hh:A.handled=none)(T:Sx w s.heap S es ep t)
 (k:∀ (h':Heap) (d':Drawn) (tk:Nat) (vs:List Vb),Ext s.heap h'->vs.Perm (es.toList.map (·.2))->s.heap.objs.size<h'.objs.size->Q vs { s with heap:=h',drawn:=d',toks:=tk }):wpAny (model P w) A (GH (.ref S)) Q E s:=by
 have hlt:=T.lts;unfold GH;refine Va (Gu (V4 F.entry_proto_collect ?_));rw[Around.under_plainId F.plain_proto_collect _];refine Va (m:=newList []) (Vm ?_);refine Vd ⟨V6 F.plain_list_iadd _,V4 F.entry_list_iadd ?_⟩;rw[Around.under_plainId F.plain_list_iadd _];have T1:Sx w (s.heap.push (lO #[] 0)) S es ep t:=T.keep λo e=>Heap.get?_push_of_some _ e;have eL:(s.heap.push (lO #[] 0)).get? s.heap.objs.size=some (lO #[] 0):=Heap.get?_push_size _ rfl;have sz1:(s.heap.push (lO #[] 0)).objs.size=s.heap.objs.size+1:=Heap.size_push ..;show wpAny _ A.in1 (Builtin.List.listExtendWith (.ref s.heap.objs.size) (.ref S) (.ref s.heap.objs.size)) _ _ { s with heap:=s.heap.push (lO #[] 0) };unfold Builtin.List.listExtendWith;refine Va (V9 (T1.typ (s:={ s with heap:=s.heap.push (lO #[] 0) })) ?_)
 have nsr:Builtin.List.listSameRef (.ref s.heap.objs.size) (.ref S)=false:=by
  show(s.heap.objs.size == S)=false;exact beq_eq_false_iff_ne.mpr (Zs hlt)
 rw[nsr];refine wp_f (by decide) ?_;refine Va (zut (s:={ s with heap:=s.heap.push (lO #[] 0) }) T1 λit h2 d2 ord fp St hp W st ex fpo fpl hit hmem=>?_);have T2:Sx w h2 S es ep t:=T1.keep λo e=>ex _ o e;have tS:Shared.TypeIs { s with heap:=h2,drawn:=d2 } (.ref S) "set" := T2.typ (s:={ s with heap:=h2,drawn:=d2 });refine Va (Vr ?_);unfold Builtin.List.listLengthHint;refine Va (VL tS F.slot_set_len.lookup ?_);generalize hid:("set.__len__" : String)=id0
 (fail_if_success (clear hid id0))
 wp_delta
 rw[show splitId id0=some ("set", "__len__") from by subst hid;decide +kernel];subst hid;refine Va (VN (b:=true) tS zve ?_);refine wp_f (by decide) ?_;refine wp_t (by decide +kernel) ?_;refine Va (V9 tS ?_);refine Vd ?_;refine wp_t (by decide +kernel) ?_;refine Va (V1 ?_);refine Va ?_;unfold Builtin.List.listTouch;have h64:(0:Nat)<=sizeLine:=Qw _;have eL2:h2.get? s.heap.objs.size=some (lO #[] 0):=ex _ _ eL;refine Va (zik (s:={ s with heap:=h2,drawn:=d2 }) (·.push Value.none) eL2 h64 (by simp) λh3 c3 e3 b3=>?_);refine zik (s:={ s with heap:=h3,drawn:=d2 }) (·.pop) e3 (by rw[Vj];decide) (by simp) λh4 c4 e4 b4=>?_
 have nLf:s.heap.objs.size ∉ fp:=λz=>by
  have:=fpo _ z (by rw[sz1];exact Z5 _);exact Zs hlt this
 have st4:St 0 h4:=(W A hh).frame 0 h2 h4 st λb hb o e=>by
  have nb:b ≠ s.heap.objs.size:=λz=>nLf (z ▸ hb);exact(b4.2 b nb).trans ((b3.2 b nb).trans e)
 have hn:ord.length<=sizeLine:=by
  rw[hp.length_eq,QE];exact Ur T.lt
 refine Vd ⟨V6 F.plain_extend_loop _,VR (W A.in1 (by simpa using hh)).toS hn _ nLf _ ord.length 0 { s with heap:=h4,drawn:=d2 } #[] c4 rfl (Qw _) st4 e4 (ItemsOf.nil _) λs' acc c mv eA hacc=>?_⟩;refine Va (G6 eA (Vd ?_));obtain⟨h5,g5,d5,tk5,os5⟩:=s';obtain rfl:g5=s.gens:=mv.gens;obtain rfl:d5=d2:=mv.drawn;obtain rfl:os5=s.os:=mv.os
 have ev:acc.toList=ord.map (·.2):=by
  refine ZB λi=>?_;rw[QA]
  by_cases hi:i<acc.size
  ·rw[Q1 hi];obtain⟨e,h1,h2⟩:=hacc.2 i _ (Q1 hi);rw[Qk,h1,h2];rfl
  ·rw[Zy (by omega),Qk,Qu (by have:=hacc.1;omega)];rfl
 refine k h5 d5 tk5 acc.toList (λb o e=>mv.heap b o (λz=>?_) ?_) (by rw[ev];exact hp.map _) (Heap.lt_size eA)
 ·have hbl:=Heap.lt_size e;rcases Qs.mp z with z|z
  ·exact Qm hbl z
  ·rw[Qg.mp z] at hbl;have:s.heap.objs.size+1<=it:=by rw[<- sz1];exact hit
   exact absurd hbl (JF.mpr (ZK this))
 ·have nb:b ≠ s.heap.objs.size:=Qm (Heap.lt_size e);exact(b4.2 b nb).trans ((b3.2 b nb).trans (ex b o (Heap.get?_push_of_some _ e)))
end
end SX
namespace SX
open PySem PySem.Spec PyProof.Rows
section
variable {P : Vf} {w : Vk} {A : Vl} {E : Vb → Vc → Prop} {s : Vc} {it S : Addr} {es : Es} {ep : Nat} {t : V2}
theorem znw:∀ {vs:List Vb},(∀ v ∈ vs,∃ x t,v = .str x t)->UO vs (vs.map strOf)
 | [],_ => .nil
 | v::vs,h=>by
   obtain⟨x,t,rfl⟩:=h v (by simp);exact .cons x t (znw λu z=>h u (Qb _ z))
end
end SX
namespace L3
open PySem PySem.Spec
open PyProof.Rows hiding St
open L2
open SX
theorem Inv.draw{X:Cx}{pins:List (Addr × Obj)}{σ:List (Option V)}{H:Hp}{s:Vc}(I:Inv X pins σ H s)(d:Drawn):Inv X pins σ H { s with drawn:=d } :=
 ⟨I.ok,I.os,I.bare,I.base,I.loc,I.cell,I.free,I.freeC,I.pin,I.hok,I.len⟩
def TxsV(K:PySem.W.Frag)(H:Hp)(v:V)(ys:List Str):Prop:=(∃ x:Str,v = .str x/\ys=x.cps.toList.map sg)\/∃ a,v = .ref a/\SqL K H a (ys.map V.str)
theorem z0f{P:Vf}{w:Vk}{h:Heap}(x:Str)(tk:Tok):Src P w h (.str x tk) x.cps.size (SignAt x):=λA E s₁ Q hh ex k=>by
 refine wpAny_pyIter_str λo St W st=>?_;refine k _ _ [s₁.heap.objs.size] St W st (λb o e=>Heap.get?_push_of_some _ e) (λb hb => .inr (by simp at hb;exact YQ hb.symm)) (Qc _)
theorem z1t{P:Vf}{w:Vk}{h:Heap}{l:Addr}{items:Array Vb}(hl:h.IsList l items):Src P w h (.ref l) items.size (λi v=>items[i]? = some v):=λA E s₁ Q hh ex k=>by
 have hl1:s₁.heap.IsList l items:=hl.at λo e=>ex l o e;have lt:l<h.objs.size:=by obtain⟨o,e,_⟩:=hl;exact Heap.lt_size e
 have lt1:l<s₁.heap.objs.size:=by obtain⟨o,e,_⟩:=hl1;exact Heap.lt_size e
 refine Ut hl1 ?_;refine k s₁.heap.objs.size _ [s₁.heap.objs.size,l] _ (λA' hA=>Walks.list hA _ l (Qm lt1) items) ⟨⟨_,Heap.get?_push_size _ rfl,rfl,rfl⟩,hl1.push _⟩ (λb o e=>Heap.get?_push_of_some _ e) (λb hb=>?_) (Qc _);simp at hb;rcases hb with rfl|rfl
 ·exact .inr (Qc _)
 ·exact .inl lt
theorem zjv{xs ys:List Str}(h:xs.Nodup)(hs:∀ k ∈ xs,k ∈ ys):xs.length<=ys.length:=by
 induction xs generalizing ys with
 | nil=>exact Qw _
 | cons x xs ih =>
   have hx:x ∈ ys:=hs x (by simp);have h':=Zi.mp h;have:=ih (ys:=ys.erase x) h'.2 λk hk=>(Yx (λz:k=x=>h'.1 (z ▸ hk))).mpr (hs k (Qb _ hk));rw[JT hx] at this;have:0<ys.length:=Yk hx;simp only[Qf];omega
theorem zt1{α:Type}{enc:α->Ve}{i h:Nat}{ft:DT}{fe:DE}{ρ:DSt}{Q:List Ve->Prop}{as:List α}{p:α->Bool}{e:α->Ve}
 (step:∀ a ∈ as,∀ (Pn:Prop) (Py:R->Prop),(p a=false->Pn)->(p a=true->∀ r,r.d=e a->Py r)->ft ((Qh h none++ρ).set i (some (.im (enc a)))) λt=>if t=true then fe ((Qh h none++ρ).set i (some (.im (enc a)))) Py else Pn)
 (hz:as.length<=sizeLine) (q:Q ((as.filter p).map e)):za4 h (gN i) ft fe ρ Q (as.map enc) []:=by
 have key:∀ (l:List α) (acc:List Ve),(∀ a ∈ l,a ∈ as)->acc.length+l.length<=sizeLine->Q (acc++(l.filter p).map e)->za4 h (gN i) ft fe ρ Q (l.map enc) acc:=by
  intro l
  induction l with
  | nil=>intro acc _ _ q;show Q acc;simpa using q
  | cons a l ih =>
    intro acc hs hz q;rw[Qf] at hz;refine step a (hs a Qt) (za4 h (gN i) ft fe ρ Q (l.map enc) acc) (λr=>acc.length<sizeLine/\za4 h (gN i) ft fe ρ Q (l.map enc) (acc ++ [r.d])) (λhp=>?_) (λhp r hr=>⟨by omega,?_⟩)
    ·refine ih acc (λb hb=>hs b (Qb _ hb)) (by omega) ?_;rw[Jz,hp] at q;exact q
    ·refine ih _ (λb hb=>hs b (Qb _ hb)) (by rw[Qj,QO];omega) ?_;rw[Jz,hp,GQ rfl,Qn] at q;rw[hr,Q3];exact q
 exact key as [] (λ_ h=>h) (by simpa using hz) (by simpa using q)
theorem zye{n b n' b':Nat}{neg:Bool}{ds es:List Ve}(h:Nice n b (.tuple ds))(h':Nice n' b' (.tuple es))(hn:n<=60:=by decide){q:Bool}(hq:q=true↔ds=es):eqF neg (.list ds) (.list es)=some (.o (.bool (if neg then !q else q))):=by
 have o1:okD (.list ds)=true:=by
  have:=h.okD hn;unfold okD at this ⊢;simpa[PyData.canLay0,PyData.depth] using this
 have o2:(PyData.list es).canLay0=true:=by simpa[PyData.canLay0] using h'.lay
 unfold eqF;rw[GQ (by rw[o1,o2];rfl)]
 have e1:PyData.eqv (.list ds) (.list es)=q:=by
  have:=(ze5 ds es (by simpa[solid] using h.sol) (by simpa[solid] using h'.sol)).trans hq.symm;simp only[PyData.eqv];cases h1:PyData.eqvAll ds es <;> cases q <;> simp_all
 rw[e1]
theorem zsz{n b:Nat}{ds:List Ve}(h:Nice n b (.tuple ds))(hn:n<=60:=by decide)(hb:b<=1048576:=by decide):∃ x,zge [.list ds]=some (.o (.str x))/\PyData.strOk x=true:=by
 have h1:=h.lay;have h2:=h.sh;have h3:=h.dep;have h4:=h.sho;have h5:=h.bul;have:(2:Nat) ^ 20=1048576:=by decide
 exact zxn (by simpa[PyData.canLay0] using h1) (by simpa[PyData.showable] using h2) (by simp[PyData.depth] at h3 ⊢; omega) (by simpa[PyData.leavesShort] using h4) (by simp[PyData.bulk] at h5 ⊢; omega)
end L3
namespace L3
open PySem PySem.Spec
open PyProof.Rows hiding St
open L2 L6
section
variable {K : PySem.W.Frag} {O : Ob}
def KsAre(K:PySem.W.Frag)(H:Hp)(ks:List V)(ps:List (Int × Str)):Prop:=ps.length=ks.length/\∀ (i:Nat) v p,ks[i]? = some v->ps[i]? = some p->∃ a,v = .ref a/\SqT K H a [.int p.1,.str p.2]
theorem KsAre.stay{H H':Hp}{ks:List V}{ps:List (Int × Str)}(t:TupStay H H')(h:KsAre K H ks ps):KsAre K H' ks ps:=⟨h.1,λi v p e1 e2=>let ⟨a,e,q⟩:=h.2 i v p e1 e2; ⟨a,e,SqT.stay t q⟩⟩
theorem KsAre.snoc{H:Hp}{ks:List V}{ps:List (Int × Str)}{a:Addr}{p:Int × Str}(h:KsAre K H ks ps)(q:SqT K H a [.int p.1,.str p.2]):KsAre K H (ks ++ [.ref a]) (ps ++ [p]):=by
 refine⟨by rw[Qj,Qj,h.1];rfl,λi v p' e1 e2=>?_⟩
 by_cases hi:i<ks.length
 ·rw[Qz hi] at e1;rw[Qz (by rw[h.1];exact hi)] at e2;exact h.2 i v p' e1 e2
 ·rw[Q4 (Jd hi)] at e1;rw[Q4 (by rw[h.1];exact Jd hi),h.1] at e2
  cases hk:i - ks.length with
  | zero =>
    rw[hk] at e1 e2;cases e1;cases e2;exact⟨a,rfl,q⟩
  | succ j =>
    rw[hk] at e1;cases e1
theorem zy7{F:Addr->Prop}{H:Hp}{v:V}{i:Int}{x:Str}(h:Is K F H v (.tuple [.int i,.str x])):∃ a,v = .ref a/\SqT K H a [.int i,.str x]:=by
 cases h with
 | tuple q r =>
   cases r with
   | cons r1 r2 =>
     cases r2 with
     | cons r2 r3 =>
       cases r3;cases r1;cases r2;exact⟨_,rfl,q⟩
theorem zqr{φ:Ob->Prop}{F:List Ve->(R->Prop)->Prop}{kf:Ve->Int × Str}{Z:List V->Hp->Prop}(ok:O.Ok)(hφ:φ O) :
 ∀ (ds:List Ve) (xs:List V) (done:List (Int × Str)) (ks:List V) (H:Hp),O.P H->IsAll K (unM O) H xs ds->KsAre K H ks done->(∀ d ∈ ds,F [d] λr=>r.d = .tuple [.int (kf d).1,.str (kf d).2]) ->
   (∀ ks' H',Stp O H H'->KsAre K H' ks' (done++ds.map kf)->Z ks' H')->zk0 (spO K φ 1 F) Z xs ks H
 | [],[],done,ks,H,p,.nil,hk,_,k=>k ks H (.refl _ _) (by simpa using hk)
 | d::ds,x::xs,done,ks,H,p,.cons ix is,hk,hF,k=>by
   refine⟨O,[d],_,ok,hφ,p,rfl,.cons ix .nil,hF d (by simp),λr hr v H' st o=>?_⟩;have iv:=o.is ok p;rw[hr] at iv;obtain⟨a,rfl,q⟩:=zy7 iv;refine zqr ok hφ ds xs (done ++ [kf d]) (ks ++ [.ref a]) H' (st.p p) (is.stp st (λ_ f=>f) (λ_ f=>f)) ((hk.stay st.t).snoc q) (λe he=>hF e (Qb _ he)) λks' H2 st2 hk2=>k ks' H2 (st.trans st2) ?_;rw[Q3] at hk2;exact hk2
def kfl(kf:Ve->Int × Str)(d:Ve):Int × List Nat:=((kf d).1,(kf d).2.cps.toList)
def zel(kf:Ve->Int × Str)(ds:List Ve):List Ve:=ds.mergeSort λp q=>!plt (kfl kf q) (kfl kf p)
theorem zpt{H:Hp}{F:Addr->Prop}{xs:List V}{ds:List Ve}(h:IsAll K F H xs ds){ix:Nat->Nat}{n:Nat}(hx:∀ i,i<n->ix i<ds.length):IsAll K F H ((Qx n).map λi=>xs.getD (ix i) .non) ((Qx n).map λi=>ds.getD (ix i) .none):=by
 have go:∀ l:List Nat,(∀ i ∈ l,ix i<ds.length)->IsAll K F H (l.map λi=>xs.getD (ix i) .non) (l.map λi=>ds.getD (ix i) .none):=by
  intro l
  induction l with
  | nil=>intro _;exact .nil
  | cons i l ih =>
    intro hl;refine .cons ?_ (ih λj hj=>hl j (Qb _ hj));have hi:=hl i (by simp);obtain⟨v,hv,iv⟩:=h.get (i:=ix i) (d:=ds[ix i]) (Qa hi);show Is K F H (xs.getD (ix i) .non) (ds.getD (ix i) .none);rw[Qq,Qq,hv,Qa hi];exact iv
 exact go _ λi hi=>hx i (QK.mp hi)
end
end L3
namespace DU
open PySem PySem.Spec PyProof.Rows
theorem zw0:U8 GP "dict.update.loop" = some Builtin.«dict.update.loop»:=by
 refine Uu ?_;kernel_rfl
theorem plain:plainId "dict.update.loop" = true:=by decide +kernel
end DU
namespace DU
open PySem PySem.Spec PyProof.Rows
theorem zxo:Uj (.type "list") "keys" = pure none:=by
 rw[Vw,Vo];kernel_rfl
theorem kz:(Str.ofString "keys").length+100<=sizeLine:=by decide +kernel
section
variable {P : Vf} {w : Vk} {A : Vl} {E : Vb → Vc → Prop} {s : Vc}
theorem zry{a:Addr}{o:Obj}{xs:Array Vb}{k:Nat}{Q:Option Vb->Vc->Prop}(hx:s.heap.get? a=some o)(hc:o.cls = .type "list")(hdt:o.data = .seq xs k)(hdd:o.dict=none)(hA:A.handled=none)
 (h:∀ h' tk,SX.Ext s.heap h'->Q none { s with heap:=h',toks:=tk }):wpAny (model P w) A (getAttr? (.ref a) "keys") Q E s:=by
 obtain⟨oc,odc,od,sl⟩:=o;simp only at hc hdt hdd;subst hc hdt hdd;obtain⟨hp,g,d,tk,os⟩:=s;have hT:∀ tk',(⟨hp,g,d,tk',os⟩:Vc).TypeIs (.ref a) "list" := λ_=>⟨_,hx,rfl⟩;have g1:=sub_AttributeError;have g3:=F.slot_list_getattribute.lookup;have g4:=F.slot_list_getattribute.bind (.ref a);have g5:=am_list_getattr_none;unfold getAttr? getAttrBy? getAttrBy
 repeat (any_goals (first|assumption|exact hT _|((with_reducible show wpAny _ _ (call (Value.builtin "list.__getattribute__") _ _) _ _ _);refine VJ F.slot_list_getattribute (hT _) am_entry_list_getattribute (F.args_list_getattribute_2 _ _) (meets_getattribute_miss_list a xs k sl "keys" _ zxo (by decide +kernel) kz) ⟨hx,hA,λh' tk' e hx'=>?_⟩)|wp_step))
 obtain⟨t',u',he⟩:=hx'.there;show wpAny _ _ (getattributeRaised _ _ _ _ _ _ _) _ _ _;unfold getattributeRaised
 repeat (any_goals (first|assumption|wp_step))
 exact h _ _ hx'.of.keeps
end
end DU
namespace L3
open PySem PySem.Spec
open PyProof.Rows hiding St
open L2
theorem zxg:Vv "dict" = some (.type "dict"):=by decide +kernel
def stl(a:Addr)(o:Obj):HO := .ext λh=>h.get? a=some o
theorem zuw{k:Key}{v:Vb}(h:zdw k v=true):RelV (kV k) v:=by
 rcases zaw h with ⟨i,t,rfl,rfl⟩|⟨x,t,rfl,rfl⟩
 ·exact⟨t,rfl⟩
 ·exact⟨t,rfl⟩
end L3
namespace L6
open PySem PySem.Spec
open PyProof.Rows hiding St
open L2 L3
section
variable {X : Cx} {pins : List (Addr × Obj)} {σ : St} {H : Hp} {s : Vc}
theorem zj0:∀ {kvs:List (Key × V)} {vs:List (Key × Vb)} {us:List Vb},KV kvs vs->us.length=vs.length->(∀ (i:Nat) u,us[i]? = some u->∃ p,vs[i]? = some p/\zdw p.1 u=true)->Vals (kvs.map λp=>kV p.1) us
 | [],[],[],_,_,_ => .nil
 | [],[],_::_,_,hl,_=>by simp at hl
 | _::_,_::_,[],_,hl,_=>by simp at hl
 | p::kvs,q::vs,u::us,.cons r t,hl,h=>by
   refine .cons ?_ (zj0 (vs:=vs) t (by simpa using hl) λi u e=>?_)
   ·obtain⟨p',e,hk⟩:=h 0 u rfl;have e':q=p':=by simpa using e
    subst e';show RelV (kV p.1) u;rw[r.1];exact zuw hk
   ·obtain⟨p',e,hk⟩:=h (i+1) u (by simpa using e);exact⟨p',by simpa using e,hk⟩
end
end L6
namespace L3
open PySem PySem.Spec
open PyProof.Rows hiding St
open L2 L6
def zbi(ws:List (List Nat)):List (List Nat):=ws.mergeSort λa b=>!wlt b a
theorem zkn{α β:Type}{r:α->α->Bool}{s:β->β->Bool}{f:α->β}{l:List α}(hr:∀ a ∈ l,∀ b ∈ l,r a b=s (f a) (f b)):(l.mergeSort r).map f=(l.map f).mergeSort s:=List.map_mergeSort hr
theorem zk8{kf:Ve->Int × Str}{ws:List (List Nat)}(hk:∀ w ∈ ws,kf (tS w)=(((w.length:Nat):Int),tx w)):zel kf (ws.map tS)=(zbi ws).map tS:=by
 unfold zel zbi;refine(zkn λa ha b hb=>?_).symm;have h1:kfl kf (tS a)=(((a.length:Nat):Int),a):=by unfold kfl;rw[hk a ha];show(_,(tx a).cps.toList)=_;rw[zbe]
 have h2:kfl kf (tS b)=(((b.length:Nat):Int),b):=by unfold kfl;rw[hk b hb];show(_,(tx b).cps.toList)=_;rw[zbe]
 rw[h1,h2,zyr]
def wkey:Ve->Int × Str
 | .str x=>((x.length:Nat),x)
 | _=>(0,Str.empty)
theorem znm(w:List Nat):wkey (tS w)=(((w.length:Nat):Int),tx w):=by
 show((((tx w).length:Nat):Int),tx w)=_;rw[zb5]
theorem zm4(ws:List (List Nat)):zel wkey (ws.map tS)=(zbi ws).map tS:=zk8 λw _=>znm w
theorem zvf(ws:List (List Nat)):(zbi ws).Pairwise λa b=>wlt b a=false:=by
 have:=Ya (le:=λa b=>!wlt b a) (λa b c h1 h2=>?_) (λa b=>?_) ws
 ·exact this.imp λh=>by simpa using h
 ·have h1:wlt b a=false:=by simpa using h1
  have h2:wlt c b=false:=by simpa using h2
  show(!wlt c a)=true
  cases h:wlt c a with
  | false=>rfl
  | true =>
    rcases zxj c b a h with z|z
    ·rw[z] at h2;cases h2
    ·rw[z] at h1;cases h1
 ·show(!wlt b a || !wlt a b)=true;cases h1:wlt b a <;> cases h2:wlt a b <;> try rfl
  have:=zk5 _ _ _ h1 h2;rw[zd6] at this;cases this
theorem zt7{ws:List (List Nat)}(h:ws.Nodup):(zbi ws).Nodup:=(ZM ws _).nodup_iff.mpr h
theorem zlu{ws:List (List Nat)}(h:ws.Nodup):(zbi ws).Pairwise λa b=>wlt a b=true:=by
 have h1:=zvf ws;have h2:(zbi ws).Pairwise λa b=>a ≠ b:=zt7 h;refine(h1.and h2).imp λ{a b} h=>?_
 cases z:wlt a b with
 | true=>rfl
 | false=>exact absurd (zne a b z h.1) h.2
abbrev W:=List Nat
def CS(a b w:W):Prop:=a.Sublist w/\b.Sublist w
def Mn(a b w:W):Prop:=CS a b w/\∀ i,i<w.length->¬ CS a b (w.eraseIdx i)
theorem CS.swap{a b w:W}(h:CS a b w):CS b a w:=⟨h.2,h.1⟩
theorem mn_swap{a b w:W}:Mn a b w↔Mn b a w:=⟨λh=>⟨h.1.swap,λi hi z=>h.2 i hi z.swap⟩,λh=>⟨h.1.swap,λi hi z=>h.2 i hi z.swap⟩⟩
theorem zi0:∀ {b w:W},b.Sublist w->b ≠ w->∃ i,i<w.length/\b.Sublist (w.eraseIdx i)
 | _,_,.slnil,h=>absurd rfl h
 | b,x::w,.cons _ s,_=>⟨0,by simp,s⟩
 | x::b,_::w,.cons₂ _ s,h=>by
   obtain⟨i,hi,z⟩:=zi0 s (λe=>h (by rw[e]));exact⟨i+1,by simpa using hi,z.cons₂ x⟩
theorem zd9{b w:W}:Mn [] b w↔w=b:=by
 constructor
 ·rintro⟨⟨_,h⟩,z⟩
  by_cases e:b=w
  ·exact e.symm
  ·obtain⟨i,hi,h'⟩:=zi0 h e;exact absurd ⟨Zr _,h'⟩ (z i hi)
 ·rintro rfl;refine⟨⟨Zr _,.refl _⟩,λi hi ⟨_,z⟩=>?_⟩;have:=z.length_le;rw[ZL,GQ hi] at this;omega
theorem zee{c d:Nat}{b u:W}(h:c ≠ d):(c::b).Sublist (d::u)↔(c::b).Sublist u:=by
 constructor
 ·intro s
  cases s with
  | cons _ s=>exact s
  | cons_cons _ s=>exact absurd rfl h
 ·exact λs=>s.cons d
theorem zyo{c:Nat}{a b u:W}(hb:∀ x b',b=x::b'->x ≠ c):CS (c::a) b (c::u)↔CS a b u:=by
 constructor
 ·rintro⟨h1,h2⟩;refine⟨Zk.mp h1,?_⟩
  cases b with
  | nil=>exact Zr _
  | cons x b'=>exact(zee (hb x b' rfl)).mp h2
 ·rintro⟨h1,h2⟩;exact⟨Zk.mpr h1,h2.cons c⟩
theorem zg3{a b w:W}{x:Nat}(h:Mn a b (x::w)):(∃ a',a=x::a')\/∃ b',b=x::b':=by
 have z:=h.2 0 (by simp);rw[ZQ] at z
 cases a with
 | nil =>
   cases b with
   | nil=>exact absurd ⟨Zr _,Zr _⟩ z
   | cons y b' =>
     by_cases e:y=x
     ·exact .inr ⟨b',by rw[e]⟩
     ·exact absurd ⟨Zr _,(zee e).mp h.1.2⟩ z
 | cons c a' =>
   by_cases e:c=x
   ·exact .inl ⟨a',by rw[e]⟩
   ·have s1:=(zee e).mp h.1.1
    cases b with
    | nil=>exact absurd ⟨s1,Zr _⟩ z
    | cons y b' =>
      by_cases e':y=x
      ·exact .inr ⟨b',by rw[e']⟩
      ·exact absurd ⟨s1,(zee e').mp h.1.2⟩ z
theorem mn_same{c:Nat}{a b w:W}:Mn (c::a) (c::b) w↔∃ u,w=c::u/\Mn a b u:=by
 have up:∀ u,CS (c::a) (c::b) (c::u)↔CS a b u:=λu=>⟨λh=>⟨Zk.mp h.1,Zk.mp h.2⟩,λh=>⟨Zk.mpr h.1,Zk.mpr h.2⟩⟩;constructor
 ·intro h
  cases w with
  | nil=>exact absurd h.1.1.length_le (by simp)
  | cons x u =>
    have e:x=c:=by
     rcases zg3 h with ⟨a',e⟩|⟨b',e⟩ <;> (injection e with e _;exact e.symm)
    subst e;refine⟨u,rfl,(up u).mp h.1,λi hi z=>h.2 (i+1) (by simpa using hi) ?_⟩;rw[QW];exact(up _).mpr z
 ·rintro⟨u,rfl,h⟩;refine⟨(up u).mpr h.1,λi hi z=>?_⟩
  cases i with
  | succ i =>
    rw[QW] at z;exact h.2 i (by simpa using hi) ((up _).mp z)
  | zero =>
    rw[ZQ] at z
    -- the first c in u may go
    have key:∀ {a u:W},(c::a).Sublist u->∃ i,i<u.length/\(∀ j,j<i->u[j]? ≠ some c)/\u[i]? = some c:=by
     intro a u s
     induction u with
     | nil=>exact absurd s.length_le (by simp)
     | cons x u ih =>
       by_cases e:x=c
       ·exact⟨0,by simp,λj hj=>absurd hj (by omega),by simp[e]⟩
       ·obtain⟨i,h1,h2,h3⟩:=ih ((zee (Zj e)).mp s);refine⟨i+1,by simpa using h1,λj hj=>?_,by simpa using h3⟩
        cases j with
        | zero=>simpa using e
        | succ j=>simpa using h2 j (by omega)
    have rem:∀ {a u:W} {i:Nat},(c::a).Sublist u->(∀ j,j<i->u[j]? ≠ some c)->u[i]? = some c->a.Sublist (u.eraseIdx i):=by
     intro a u
     induction u with
     | nil=>intro i s;exact absurd s.length_le (by simp)
     | cons x u ih =>
       intro i s h2 h3
       cases i with
       | zero =>
         have e:x=c:=by simpa using h3
         subst e;exact Zk.mp s
       | succ i =>
         have e:x ≠ c:=by simpa using h2 0 (by omega)
         rw[QW];exact(ih ((zee (Zj e)).mp s) (λj hj=>by simpa using h2 (j+1) (by omega)) (by simpa using h3)).cons x
    obtain⟨i,h1,h2,h3⟩:=key z.1;exact h.2 i h1 ⟨rem z.1 h2 h3,rem z.2 h2 h3⟩
theorem zen{c d:Nat}{a b u:W}(ne:c ≠ d):Mn (c::a) (d::b) (c::u)↔Mn a (d::b) u/\¬ CS (c::a) (d::b) u:=by
 have up:∀ u,CS (c::a) (d::b) (c::u)↔CS a (d::b) u:=λu=>zyo λx b' e=>by injection e with e _;rw[<- e];exact Zj ne
 constructor
 ·intro h;refine⟨⟨(up u).mp h.1,λi hi z=>h.2 (i+1) (by simpa using hi) ?_⟩,?_⟩
  ·rw[QW];exact(up _).mpr z
  ·have:=h.2 0 (by simp);rwa [ZQ] at this
 ·rintro⟨h,n⟩;refine⟨(up u).mpr h.1,λi hi z=>?_⟩
  cases i with
  | zero=>rw[ZQ] at z;exact n z
  | succ i =>
    rw[QW] at z;exact h.2 i (by simpa using hi) ((up _).mp z)
theorem zgs{c d:Nat}{a b u:W}(ne:c ≠ d):Mn (c::a) (d::b) (d::u)↔Mn (c::a) b u/\¬ CS (c::a) (d::b) u:=by
 rw[mn_swap,zen (Zj ne),mn_swap (a:=b)];exact⟨λh=>⟨h.1,λz=>h.2 z.swap⟩,λh=>⟨h.1,λz=>h.2 z.swap⟩⟩
theorem znv{c d:Nat}{a b w:W}(ne:c ≠ d):Mn (c::a) (d::b) w↔(∃ u,w=c::u/\Mn a (d::b) u/\¬ CS (c::a) (d::b) u)\/∃ u,w=d::u/\Mn (c::a) b u/\¬ CS (c::a) (d::b) u:=by
 constructor
 ·intro h
  cases w with
  | nil=>exact absurd h.1.1.length_le (by simp)
  | cons x u =>
    rcases zg3 h with ⟨a',e⟩|⟨b',e⟩
    ·injection e with e _;subst e;exact .inl ⟨u,rfl,(zen ne).mp h⟩
    ·injection e with e _;subst e;exact .inr ⟨u,rfl,(zgs ne).mp h⟩
 ·rintro(⟨u,rfl,h⟩|⟨u,rfl,h⟩)
  ·exact(zen ne).mpr h
  ·exact(zgs ne).mpr h
theorem zw5{c d:Nat}{a b u:W}(h:Mn a (d::b) u)(z:CS (c::a) (d::b) u):Mn (c::a) (d::b) u:=by
 refine⟨z,λi hi y=>h.2 i hi ⟨?_,y.2⟩⟩;exact((Jr c a).trans y.1)
theorem ztj{c d:Nat}{a b u:W}(h:Mn (c::a) b u)(z:CS (c::a) (d::b) u):Mn (c::a) (d::b) u:=by
 refine⟨z,λi hi y=>h.2 i hi ⟨y.1,?_⟩⟩;exact((Jr d b).trans y.2)
def wnf(l:List W):List W:=l.foldl (λk w=>if k.contains w.tail then k else if k.contains w then k else k ++ [w]) []
def Abv(a b:W)(zs:List W):Prop:=zs.Pairwise (λx y=>wlt x y=true)/\∀ w,w ∈ zs↔Mn a b w
theorem Abv.uniq{a b:W}{zs ys:List W}(h:Abv a b zs)(h':Abv a b ys):zs=ys:=zq3 h.1 h'.1 λx=>(h.2 x).trans (h'.2 x).symm
theorem Abv.nodup{a b:W}{zs:List W}(h:Abv a b zs):zs.Nodup:=h.1.imp λ{x y} z e=>by rw[e,zd6] at z;cases z
theorem zou(b:W):Abv [] b [b]:=⟨Jo _ _,λw=>by rw[zd9];simp⟩
theorem zlj{a b:W}{zs:List W}(h:Abv a b zs):Abv b a zs:=⟨h.1,λw=>(h.2 w).trans mn_swap⟩
theorem zuk{c:Nat}{x y:W}:wlt (c::x) (c::y)=wlt x y:=by
 unfold wlt;simp only[Qf,List.cons_lt_cons_self,Nat.add_lt_add_iff_right,Nat.add_right_cancel_iff]
theorem zvg{c:Nat}{a b:W}{zs:List W}(h:Abv a b zs):Abv (c::a) (c::b) (zs.map (c :: ·)):=by
 refine⟨Zw.mpr (h.1.imp λ{x y} z=>by rw[zuk];exact z),λw=>?_⟩;rw[mn_same,Qp];exact⟨λ⟨u,hu,e⟩=>⟨u,e.symm,(h.2 u).mp hu⟩,λ⟨u,e,hu⟩=>⟨u,(h.2 u).mpr hu,e.symm⟩⟩
theorem zqv{s:List W}{good:W->Bool}(so:s.Pairwise λx y=>wlt x y=true)(ne:∀ w ∈ s,w ≠ [])(hg:∀ w ∈ s,good w=false↔(w.tail ∈ s/\good w.tail=true)) :
 ∀ (rest pre:List W),s=pre++rest->rest.foldl (λk w=>if k.contains w.tail then k else if k.contains w then k else k ++ [w]) (pre.filter good)=s.filter good
 | [],pre,e=>by rw[e,QD];rfl
 | w::rest,pre,e=>by
   have hw:w ∈ s:=by rw[e];simp
   have tw:w.tail ∈ s->w.tail ∈ pre:=λh=>by
    rw[e] at h so;rcases Qv.mp h with h|h
    ·exact h
    ·exfalso
     have le:w.tail.length<w.length:=by
      cases w with
      | nil=>exact absurd rfl (ne [] hw)
      | cons x w=>simp
     have so2:=(Yy.mp so).2.1;rcases Qs.mp h with h|h
     ·rw[h] at le;omega
     ·have:=(ZH.mp so2).1 _ h;rcases wlt_iff.mp this with z|z <;> omega
   have nw:w ∉ pre:=λh=>by
    rw[e] at so;have:=(Yy.mp so).2.2 w h w (by simp);rw[zd6] at this;cases this
   have ih:=zqv so ne hg rest (pre ++ [w]) (by rw[e];simp);rw[Z1];rw[JE] at ih
   cases h:good w with
   | false =>
     obtain⟨h1,h2⟩:=(hg w hw).mp h;rw[GQ (by simpa using ⟨tw h1,h2⟩)];rw[List.filter_cons_of_neg (by rw[h];decide)] at ih;simpa using ih
   | true =>
     rw[GT,GT]
     ·rw[List.filter_cons_of_pos h] at ih;simpa using ih
     ·intro z;have z:w ∈ pre.filter good:=by simpa using z
      exact nw (Z0.mp z).1
     ·intro z;have z:w.tail ∈ pre.filter good:=by simpa using z
      obtain⟨z1,z2⟩:=Z0.mp z;have:good w=false:=(hg w hw).mpr ⟨by rw[e];exact Zp _ z1,z2⟩;rw[h] at this;cases this
theorem zo8{s:List W}{good:W->Bool}(so:s.Pairwise λx y=>wlt x y=true)(ne:∀ w ∈ s,w ≠ [])(hg:∀ w ∈ s,good w=false↔(w.tail ∈ s/\good w.tail=true)):wnf s=s.filter good:=zqv so ne hg s [] rfl
open Classical in
theorem zuj{c d:Nat}{a b:W}{xs ys s:List W}(ne:c ≠ d)(hx:Abv a (d::b) xs)(hy:Abv (c::a) b ys)(so:s.Pairwise λx y=>wlt x y=true)(hs:∀ w,w ∈ s↔w ∈ xs.map (c :: ·)++ys.map (d :: ·)):Abv (c::a) (d::b) (wnf s):=by
 have mem:∀ w,w ∈ s↔(∃ u,w=c::u/\Mn a (d::b) u)\/∃ u,w=d::u/\Mn (c::a) b u:=λw=>by
  rw[hs,Qv,Qp,Qp];constructor
  ·rintro(⟨u,hu,rfl⟩|⟨u,hu,rfl⟩)
   ·exact .inl ⟨u,rfl,(hx.2 u).mp hu⟩
   ·exact .inr ⟨u,rfl,(hy.2 u).mp hu⟩
  ·rintro(⟨u,rfl,hu⟩|⟨u,rfl,hu⟩)
   ·exact .inl ⟨u,(hx.2 u).mpr hu,rfl⟩
   ·exact .inr ⟨u,(hy.2 u).mpr hu,rfl⟩
 have nn:∀ w ∈ s,w ≠ []:=λw hw e=>by
  subst e;rcases(mem []).mp hw with ⟨u,e,_⟩|⟨u,e,_⟩ <;> cases e
 -- a word of s is least just where its rest is not above both
 have mn:∀ w ∈ s,Mn (c::a) (d::b) w↔¬ CS (c::a) (d::b) w.tail:=λw hw=>by
  rcases(mem w).mp hw with ⟨u,rfl,hu⟩|⟨u,rfl,hu⟩
  ·rw[zen ne];exact⟨λh=>h.2,λh=>⟨hu,h⟩⟩
  ·rw[zgs ne];exact⟨λh=>h.2,λh=>⟨hu,h⟩⟩
 have sub:∀ w,Mn (c::a) (d::b) w->w ∈ s:=λw h=>by
  rw[mem];rcases(znv ne).mp h with ⟨u,e,hu,_⟩|⟨u,e,hu,_⟩
  ·exact .inl ⟨u,e,hu⟩
  ·exact .inr ⟨u,e,hu⟩
 have rest:∀ w ∈ s,CS (c::a) (d::b) w.tail->Mn (c::a) (d::b) w.tail:=λw hw z=>by
  rcases(mem w).mp hw with ⟨u,rfl,hu⟩|⟨u,rfl,hu⟩
  ·exact zw5 hu z
  ·exact ztj hu z
 have cs:∀ w ∈ s,CS (c::a) (d::b) w:=λw hw=>by
  rcases(mem w).mp hw with ⟨u,rfl,hu⟩|⟨u,rfl,hu⟩
  ·exact⟨hu.1.1.cons_cons c,hu.1.2.cons c⟩
  ·exact⟨hu.1.1.cons d,hu.1.2.cons_cons d⟩
 have e:=zo8 (good:=λw=>decide (Mn (c::a) (d::b) w)) so nn λw hw=>by
  rw[decide_eq_false_iff_not,GY,mn w hw,Classical.not_not];exact⟨λz=>⟨sub _ (rest w hw z),rest w hw z⟩,λz=>cs _ z.1⟩
 rw[e];refine⟨so.sublist List.filter_sublist,λw=>?_⟩;rw[Z0,GY];exact⟨λh=>h.2,λh=>⟨sub w h,h⟩⟩
theorem zgy:∀ {w a b:W},Mn a b w->w.length<=a.length+b.length/\∀ c ∈ w,c ∈ a\/c ∈ b
 | [],a,b,_=>⟨by simp,λc hc=>by cases hc⟩
 | x::u,a,b,h=>by
   have go:∀ {a b:W},Mn (x::a) b (x::u)->(x::u).length<=(x::a).length+b.length/\∀ c ∈ x::u,c ∈ x::a\/c ∈ b:=λ{a b} h=>by
    cases b with
    | nil =>
      rw[mn_swap,zd9] at h;rw[h];exact⟨by simp,λc hc => .inl hc⟩
    | cons y b' =>
      by_cases e:x=y
      ·subst e;obtain⟨u',e',h'⟩:=mn_same.mp h;injection e' with _ e';subst e';obtain⟨h1,h2⟩:=zgy h';refine⟨by simp only[Qf];omega,λc hc=>?_⟩;rcases Qs.mp hc with rfl|hc
       ·exact .inl (by simp)
       ·rcases h2 c hc with z|z
        ·exact .inl (Qb _ z)
        ·exact .inr (Qb _ z)
      ·obtain⟨h1,h2⟩:=zgy ((zen e).mp h).1;refine⟨by simp only[Qf] at h1 ⊢; omega,λc hc=>?_⟩;rcases Qs.mp hc with rfl|hc
       ·exact .inl (by simp)
       ·rcases h2 c hc with z|z
        ·exact .inl (Qb _ z)
        ·exact .inr z
   rcases zg3 h with ⟨a',rfl⟩|⟨b',rfl⟩
   ·exact go h
   ·obtain⟨h1,h2⟩:=go (mn_swap.mp h);exact⟨by omega,λc hc=>(h2 c hc).symm⟩
theorem zxl(l:List W):(wnf l).length<=l.length:=by
 have go:∀ (l k:List W),(l.foldl (λk w=>if k.contains w.tail then k else if k.contains w then k else k ++ [w]) k).length<=k.length+l.length:=by
  intro l
  induction l with
  | nil=>intro k;simp
  | cons w l ih =>
    intro k;rw[Z1];refine QH (ih _) ?_;rw[Qf]
    split
    ·omega
    ·split
     ·omega
     ·rw[Qj,QO];omega
 have:=go l [];rw[Zn,Je] at this;exact this
def AbvB(a b:W)(zs:List W):Prop:=Abv a b zs/\zs.length<=2 ^ (a.length+b.length)
theorem zoy(n:Nat):1<=2 ^ n:=Nat.one_le_two_pow
theorem ztp(b:W):AbvB [] b [b]:=⟨zou b,zoy _⟩
theorem zs8(a:W):AbvB a [] [a]:=⟨zlj (zou a),zoy _⟩
theorem zs3{c:Nat}{a b:W}{zs:List W}(h:AbvB a b zs):AbvB (c::a) (c::b) (zs.map (c :: ·)):=⟨zvg h.1,by
 rw[Qe];refine QH h.2 (Jb (by decide) ?_)
 simp only[Qf];omega⟩
theorem zrk{c d:Nat}{a b:W}{xs ys:List W}(ne:c ≠ d)(hx:AbvB a (d::b) xs)(hy:AbvB (c::a) b ys):AbvB (c::a) (d::b) (wnf (zbi (xs.map (c :: ·)++ys.map (d :: ·)))):=by
 have nd:(xs.map (c :: ·)++ys.map (d :: ·)).Nodup:=by
  refine Zx.mpr ⟨?_,?_,λx hx y hy e=>?_⟩
  ·exact JN _ (λa b (n:a ≠ b) e=>n (by injection e)) hx.1.nodup
  ·exact JN _ (λa b (n:a ≠ b) e=>n (by injection e)) hy.1.nodup
  ·obtain⟨u,_,rfl⟩:=Qp.mp hx;obtain⟨v,_,rfl⟩:=Qp.mp hy;injection e with e _;exact ne e
 refine⟨zuj ne hx.1 hy.1 (zlu nd) λw=>(ZM _ _).mem_iff,?_⟩;have h1:=zxl (zbi (xs.map (c :: ·)++ys.map (d :: ·)));have h2:(zbi (xs.map (c :: ·)++ys.map (d :: ·))).length=xs.length+ys.length:=by unfold zbi;rw[Ys,Qj,Qe,Qe]
 have h3:=hx.2;have h4:=hy.2;simp only[Qf] at h3 h4 ⊢;rw[show a.length+1+(b.length+1)=(a.length+(b.length+1))+1 by omega,Nat.pow_succ];rw[show a.length+1+b.length=a.length+(b.length+1) by omega] at h4;omega
end L3
namespace RT
open PySem PySem.Spec PyProof.Rows
theorem zkl:Slot "reversed" "__init__" "object.__init__" :=
 .of (owner := "object") (n := "__init__") (by rw[Vw,Vo];kernel_rfl) (by decide +kernel) (by decide +kernel) (by decide +kernel)
  (by first|exact .inl (by decide +kernel)|exact .inr (by decide +kernel)) (by rw[Vy];kernel_rfl)
theorem zpn:TypeCalled "reversed" "reversed.__new__" "object.__init__" :=
 ⟨by decide +kernel,by decide +kernel,⟨_,_,F.mro_reversed⟩,F.made_reversed,by decide +kernel,by rw[Vy];kernel_rfl,zkl⟩
theorem zft:Manifest.owners.lookup (jw ['d','e','s','r','e','v','e','r'].reverse)=some Manifest.sig_reversed:=by kernel_rfl
theorem slot_rev_next:Slot "reversed" "__next__" "reversed.__next__" :=
 .of (owner := "reversed") (n := "__next__") (by rw[Vw,Vo];kernel_rfl) (by decide +kernel) (by decide +kernel) (by decide +kernel)
  (by first|exact .inl (by decide +kernel)|exact .inr (by decide +kernel)) (by rw[Vy];kernel_rfl)
theorem zed:U8 GP "reversed.__next__" = some Builtin.«reversed.__next__»:=Uu (by kernel_rfl)
theorem zfc(a:Vb):UP "reversed.__next__" ⟨[a],[]⟩:=by
 unfold UP;rw[Uy (id := "reversed.__next__") (n := ['_','_','t','x','e','n','_','_']) (o := ['d','e','s','r','e','v','e','r']) (by kernel_rfl) zft];kernel_rfl
theorem zfd:Slot "reversed" "__iter__" "reversed.__iter__" :=
 .of (owner := "reversed") (n := "__iter__") (by rw[Vw,Vo];kernel_rfl) (by decide +kernel) (by decide +kernel) (by decide +kernel)
  (by first|exact .inl (by decide +kernel)|exact .inr (by decide +kernel)) (by rw[Vy];kernel_rfl)
theorem zko(a:Vb):UP "reversed.__iter__" ⟨[a],[]⟩:=by
 unfold UP;rw[Uy (id := "reversed.__iter__") (n := ['_','_','r','e','t','i','_','_']) (o := ['d','e','s','r','e','v','e','r']) (by kernel_rfl) zft];kernel_rfl
theorem zim:U8 GP "reversed.__iter__" = some Builtin.«dict_keyiterator.__iter__» :=
 U9 (id' := "dict_keyiterator.__iter__") (by kernel_rfl) (by first|rfl|decide +kernel|(unfold String.splitOn;simp +decide [String.splitOnAux])) (by decide +kernel) (by kernel_rfl)
theorem zte:Uj (.type "str") "__reversed__" = pure none:=by rw[Vw,Vo];kernel_rfl
theorem zpv:Gw (.type "str") (.type "dict")=pure false:=by rw[Vy];kernel_rfl
def revS(x:Str)(t:Tok)(i:Int):Obj:={ cls := .type "reversed", data := .fields #[.str x t,Uv i] }
theorem zmj:Uj (.type "str") "__getitem__" = pure (some (.builtin "str.__getitem__")):=by rw[Vw,Vo];kernel_rfl
theorem zs6(x:Str)(t:Tok)(hf:¬ (x.length:Int) ≥ 2 ^ 63) :
 Meets (Builtin.«reversed.__new__» ⟨[.type "reversed", .str x t],[]⟩) (λ_ R s=>∀ tk,R (.ok (.ret (.ref s.heap.objs.size))) { s with heap:=s.heap.push (revS x t ((x.length:Int) - 1)),toks:=tk }) :=
 .of_wp λprog w A R s h=>by
  obtain⟨hp,g,d,tk,os⟩:=s;have h1:=zte;have h2:=zpv;have h3:=F.sub_reversed_self;have h4:=zmj
  wp_walk using len_str hf
  exact⟨_,rfl,h _⟩
section
variable {prog : Vf} {w : Vk} {A : Vl} {E : Vb → Vc → Prop} {s : Vc}
theorem call_rev{x:Str}{t:Tok}{Q:Vb->Vc->Prop}(hf:¬ (x.length:Int) ≥ 2 ^ 63)(h:∀ tk,Q (.ref s.heap.objs.size) { s with heap:=s.heap.push (revS x t ((x.length:Int) - 1)),toks:=tk }) :
 wpAny (model prog w) A (call (.type "reversed") [.str x t]) Q E s :=
 callType_new zpn (by decide) (F.typeCall_reversed_1 _) (F.newCall_reversed_1 _) (λobj=>F.args_object_init_2 obj _) F.entry_reversed_new (zs6 x t hf) λtk=>⟨⟨_,Heap.get?_push_size _ rfl,rfl⟩,h tk⟩
def IsRev(h:Heap)(it:Addr)(x:Str)(t:Tok)(i:Int):Prop:=∃ o,h.get? it=some o/\o.cls = .type "reversed" /\ o.data = .fields #[.str x t,Uv i]
theorem IsRev.typeIs{it:Addr}{x:Str}{t:Tok}{i:Int}(h:IsRev s.heap it x t i):s.TypeIs (.ref it) "reversed" := let ⟨o,ho,hc,_⟩:=h; ⟨o,ho,hc⟩
theorem zrv{it:Addr}{x:Str}{t:Tok}{i c:Nat}{Q:Option Vb->Vc->Prop}(hit:IsRev s.heap it x t (i:Int))(hx:x.cps[i]? = some c)(hi:(i:Int)<2 ^ 63)
 (hQ:∀ h' tk u,IsRev h' it x t ((i:Int) - 1)->Heap.SameBut it s.heap h'->Q (some (.str ⟨#[c]⟩ u)) { s with heap:=h',toks:=tk }):wpAny (model prog w) A (U3 (.ref it)) Q E s:=by
 obtain⟨o,ho,hc,hd⟩:=id hit
 have hlt:i<x.length:=by
  obtain⟨z,_⟩:=JD.mp hx;exact z
 unfold U3
 refine Va (VD (Vx (name:=Str.ofString "__next__") hit.typeIs slot_rev_next
  (Vn slot_rev_next hit.typeIs zed ?_ (zfc _))))
 unfold Builtin.«reversed.__next__»;refine Va (VZ (a:=(Value.ref it,[])) rfl ?_)
 try dsimp only
 refine Va (V5 ho hd (x := .str x t) rfl ?_);refine Va (V5 ho hd (x:=Uv (i:Int)) rfl ?_);show wpAny _ _ (if(i:Int)<0 then _ else _) _ _ s;rw[GT (by omega)];refine Va (VL (UY s x t) zmj ?_);refine SX.wp_f (by decide) ?_;refine Va (wpAny_mkInt ?_)
 have hr:(decide ((i:Int) < -(2 ^ 63:Int)) || decide ((i:Int) ≥ 2 ^ 63))=false:=by
  rw[GU (by omega),GU (by omega)];rfl
 have hcx:(U6 (i:Int) x.length).bind (x.cps[·]?)=some c:=by
  have:U6 (i:Int) x.length=some i:=by
   unfold U6;have h0:¬ ((i:Int)<0):=by omega
   simp[h0,hlt]
  rw[this];exact hx
 refine Va (VD (P.getItem_str hr hcx ?_));refine Va (V5 ho hd (x:=Uv (i:Int)) rfl ?_);refine Va (UB ho hd (by simp) ?_);refine Vd ⟨_,rfl,Vd (hQ _ _ _ ?_ (Heap.SameBut.update ..))⟩
 exact⟨_,Heap.get?_update_self _ ho (Obj.isFreed_of_fields (Obj.data_mapFields hd _)),(Obj.cls_mapFields ..).trans hc,by
  rw[Obj.data_mapFields hd];simp⟩
theorem zt3{it:Addr}{x:Str}{t:Tok}{Q:Option Vb->Vc->Prop}(hh:A.handled=none)(hit:IsRev s.heap it x t (-1))
 (hQ:∀ h',Heap.ExtBut it s.heap h'->Q none { s with heap:=h' }):wpAny (model prog w) A (U3 (.ref it)) Q E s:=by
 obtain⟨o,ho,hc,hd⟩:=id hit;unfold U3
 refine Va (VD (Vx (name:=Str.ofString "__next__") hit.typeIs slot_rev_next
  (Vn slot_rev_next hit.typeIs zed ?_ (zfc _))))
 unfold Builtin.«reversed.__next__»;refine Va (VZ (a:=(Value.ref it,[])) rfl ?_)
 try dsimp only
 refine Va (V5 ho hd (x := .str x t) rfl ?_);refine Va (V5 ho hd (x:=Uv (-1)) rfl ?_);show wpAny _ _ (if(-1:Int)<0 then _ else _) _ _ s;rw[GQ (by decide)];refine Va (V1 ?_);refine Va ?_;refine Va (UB ho hd (by simp) ?_);have e1:=Heap.get?_update_self (Obj.mapFields (·.setIfInBounds 1 (Uv (-1)))) ho (Obj.isFreed_of_fields (Obj.data_mapFields hd _));refine UB e1 (Obj.data_mapFields hd _) (by simp) ?_
 first
 | show wpAny _ _ (GM (.type "StopIteration") [] >>= _) _ _ _
 | (refine Va ?_;show wpAny _ _ (GM (.type "StopIteration") [] >>= _) _ _ _)
 refine Va ?_;simp only[GM,newTuple];refine Va (Vm ?_ (by size_fits));refine Va (m:=VY _ _) (VZ (a:=Value.none) (by first|rfl|(simp only[VY];rfl)) ?_);refine Vm ?_ (by size_fits);simp only[GO];refine Va (G1 ?_)
 first|rw[show A.in1.handled=none from hh]|rw[hh]
 refine Va (Vd (GF ?_));refine Va (VN (T := "StopIteration") (b:=true) ⟨_,Heap.get?_push_size _ rfl,rfl⟩ Gn ?_);exact Vd (hQ _ (((((Heap.SameBut.update ..).extBut.trans (Heap.SameBut.update ..).extBut)).push _).push _))
theorem zgz{it:Addr}{x:Str}{t:Tok}{i:Int}{Q:Vb->Vc->Prop}(hit:IsRev s.heap it x t i)(h:Q (.ref it) s):wpAny (model prog w) A (U2 (.ref it)) Q E s:=by
 refine VX hit.typeIs zfd (Vn zfd hit.typeIs zim ?_ (zko _));show wpAny _ _ (ret (.ref it)) _ _ s;exact Vd ⟨_,rfl, "reversed", _,hit.typeIs,slot_rev_next.lookup,h⟩
end
theorem IsRev.at{h h':Heap}{it:Addr}{x:Str}{t:Tok}{i:Int}(y:IsRev h it x t i)(e:∀ o,h.get? it=some o->h'.get? it=some o):IsRev h' it x t i:=let ⟨o,ho,r⟩:=y; ⟨o,e _ ho,r⟩
theorem z2q{prog:Vf}{w:Vk}{A:Vl}(hh:A.handled=none)(I:Addr)(x:Str)(t:Tok)(hx:(x.length:Int)<2 ^ 62) :
 Walks prog w A I [I] [I] x.cps.size (λi v=>∃ c u,x.cps[x.cps.size - 1 - i]? = some c/\v = .str ⟨#[c]⟩ u) (λi h=>i<=x.cps.size/\IsRev h I x t ((x.cps.size:Int) - 1 - (i:Int))) where
 sub:=λb hb=>hb
 frame:=λ_ _ _ y hk=>⟨y.1,y.2.at λo e=>hk I (by simp) o e⟩
 item:=λi s Q E hi y hQ=>by
  have e:(x.cps.size:Int) - 1 - (i:Int)=((x.cps.size - 1 - i:Nat):Int):=by omega
  have hit:=y.2;rw[e] at hit;have hc:x.cps[x.cps.size - 1 - i]? = some (x.cps[x.cps.size - 1 - i]'(by omega)):=Q1 (by omega);have hx':(x.cps.size:Int)<2 ^ 62:=hx;refine zrv hit hc (by omega) λh' tk u hit' hs'=>?_;have e2:((x.cps.size - 1 - i:Nat):Int) - 1=(x.cps.size:Int) - 1 - ((i+1:Nat):Int):=by omega
  rw[e2] at hit';exact hQ _ h' tk ⟨_,u,hc,rfl⟩ ⟨hi,hit'⟩ λb o hb eo=>hs'.extBut b o (λh=>hb (by simp[h])) eo
 done:=λs Q E y hQ=>by
  have e:(x.cps.size:Int) - 1 - (x.cps.size:Int) = -1:=by omega
  have hit:=y.2;rw[e] at hit;exact zt3 hh hit λh' he'=>hQ h' s.toks λb o hb eo=>he' b o (λh=>hb (by simp[h])) eo
 self:=λ_ _ _ _ y hQ=>zgz y.2 hQ
end RT
namespace RT
open PySem PySem.Spec PyProof.Rows SX
theorem zsh:Uj (.type "reversed") "__len__" = pure none:=by rw[Vw,Vo];kernel_rfl
theorem slot_rev_hint:Slot "reversed" "__length_hint__" "reversed.__length_hint__" :=
 .of (owner := "reversed") (n := "__length_hint__") (by rw[Vw,Vo];kernel_rfl) (by decide +kernel) (by decide +kernel) (by decide +kernel)
  (by first|exact .inl (by decide +kernel)|exact .inr (by decide +kernel)) (by rw[Vy];kernel_rfl)
theorem zio:U8 GP "reversed.__length_hint__" = some Builtin.«reversed.__length_hint__»:=Uu (by kernel_rfl)
theorem zkk(a:Vb):UP "reversed.__length_hint__" ⟨[a],[]⟩:=by
 unfold UP;rw[Uy (id := "reversed.__length_hint__") (n := ['_','_','t','n','i','h','_','h','t','g','n','e','l','_','_']) (o := ['d','e','s','r','e','v','e','r']) (by kernel_rfl) zft];kernel_rfl
theorem zis:splitId "reversed.__length_hint__" = some ("reversed", "__length_hint__"):=by decide +kernel
section
variable {prog : Vf} {w : Vk} {A : Vl} {E : Vb → Vc → Prop} {s : Vc}
theorem zr0{it:Addr}{x:Str}{t:Tok}{Q:Vb->Vc->Prop}(hf:¬ (x.length:Int) ≥ 2 ^ 63)(hit:IsRev s.heap it x t ((x.length:Int) - 1))(h:∀ tk u,Q (.int x.length u) { s with toks:=tk }):wpAny (model prog w) A (call (.builtin "reversed.__length_hint__") [.ref it]) Q E s:=by
 obtain⟨o,ho,hc,hd⟩:=id hit;refine Vn slot_rev_hint hit.typeIs zio ?_ (zkk _);unfold Builtin.«reversed.__length_hint__»;refine Va (VZ (a:=Value.ref it) rfl ?_);refine Va (V5 ho hd (x := .str x t) rfl ?_);refine SX.wp_f (by intro z;cases z) ?_;refine Va (P.len_str hf ?_);refine Va (m:=asInt? (.int x.length _)) (Vd ?_);dsimp only;refine Va (V5 ho hd (x:=Uv ((x.length:Int) - 1)) rfl ?_);show wpAny _ _ (if(x.length:Int)<(x.length:Int) - 1+1 then _ else _) _ _ _;rw[GT (by omega),show(x.length:Int) - 1+1=x.length by omega];refine Va (wpAny_mkInt ?_);exact Vd ⟨_,rfl,h _ _⟩
theorem zeo{it:Addr}{x:Str}{t:Tok}{Q:Bool->Vc->Prop}(hf:x.length<=sizeLine)(hit:IsRev s.heap it x t ((x.length:Int) - 1))(h:∀ tk,Q ((x.length:Int) != 0) { s with toks:=tk }):wpAny (model prog w) A (Builtin.List.listLengthHint (.ref it)) Q E s:=by
 have sz:=Vj;have sp:=zis;unfold Builtin.List.listLengthHint;refine Va (VL hit.typeIs zsh (Va (VL hit.typeIs slot_rev_hint.lookup ?_)));revert sp;generalize z:("reversed.__length_hint__" : String)=nm;intro sp;dsimp only;rw[sp];subst z;refine Va (VN (b:=true) hit.typeIs F.sub_reversed_self ?_);refine SX.wp_f (by decide) ?_;refine SX.wp_f (by decide +kernel) ?_;refine Va (V1 ?_);refine Va (VZ (slot_rev_hint.bind _) ?_);dsimp only;refine Va (VD (zr0 (by omega) hit λtk u=>?_))
 have f1:¬ (!Builtin.List.listFitsIndex (x.length:Int))=true:=by
  have:Builtin.List.listFitsIndex (x.length:Int)=true:=by
   unfold Builtin.List.listFitsIndex;simp;omega
  rw[this];decide
 have f2:¬ Builtin.List.listTooLong ((x.length:Int)).toNat=true:=by
  unfold Builtin.List.listTooLong;rw[Js];simp;omega
 have f3:¬ ((x.length:Int)<0):=by omega
 generalize (x.length:Int)=n at f1 f2 f3 h ⊢;show wpAny _ _ (asInt? (.int n u) >>= _) _ _ _;refine Va (Vd ?_);dsimp only;refine SX.wp_f f1 (SX.wp_f f3 (SX.wp_f f2 (Vd (h tk))))
theorem zm6{it:Addr}{x:Str}{t:Tok}{Q:List Vb->Vc->Prop}(hh:A.handled=none)(hf:x.length<=sizeLine)(hit:IsRev s.heap it x t ((x.length:Int) - 1))
 (k:∀ (h':Heap) (tk:Nat) (vs:List Vb),(∀ b o,b ≠ it->s.heap.get? b=some o->h'.get? b=some o)->vs.length=x.cps.size->(∀ (i:Nat) v,vs[i]? = some v->∃ c u,x.cps[x.cps.size - 1 - i]? = some c/\v = .str ⟨#[c]⟩ u)->Q vs { s with heap:=h',toks:=tk }):wpAny (model prog w) A (GH (.ref it)) Q E s:=by
 have sz:=Vj;obtain⟨o,ho,hc,hd⟩:=id hit;have hlt:it<s.heap.objs.size:=Heap.lt_size ho;unfold GH;refine Va (Gu (V4 F.entry_proto_collect ?_));rw[Around.under_plainId F.plain_proto_collect _];refine Va (m:=newList []) (Vm ?_);refine Vd ⟨V6 F.plain_list_iadd _,V4 F.entry_list_iadd ?_⟩;rw[Around.under_plainId F.plain_list_iadd _];have r1:IsRev (s.heap.push (lO #[] 0)) it x t ((x.length:Int) - 1):=hit.at λo e=>Heap.get?_push_of_some _ e;have eL:(s.heap.push (lO #[] 0)).get? s.heap.objs.size=some (lO #[] 0):=Heap.get?_push_size _ rfl;show wpAny _ A.in1 (Builtin.List.listExtendWith (.ref s.heap.objs.size) (.ref it) (.ref s.heap.objs.size)) _ _ { s with heap:=s.heap.push (lO #[] 0) };unfold Builtin.List.listExtendWith;refine Va (V9 (IsRev.typeIs (s:={ s with heap:=s.heap.push (lO #[] 0) }) r1) ?_)
 have nsr:Builtin.List.listSameRef (.ref s.heap.objs.size) (.ref it)=false:=by
  show(s.heap.objs.size == it)=false;exact beq_eq_false_iff_ne.mpr (Zs hlt)
 rw[nsr];refine wp_f (by decide) ?_;refine Va (zgz (s:={ s with heap:=s.heap.push (lO #[] 0) }) r1 ?_);refine Va (Vr (zeo (s:={ s with heap:=s.heap.push (lO #[] 0) }) hf r1 λtk=>?_));have W:=(z2q (prog:=prog) (w:=w) (A:=A.in1) (by simpa using hh) it x t (by omega)).toS;have nLf:s.heap.objs.size ∉ [it]:=λz=>Zs hlt (Qg.mp z)
 have sh4:∀ (h4:Heap),(∀ b u,b ≠ s.heap.objs.size->(s.heap.push (lO #[] 0)).get? b=some u->h4.get? b=some u)->0<=x.cps.size/\IsRev h4 it x t ((x.cps.size:Int) - 1 - ((0:Nat):Int)):=λh4 kk=>⟨Qw _,by
  have:(x.cps.size:Int) - 1 - ((0:Nat):Int)=(x.length:Int) - 1:=by show(x.cps.size:Int) - 1 - 0=(x.cps.size:Int) - 1;omega
  rw[this]
  exact r1.at λo e=>kk it o (Qm hlt) e⟩
 have last:∀ (h4:Heap) (s':Vc) (acc:Array Vb) (c:Nat),(∀ b u,b ≠ s.heap.objs.size->(s.heap.push (lO #[] 0)).get? b=some u->h4.get? b=some u)->Moved [s.heap.objs.size,it] (λa b=>b=a) { s with heap:=h4,toks:=tk } s'->s'.heap.get? s.heap.objs.size=some (lO acc c)->ItemsOf (λi v=>∃ c u,x.cps[x.cps.size - 1 - i]? = some c/\v = .str ⟨#[c]⟩ u) acc x.cps.size->Q acc.toList s':=λh4 s' acc c kk mv eA hacc=>by
  obtain⟨h5,g5,d5,tk5,os5⟩:=s';obtain rfl:g5=s.gens:=mv.gens;obtain rfl:d5=s.drawn:=mv.drawn;obtain rfl:os5=s.os:=mv.os;refine k h5 tk5 acc.toList (λb o hb e=>mv.heap b o (λz=>?_) (kk b o (Qm (Heap.lt_size e)) (Heap.get?_push_of_some _ e))) (by have:=hacc.1;simpa using this) λi v e=>hacc.2 i v (by simpa using e);have hbl:=Heap.lt_size e;rcases Qs.mp z with z|z
  ·exact Qm hbl z
  ·exact hb (Qg.mp z)
 by_cases hz:x.length=0
 ·rw[hz];refine wp_f (by decide +kernel) ?_;refine Vd ⟨V6 F.plain_extend_loop _,VR W hf _ nLf _ x.cps.size 0 { s with heap:=s.heap.push (lO #[] 0),toks:=tk } #[] 0 rfl (Qw _) (sh4 _ λb u _ e=>e) eL (ItemsOf.nil _) λs' acc c mv eA hacc=>?_⟩;exact Va (G6 eA (Vd (last _ s' acc c (λb u _ e=>e) mv eA hacc)))
 ·have hne:((x.length:Int) != 0)=true:=by
   rw[bne_iff_ne];omega
  rw[hne];refine wp_t (by decide +kernel) ?_;refine Va (V1 ?_);refine Va ?_;unfold Builtin.List.listTouch;have h64:(0:Nat)<=sizeLine:=Qw _;refine Va (zik (s:={ s with heap:=s.heap.push (lO #[] 0),toks:=tk }) (·.push Value.none) eL h64 (by simp) λh3 c3 e3 b3=>?_);refine zik (s:={ s with heap:=h3,toks:=tk }) (·.pop) e3 (by rw[Vj];decide) (by simp) λh4 c4 e4 b4=>?_;have keep:∀ b o,b ≠ s.heap.objs.size->(s.heap.push (lO #[] 0)).get? b=some o->h4.get? b=some o:=λb o nb e=>(b4.2 b nb).trans ((b3.2 b nb).trans e);refine Vd ⟨V6 F.plain_extend_loop _,VR W hf _ nLf _ x.cps.size 0 { s with heap:=h4,toks:=tk } #[] c4 rfl (Qw _) (sh4 _ keep) e4 (ItemsOf.nil _) λs' acc c mv eA hacc=>?_⟩;exact Va (G6 eA (Vd (last _ s' acc c keep mv eA hacc)))
end
end RT
namespace RT
open PySem PySem.Spec PyProof.Rows SX
open Builtin Builtin.Str Builtin.Int
section
variable {prog : Vf} {w : Vk} {A : Vl} {E : Vb → Vc → Prop} {s : Vc}
theorem join_rev{it:Addr}{sep x:Str}{t0 t:Tok}{Q:Vb->Vc->Prop}(hh:A.handled=none)(hf:x.length<=sizeLine)(hit:IsRev s.heap it x t ((x.length:Int) - 1))(hz:x.length+x.length * sep.length<=16777216)
 (k:∀ (h':Heap) (tk:Nat) (u:Tok),(∀ b o,b ≠ it->s.heap.get? b=some o->h'.get? b=some o)->Q (.str (Txt.join sep (x.cps.toList.reverse.map λc=>⟨#[c]⟩)) u) { s with heap:=h',toks:=tk }) :
 wpAny (model prog w) A (call (.builtin "str.join") [.str sep t0,.ref it]) Q E s:=by
 refine G5 (Gm F.slot_str_join.plain F.entry_str_join (F.slot_str_join.check _ _ _ _ _ _ _ _ (UY _ _ _) (F.args_str_join_2 _ _) ?_));rw[join_tree_other];refine Va (V9 hit.typeIs ?_);show wpAny _ A.in1 ((U2 (.ref it)).tryCatch _ >>= λit=>GH it >>= λitems=>joinTail sep items) _ _ s;refine Va (wpAny_tryCatch (zgz hit ?_));refine Va (zm6 (by simpa using hh) hf hit λh' tk vs kp hl hv=>?_)
 obtain⟨l,el⟩:=exists_strValues vs λv hv'=>by
  obtain⟨j,hj,rfl⟩:=Yv.mp hv';obtain⟨c,u,_,e⟩:=hv j _ (Qa hj);exact⟨_,u,e⟩
 have ey:l.map (·.1)=x.cps.toList.reverse.map λc=>(⟨#[c]⟩:Str):=by
  have ll:l.length=x.cps.size:=by rw[<- hl,<- el];simp[strValues]
  refine ZB λi=>?_
  by_cases hi:i<l.length
  ·have e1:vs[i]? = some (.str l[i].1 l[i].2):=by rw[<- el];simp[strValues,hi]
   obtain⟨c,u,hc,e⟩:=hv i _ e1;injection e with e2 _;rw[Qk,Qk,Qa hi,Yq (by simpa using by omega)];simp only[QE,QA,ZC];rw[hc,e2];rfl
  ·rw[Qu (by simpa using hi),Qu (by simp;omega)]
 have hok:tooLong ((l.map (·.1)).toArray.foldl (· + ·.length+sep.length) 0)=false:=by
  have:=@joinOk_of sep (l.map (·.1)) (by
   rw[ey]
   have e1:((x.cps.toList.reverse.map λc=>(⟨#[c]⟩:Str)).map (·.length)).sum=x.length:=by
    have go:∀ l:List Nat,((l.map λc=>(⟨#[c]⟩:Str)).map (·.length)).sum=l.length:=by
     intro l
     induction l with
     | nil=>rfl
     | cons c l ih=>rw[Qn,Qn,ZF,ih,Qf,Nat.add_comm];rfl
    rw[go,Jh];rfl
   rw[e1,Qe,Jh]
   exact hz)
  unfold JoinOk at this;rwa [Zv] at this
 rw[<- el]
 have g:Gives (joinTail sep (strValues l)) (joinMade sep l):=by
  have g0:=gives_joinTail sep l hok
  cases l with
  | nil=>exact g0
  | cons p r=>cases r with
    | nil=>exact g0
    | cons q r'=>exact g0
 rw[<- ey] at k;exact g prog w A (wants Q E) _ (post_join l ⟨joinFit_length hok,λt' j=>k h' j t' kp⟩)
end
end RT
namespace L3
open PySem PySem.Spec
open PyProof.Rows hiding St
open L2
def tJR(K:PySem.W.Frag)(to te:TE):TE:=λσ H Q=>to σ H λx H1=>∃ sep,x = .str sep/\te σ H1 λv H2=>∃ y,v = .str y/\y.length<=sizeLine/\y.length+y.length * sep.length<=16777216/\Q (.str (Txt.join sep (y.cps.toList.reverse.map sg))) H2
theorem zpl{X:Cx}{o e:Expr}{to te:TE}{apos cpos p1 p2:Pos}(hc:X.calm=true)(gE:Gl X "reversed")(mE:X.mg "reversed" = none)(ho:PE X o to)(he:PE X e te)
 (hbase:V3 o "join" X.env (eval o X.env)=eval o X.env:=by rfl)
 (hfew:((VU cpos (Vg [.Call (.Name "reversed" p1) [e] [] p2] X.env)).all (λx=>!x.1) && (UI cpos (Uk [] X.env)).all (λx=>x.1.isSome)
  && decide (([.Call (.Name "reversed" p1) [e] [] p2]:List Expr).length+([]:List Ua).length+(if([]:List Ua).isEmpty then 0 else 1)<30))=true:=by rfl)
 (hline:(apos.endLine == cpos.line)=true:=by rfl) (hs:Vg [.Call (.Name "reversed" p1) [e] [] p2] X.env=(false,eval (.Call (.Name "reversed" p1) [e] [] p2) X.env)::Vg [] X.env:=by rfl) (s1:Vg [e] X.env=(false,eval e X.env)::Vg [] X.env:=by rfl) :
 PE X (.Call (.Attribute o "join" apos) [.Call (.Name "reversed" p1) [e] [] p2] [] cpos) (tJR X.K to te):=by
 intro pins s σ H Q I h;refine UZ hbase hfew hline rfl (thn (ho pins s σ H _ I h) λv s1' ⟨x,H1,I1,r1,sep,ex,q1⟩=>?_);subst ex;obtain⟨h1,h2⟩:=zld (T := "str") I1 r1 rfl;refine⟨"str", "str.join", PySem.F.plainAttrs_str,PySem.F.slot_str_join,PySem.F.type_str_join,h1,h2,?_⟩;obtain⟨t0,rfl⟩:=r1;rw[hs];refine Calls.callWith_builtin rfl (Calls.evalArgs_plain ?_);show wpAny _ _ (UF ((false,eval (.Call (.Name "reversed" p1) [e] [] p2) X.env) :: [])) _ _ _;refine Calls.spliced_cons ?_;refine Vz (zb6 I1 gE mE zmw ?_);refine QT ?_ s1;rw[s1];show wpAny _ _ (UF ((false,eval e X.env) :: [])) _ _ _;refine Calls.spliced_cons (thn (he pins s1' σ H1 _ I1 q1) λu s2 ⟨w,H2,I2,r2,y,ey,hy,hz,q⟩=>?_);subst ey;obtain⟨t,rfl⟩:=r2;refine Calls.spliced_nil ?_;have sz:=Vj;refine RT.call_rev (by omega) λtk=>?_;refine Calls.spliced_nil ?_;have hr:RT.IsRev (s2.heap.push (RT.revS y t ((y.length:Int) - 1))) s2.heap.objs.size y t ((y.length:Int) - 1):=⟨_,Heap.get?_push_size _ rfl,rfl,rfl⟩;have I3:Inv X pins σ H2 { s2 with heap:=s2.heap.push (RT.revS y t ((y.length:Int) - 1)),toks:=tk }:=I2.kept (t':=tk) λb o e=>Heap.get?_push_of_some _ e;obtain⟨f0,f1,f2,f3,f4,f5⟩:FpOk X pins H2 s2.heap.objs.size:=I2.fpOk (Qc _) (I2.hok.fresh (Qc _));refine RT.join_rev (s:={ s2 with heap:=s2.heap.push (RT.revS y t ((y.length:Int) - 1)),toks:=tk }) (I2.ok.hd hc) hy hr hz λh' tk' u kp=>?_;exact⟨.str _,H2,I3.turned (t':=tk') kp f0 f1 f3 f4 f5,⟨u,rfl⟩,q⟩
def zr1(fo fa:DE):DE:=λρ Q=>fo ρ λr0=>∃ sep,r0.d = .str sep/\fa ρ λr=>∃ y:Str,r.d = .str y/\y.length<=sizeLine/\y.length+y.length * sep.length<=16777216/\Q (.o (.str (Txt.join sep (y.cps.toList.reverse.map sg))))
theorem zp2{K:PySem.W.Frag}{O:Ob}{to ta:TE}{fo fa:DE}(ho:ED K O to fo)(ha:ED K O ta fa):ED K O (tJR K to ta) (zr1 fo fa):=λσ H ρ Q Qd S hf k=>by
 refine ho σ H ρ _ _ S hf λv H1 r0 s1 o1 ⟨sep,e0,q1⟩=>?_;have i0:=o1.is S.ok S.p;rw[e0] at i0;cases i0;refine⟨sep,rfl,?_⟩;refine ha σ H1 ρ _ _ (S.stp s1) q1 λw H2 r s2 o2 ⟨y,e,hy,hz,q⟩=>?_;have i1:=o2.is S.ok (s1.p S.p);rw[e] at i1;cases i1;exact⟨y,rfl,hy,hz,k _ H2 (.o _) (s1.trans s2) (Is.str _) q⟩
section
variable {ι κ : Type} {P : Vf} {w : Vk} {K : PySem.W.Frag} {mg : Str → Option Vb} {base : Heap} {k : Nat} {X : ι → Cx} {O : κ → Ob} {a b : Expr} {fa fb : DE} {pos p1 p2 : Pos}
theorem zr8{apos:Pos}(C:Ctx3 P w K mg base k X)(B:Blt mg)(ho:E3 K X O a fa)(hb:E3 K X O b fb)(hg:∀ i,Gl (X i) "reversed" := by intro i;rfl)(hbase:∀ i,V3 a "join" (X i).env (eval a (X i).env)=eval a (X i).env:=by intro i;rfl)
 (hfew:∀ i,((VU pos (Vg [.Call (.Name "reversed" p1) [b] [] p2] (X i).env)).all (λx=>!x.1) && (UI pos (Uk [] (X i).env)).all (λx=>x.1.isSome) && decide (([.Call (.Name "reversed" p1) [b] [] p2]:List Expr).length+([]:List Ua).length+(if([]:List Ua).isEmpty then 0 else 1)<30))=true:=by intro i;rfl)
 (hline:(apos.endLine == pos.line)=true:=by rfl) (hs:∀ i,Vg [.Call (.Name "reversed" p1) [b] [] p2] (X i).env=(false,eval (.Call (.Name "reversed" p1) [b] [] p2) (X i).env)::Vg [] (X i).env:=by intro i;rfl) (hs1:∀ i,Vg [b] (X i).env=(false,eval b (X i).env)::Vg [] (X i).env:=by intro i;rfl) :
 E3 K X O (.Call (.Attribute a "join" apos) [.Call (.Name "reversed" p1) [b] [] p2] [] pos) (zr1 fa fb) :=
 let ⟨_,q1,d1⟩:=ho;let ⟨_,q2,d2⟩:=hb; ⟨tJR K _ _,λi=>by
  have h:=zpl (apos:=apos) (cpos:=pos) (p1:=p1) (p2:=p2) (C.calm i) (hg i) (by rw[C.hmg];exact B.reversed) (q1 i) (q2 i) (hbase i) (hfew i) hline (hs i) (hs1 i);rw[C.hK] at h
  exact h,λj=>zp2 (d1 j) (d2 j)⟩
end
theorem zpq(w:List Nat):Txt.join "" (w.map sg)=tx w:=by
 have:=zyh (w.map λc => [c]);rw[QG,show(tx ∘ λc => [c])=sg from rfl] at this;rw[this]
 congr 1
 clear this
 induction w with
 | nil=>rfl
 | cons c w ih=>rw[Qn,Zt,ih];rfl
theorem zxx{w:List Nat}{Q:R->Prop}(hl:w.length<=16777216)(q:Q (.o (tS w.reverse))):∃ y:Str,(R.o (tS w)).d = .str y/\y.length<=sizeLine/\y.length+y.length * (Str.ofString "").length<=16777216/\Q (.o (.str (Txt.join (Str.ofString "") (y.cps.toList.reverse.map sg)))):=by
 have sz:=Vj;have e0:(Str.ofString "").length=0:=by decide +kernel
 refine⟨tx w,rfl,by rw[zb5];omega,by rw[zb5,e0];omega,?_⟩;rw[zbe,show Txt.join (Str.ofString "") (w.reverse.map sg)=tx w.reverse from zpq _];exact q
end L3
namespace L3
open PySem PySem.Spec
open PyProof.Rows hiding St
open L2 L6
theorem ztk{w:List Nat}(hl:w.length<=16777216):∃ y:Str,PyData.str (tx w) = .str y/\y.length<=sizeLine/\y.length+y.length * (Str.ofString "").length<=16777216/\Txt.join (Str.ofString "") (y.cps.toList.reverse.map sg)=tx w.reverse:=by
 obtain⟨y,e1,e2,e3,e4⟩:=zxx (Q:=λr=>r = .o (tS w.reverse)) hl rfl;exact⟨y,e1,e2,e3,by injection e4 with e4;injection e4⟩
def zh7:List Ve->(R->Prop)->Prop:=λds Q=>∃ w:List Nat,ds = [tS w]/\w.length<=100/\∀ r:R,r.d = .tuple [.int (w.length:Nat),tS w]->Q r
theorem zoi{w:List Nat}(h:Sml w):Nice 0 100 (tS w):=zt0 (λc hc=>ZT (h.2 c hc) (by decide)) h.1
def SubW(ls w:List Nat):Prop:=∀ c ∈ w,c ∈ ls
def zs0:List Ve->(R->Prop)->Prop:=λds Q=>∃ (ls:List Nat) (n:Nat),ds = [.str (tx ls),.int n]/\LowW ls/\ls ≠ []/\ls.length<=26/\n<=50/\∀ w:List Nat,SubW ls w->w.length<=n->Q (.o (.str (tx w)))
end L3
namespace L6
open PySem PyProof.Rows
def zeh:Bool->Vu->Array Vu->Nat->Nat->Nat->StateT Vt Sem (Option Nat):=sortPriv% PySem.Builtin.gallop
section
variable {prog : Vf} {w : Vk} {A : Vl} {E : Vb → Vc → Prop} {s : Vc} {α : Type} {blt : α → α → Bool} {k : Nat → α} {a₀ : Array Vu} {kd : VE} {st : Vt}
theorem lt_x{i j:Nat}{x y:Vu}{Q:Option Bool->Vt->Prop}(hC:zbo prog w A s kd a₀ blt k)(ki:kindOf st=kd)(gi:a₀[i]? = some x)(gj:a₀[j]? = some y)(h:Q (some (blt (k i) (k j))) st):wpS (model prog w) A E s (lt' x y) Q st:=by
 rw[lt'_eq];refine Vh (Ub ?_);rw[ki];refine Vh (UC (VD (hC i j x.1 x.2 y.1 y.2 _ _ gi gj ⟨rfl,?_⟩)));exact Vi h
theorem zat{arr:Array Vu}{i:Nat}{x:Vu}{Q:Vu->Vt->Prop}(e:arr[i]? = some x)(h:Q x st):wpS (model prog w) A E s (elem' arr i) Q st:=by
 rw[elem'_eq,e];exact Vi h
def Pg(blt:α->α->Bool)(k:Nat->α)(left:Bool)(L:Nat->Nat)(jk i:Nat):Bool:=if left then blt (k (L i)) (k jk) else !blt (k jk) (k (L i))
theorem zh9{left:Bool}{key:Vu}{arr:Array Vu}{base n hint jk:Nat}{L:Nat->Nat}{Q:Option Nat->Vt->Prop}(hC:zbo prog w A s kd a₀ blt k)(ki:kindOf st=kd)(gk:a₀[jk]? = some key)(ga:∀ i,i<n->∃ x,arr[base+i]? = some x/\a₀[L i]? = some x)(mono:∀ i j,i<j->j<n->Pg blt k left L jk j=true->Pg blt k left L jk i=true)(hh:hint<n)
 (h:∀ p,p<=n->(∀ i,i<p->Pg blt k left L jk i=true)->(∀ i,p<=i->i<n->Pg blt k left L jk i=false)->Q (some p) st):wpS (model prog w) A E s (zeh left key arr base n hint) Q st:=by
 have bey:∀ (i:Nat) {R:Option Bool->Vt->Prop},i<n->R (some (Pg blt k left L jk i)) st->wpS (model prog w) A E s (elem' arr (base+i) >>= λx=>if left=true then lt' x key else(do let r <- lt' key x;return r.map (!·))) R st:=λi R hi hr=>by
  obtain⟨x,e1,e2⟩:=ga i hi;refine Vh (zat e1 ?_);unfold Pg at hr
  cases left with
  | true=>rw[GQ rfl] at hr ⊢; exact lt_x hC ki e2 gk hr
  | false=>rw[GT Ql] at hr ⊢; exact Vh (lt_x hC ki gk e2 (Vi hr))
 refine Vh (bey hint hh ?_);dsimp only
 cases h0:Pg blt k left L jk hint with
 | true =>
   rw[GQ rfl]
   refine Vh (VC (Vq (I:=λx c st2=>st=st2/\∃ l o,c=(none,l,o)/\x<=o/\l<o/\(l=0\/hint+l<n)/\(∀ i,i<=hint+l->i<n->Pg blt k left L jk i=true))
    (Q:=λc st2=>st=st2/\∃ l o,c=(none,l,o)/\l<o/\(l=0\/hint+l<n)/\(∀ i,i<=hint+l->i<n->Pg blt k left L jk i=true)/\∀ i,hint+o<=i->i<n->Pg blt k left L jk i=false) ?tu ?ou ?bg) ?re)
   case bg=>exact⟨rfl,0,1,rfl,by omega,by omega,.inl rfl,λi hi hn=>by
    by_cases e:i=hint
    ·subst e;exact h0
    ·exact mono i hint (by omega) hh h0⟩
   case ou =>
    rintro c st2 ⟨rfl,l,o,rfl,z1,z2,z3,z4⟩;exact⟨rfl,l,o,rfl,z2,z3,z4,λi h1 h2=>by omega⟩
   case re =>
    rintro c st2 ⟨rfl,l,o,rfl,z2,z3,z4,z5⟩;dsimp only;have b1:hint+l+1<=hint+min o (n - hint):=by omega
    have b2:hint+min o (n - hint)<=n:=by omega
    have b3:∀ i,i<hint+l+1->Pg blt k left L jk i=true:=λi hi=>z4 i (by omega) (by omega);have b4:∀ i,hint+min o (n - hint)<=i->i<n->Pg blt k left L jk i=false:=λi h1 h2=>z5 i (by omega) h2
    refine Vh (VC (Vq (I:=λx c st2=>st=st2/\∃ l r,c=(none,l,r)/\l<=r/\r<=n/\r - l<=n - x/\(∀ i,i<l->Pg blt k left L jk i=true)/\∀ i,r<=i->i<n->Pg blt k left L jk i=false)
     (Q:=λc st2=>st=st2/\∃ l r,c=(none,l,r)/\r<=n/\(∀ i,i<r->Pg blt k left L jk i=true)/\∀ i,r<=i->i<n->Pg blt k left L jk i=false) ?tu2 ?ou2 ?bg2) ?re2)
    case bg2=>exact⟨rfl,_,_,rfl,b1,b2,by omega,b3,b4⟩
    case ou2 =>
     rintro c st2 ⟨rfl,l,r,rfl,z1,z2,z3,z4,z5⟩;have:l=r:=by omega
     subst this;exact⟨rfl,l,l,rfl,z2,z4,z5⟩
    case re2 =>
     rintro c st2 ⟨rfl,l,r,rfl,z2,z4,z5⟩;exact Vi (h r z2 z4 z5)
    case tu2 =>
     rintro x c st2 _ hx ⟨rfl,l,r,rfl,z1,z2,z3,z4,z5⟩;dsimp only
     by_cases ge:l ≥ r
     ·rw[GQ ge];have:l=r:=by omega
      subst this;exact Vi ⟨rfl,l,l,rfl,z2,z4,z5⟩
     ·rw[GT ge];refine Vh (bey (l+(r - l) / 2) (by omega) ?_);dsimp only
      cases hP:Pg blt k left L jk (l+(r - l) / 2) with
      | true =>
        rw[GQ rfl];refine Vi ⟨rfl,l+(r - l) / 2+1,r,rfl,by omega,z2,by omega,λi hi=>?_,z5⟩
        by_cases e:i=l+(r - l) / 2
        ·subst e;exact hP
        ·exact mono i _ (show i<l+(r - l) / 2 by omega) (by omega) hP
      | false =>
        rw[GT Ql];refine Vi ⟨rfl,l,l+(r - l) / 2,rfl,by omega,by omega,by omega,z4,λi h1 h2=>?_⟩
        by_cases e:i=l+(r - l) / 2
        ·subst e;exact hP
        ·cases hq:Pg blt k left L jk i with
         | false=>rfl
         | true=>rw[mono _ i (show l+(r - l) / 2<i by omega) h2 hq] at hP;cases hP
   case tu =>
    rintro x c st2 _ hx ⟨rfl,l,o,rfl,z1,z2,z3,z4⟩;dsimp only
    by_cases ge:o ≥ n - hint
    ·rw[GQ ge];exact Vi ⟨rfl,l,o,rfl,z2,z3,z4,λi h1 h2=>by omega⟩
    ·rw[GT ge];refine Vh (bey (hint+o) (by omega) ?_);dsimp only
     cases hP:Pg blt k left L jk (hint+o) with
     | true =>
       rw[GT (by decide)];refine Vi ⟨rfl,o,2 * o+1,rfl,by omega,by omega,.inr (by omega),λi h1 h2=>?_⟩
       by_cases e:i=hint+o
       ·subst e;exact hP
       ·exact mono i _ (show i<hint+o by omega) (by omega) hP
     | false =>
       rw[GQ (by decide)];refine Vi ⟨rfl,l,o,rfl,z2,z3,z4,λi h1 h2=>?_⟩
       by_cases e:i=hint+o
       ·subst e;exact hP
       ·cases hq:Pg blt k left L jk i with
        | false=>rfl
        | true=>rw[mono _ i (show hint+o<i by omega) h2 hq] at hP;cases hP
 | false =>
   rw[GT Ql]
   refine Vh (VC (Vq (I:=λx c st2=>st=st2/\∃ l o,c=(none,l,o)/\x<=o/\l<o/\l<=hint/\(∀ i,hint - l<=i->i<n->Pg blt k left L jk i=false))
    (Q:=λc st2=>st=st2/\∃ l o,c=(none,l,o)/\l<o/\l<=hint/\(∀ i,hint - l<=i->i<n->Pg blt k left L jk i=false)/\∀ i,o<=hint->i<=hint - o->Pg blt k left L jk i=true) ?tu ?ou ?bg) ?re)
   case bg=>exact⟨rfl,0,1,rfl,by omega,by omega,by omega,λi hi hn=>by
    by_cases e:i=hint
    ·subst e;exact h0
    ·cases hq:Pg blt k left L jk i with
     | false=>rfl
     | true=>rw[mono hint i (by omega) hn hq] at h0;cases h0⟩
   case ou =>
    rintro c st2 ⟨rfl,l,o,rfl,z1,z2,z3,z4⟩;exact⟨rfl,l,o,rfl,z2,z3,z4,λi h1 h2=>by omega⟩
   case re =>
    rintro c st2 ⟨rfl,l,o,rfl,z2,z3,z4,z5⟩;dsimp only;have b1:hint+1 - min o (hint+1)<=hint - l:=by omega
    have b2:hint - l<=n:=by omega
    have b3:∀ i,i<hint+1 - min o (hint+1)->Pg blt k left L jk i=true:=λi hi=>z5 i (by omega) (by omega);have b4:∀ i,hint - l<=i->i<n->Pg blt k left L jk i=false:=z4
    refine Vh (VC (Vq (I:=λx c st2=>st=st2/\∃ l r,c=(none,l,r)/\l<=r/\r<=n/\r - l<=n - x/\(∀ i,i<l->Pg blt k left L jk i=true)/\∀ i,r<=i->i<n->Pg blt k left L jk i=false)
     (Q:=λc st2=>st=st2/\∃ l r,c=(none,l,r)/\r<=n/\(∀ i,i<r->Pg blt k left L jk i=true)/\∀ i,r<=i->i<n->Pg blt k left L jk i=false) ?tu2 ?ou2 ?bg2) ?re2)
    case bg2=>exact⟨rfl,_,_,rfl,b1,b2,by omega,b3,b4⟩
    case ou2 =>
     rintro c st2 ⟨rfl,l,r,rfl,z1,z2,z3,z4,z5⟩;have:l=r:=by omega
     subst this;exact⟨rfl,l,l,rfl,z2,z4,z5⟩
    case re2 =>
     rintro c st2 ⟨rfl,l,r,rfl,z2,z4,z5⟩;exact Vi (h r z2 z4 z5)
    case tu2 =>
     rintro x c st2 _ hx ⟨rfl,l,r,rfl,z1,z2,z3,z4,z5⟩;dsimp only
     by_cases ge:l ≥ r
     ·rw[GQ ge];have:l=r:=by omega
      subst this;exact Vi ⟨rfl,l,l,rfl,z2,z4,z5⟩
     ·rw[GT ge];refine Vh (bey (l+(r - l) / 2) (by omega) ?_);dsimp only
      cases hP:Pg blt k left L jk (l+(r - l) / 2) with
      | true =>
        rw[GQ rfl];refine Vi ⟨rfl,l+(r - l) / 2+1,r,rfl,by omega,z2,by omega,λi hi=>?_,z5⟩
        by_cases e:i=l+(r - l) / 2
        ·subst e;exact hP
        ·exact mono i _ (show i<l+(r - l) / 2 by omega) (by omega) hP
      | false =>
        rw[GT Ql];refine Vi ⟨rfl,l,l+(r - l) / 2,rfl,by omega,by omega,by omega,z4,λi h1 h2=>?_⟩
        by_cases e:i=l+(r - l) / 2
        ·subst e;exact hP
        ·cases hq:Pg blt k left L jk i with
         | false=>rfl
         | true=>rw[mono _ i (show l+(r - l) / 2<i by omega) h2 hq] at hP;cases hP
   case tu =>
    rintro x c st2 _ hx ⟨rfl,l,o,rfl,z1,z2,z3,z4⟩;dsimp only
    by_cases ge:o ≥ hint+1
    ·rw[GQ ge];exact Vi ⟨rfl,l,o,rfl,z2,z3,z4,λi h1 h2=>by omega⟩
    ·rw[GT ge];refine Vh (bey (hint - o) (by omega) ?_);dsimp only
     cases hP:Pg blt k left L jk (hint - o) with
     | true =>
       rw[GQ rfl];refine Vi ⟨rfl,l,o,rfl,z2,z3,z4,λi h1 h2=>?_⟩
       by_cases e:i=hint - o
       ·subst e;exact hP
       ·exact mono i _ (show i<hint - o by omega) (by omega) hP
     | false =>
       rw[GT Ql];refine Vi ⟨rfl,o,2 * o+1,rfl,by omega,by omega,by omega,λi h1 h2=>?_⟩
       by_cases e:i=hint - o
       ·subst e;exact hP
       ·cases hq:Pg blt k left L jk i with
        | false=>rfl
        | true=>rw[mono _ i (show hint - o<i by omega) h2 hq] at hP;cases hP
end
section
variable {α : Type} {blt : α → α → Bool} {k : Nat → α}
def mg(blt:α->α->Bool)(k:Nat->α):List Nat->List Nat->List Nat
 | [],bs=>bs
 | as,[]=>as
 | a::as,b::bs=>if blt (k b) (k a)=true then b::mg blt k (a::as) bs else a::mg blt k as (b::bs)
termination_by as bs=>as.length+bs.length
theorem za7(bs:List Nat):mg blt k [] bs=bs:=by rw[mg]
theorem za5(as:List Nat):mg blt k as []=as:=by cases as <;> rw[mg];simp
theorem mg_b{a b:Nat}{as bs:List Nat}(h:blt (k b) (k a)=true):mg blt k (a::as) (b::bs)=b::mg blt k (a::as) bs:=by rw[mg,GQ h]
theorem mg_a{a b:Nat}{as bs:List Nat}(h:blt (k b) (k a)=false):mg blt k (a::as) (b::bs)=a::mg blt k as (b::bs):=by rw[mg,GT (by rw[h];exact Ql)]
theorem zku{b:Nat}{bs:List Nat}:∀ {xs as:List Nat},(∀ x ∈ xs,blt (k b) (k x)=false)->mg blt k (xs++as) (b::bs)=xs++mg blt k as (b::bs)
 | [],as,h=>rfl
 | x::xs,as,h=>by rw[Zd,mg_a (h x (by simp)),zku λy hy=>h y (by simp[hy])];rfl
theorem zkx{a:Nat}{as:List Nat}:∀ {ys bs:List Nat},(∀ y ∈ ys,blt (k y) (k a)=true)->mg blt k (a::as) (ys++bs)=ys++mg blt k (a::as) bs
 | [],bs,h=>rfl
 | y::ys,bs,h=>by rw[Zd,mg_b (h y (by simp)),zkx λz hz=>h z (by simp[hz])];rfl
theorem z1f{a:Nat}{ys:List Nat}(h:∀ y ∈ ys,blt (k y) (k a)=true):mg blt k [a] ys=ys ++ [a]:=by
 have:=zkx (as := []) (bs := []) h;rw[QD,za5] at this;exact this
theorem z2m{ws:List Nat}:∀ (n:Nat) (xs ys:List Nat),xs.length+ys.length=n->(∀ w ∈ ws,∀ y ∈ ys,blt (k y) (k w)=true)->mg blt k (xs++ws) ys=mg blt k xs ys++ws:=by
 intro n
 induction n with
 | zero =>
   intro xs ys hn h;have:xs = []:=QM (by omega);have:ys = []:=QM (by omega);subst xs;subst ys;rw[za5,za5]
 | succ n ih =>
   intro xs ys hn h
   cases ys with
   | nil=>rw[za5,za5]
   | cons y ys =>
     cases xs with
     | nil =>
       rw[za7,ZJ]
       cases ws with
       | nil=>rw[za7,QD]
       | cons w ws =>
         have:=zkx (blt:=blt) (k:=k) (as:=ws) (bs := []) (h w (by simp));rw[QD,za5] at this;exact this
     | cons x xs =>
       simp only[Qf] at hn;rw[Zd]
       cases e:blt (k y) (k x) with
       | true =>
         rw[mg_b e,mg_b e,Zd,<- Zd,ih (x::xs) ys (by simp only[Qf];omega) λw hw z hz=>h w hw z (by simp[hz])]
       | false=>rw[mg_a e,mg_a e,Zd,ih xs (y::ys) (by simp only[Qf];omega) h]
theorem zns{xs ws ys:List Nat}(h:∀ w ∈ ws,∀ y ∈ ys,blt (k y) (k w)=true):mg blt k (xs++ws) ys=mg blt k xs ys++ws:=z2m _ xs ys rfl h
theorem z3i{zs:List Nat}:∀ (n:Nat) (xs ys:List Nat),xs.length+ys.length=n->(∀ z ∈ zs,∀ x ∈ xs,blt (k z) (k x)=false)->mg blt k xs (ys++zs)=mg blt k xs ys++zs:=by
 intro n
 induction n with
 | zero =>
   intro xs ys hn h;have:xs = []:=QM (by omega);have:ys = []:=QM (by omega);subst xs;subst ys;rw[za7,za7]
 | succ n ih =>
   intro xs ys hn h
   cases xs with
   | nil=>rw[za7,za7]
   | cons x xs =>
     cases ys with
     | nil =>
       rw[za5,ZJ]
       cases zs with
       | nil=>rw[za5,QD]
       | cons z zs =>
         have:=zku (blt:=blt) (k:=k) (bs:=zs) (as := []) (h z (by simp));rw[QD,za7] at this;exact this
     | cons y ys =>
       simp only[Qf] at hn;rw[Zd]
       cases e:blt (k y) (k x) with
       | true=>rw[mg_b e,mg_b e,Zd,ih (x::xs) ys (by simp only[Qf];omega) h]
       | false=>rw[mg_a e,mg_a e,Zd,<- Zd,ih xs (y::ys) (by simp only[Qf];omega) λz hz w hw=>h z hz w (by simp[hw])]
theorem zjk{xs ys zs:List Nat}(h:∀ z ∈ zs,∀ x ∈ xs,blt (k z) (k x)=false):mg blt k xs (ys++zs)=mg blt k xs ys++zs:=z3i _ xs ys rfl h
theorem zn0:∀ (n:Nat) (xs ys:List Nat),xs.length+ys.length=n->(mg blt k xs ys).Perm (xs++ys):=by
 intro n
 induction n with
 | zero =>
   intro xs ys hn;have:xs = []:=QM (by omega);subst xs;rw[za7];exact .refl _
 | succ n ih =>
   intro xs ys hn
   cases xs with
   | nil=>rw[za7];exact .refl _
   | cons x xs =>
     cases ys with
     | nil=>rw[za5,QD]
     | cons y ys =>
       simp only[Qf] at hn
       cases e:blt (k y) (k x) with
       | true =>
         rw[mg_b e];refine .trans (.cons y (ih (x::xs) ys (by simp only[Qf];omega))) ?_;exact(Yd (a:=y) (l₁:=x::xs) (l₂:=ys)).symm
       | false =>
         rw[mg_a e,Zd];exact .cons x (ih xs (y::ys) (by simp only[Qf];omega))
theorem mg_mem{xs ys:List Nat}{z:Nat}:z ∈ mg blt k xs ys↔z ∈ xs\/z ∈ ys:=by rw[(zn0 _ xs ys rfl).mem_iff,Qv]
theorem zrf(xs ys:List Nat):(mg blt k xs ys).length=xs.length+ys.length:=by rw[(zn0 _ xs ys rfl).length_eq,Qj]
theorem z2b(W:WO blt):∀ (n:Nat) (xs ys:List Nat),xs.length+ys.length=n->xs.Pairwise (Rk blt k)->ys.Pairwise (Rk blt k)->(∀ x ∈ xs,∀ y ∈ ys,x<y)->(mg blt k xs ys).Pairwise (Rk blt k):=by
 intro n
 induction n with
 | zero =>
   intro xs ys hn h1 h2 h3;have:xs = []:=QM (by omega);subst xs;rw[za7];exact h2
 | succ n ih =>
   intro xs ys hn h1 h2 h3
   cases xs with
   | nil=>rw[za7];exact h2
   | cons x xs =>
     cases ys with
     | nil=>rw[za5];exact h1
     | cons y ys =>
       simp only[Qf] at hn;have p1:=ZH.mp h1;have p2:=ZH.mp h2
       cases e:blt (k y) (k x) with
       | true =>
         rw[mg_b e];refine ZH.mpr ⟨λz hz=>?_,ih (x::xs) ys (by simp only[Qf];omega) h1 p2.2 λa ha b hb=>h3 a ha b (by simp[hb])⟩;rcases mg_mem.mp hz with hz|hz
         ·rcases Qs.mp hz with rfl|hz
          ·exact .inl e
          ·exact Rk.trans W (.inl e) (p1.1 z hz)
         ·exact p2.1 z hz
       | false =>
         rw[mg_a e];have rx:Rk blt k x y := .inr ⟨e,h3 x (by simp) y (by simp)⟩;refine ZH.mpr ⟨λz hz=>?_,ih xs (y::ys) (by simp only[Qf];omega) p1.2 h2 λa ha b hb=>h3 a (by simp[ha]) b hb⟩;rcases mg_mem.mp hz with hz|hz
         ·exact p1.1 z hz
         ·rcases Qs.mp hz with rfl|hz
          ·exact rx
          ·exact Rk.trans W rx (p2.1 z hz)
theorem zs5(W:WO blt){xs ys:List Nat}(h1:xs.Pairwise (Rk blt k))(h2:ys.Pairwise (Rk blt k))(h3:∀ x ∈ xs,∀ y ∈ ys,x<y):(mg blt k xs ys).Pairwise (Rk blt k):=z2b W _ xs ys rfl h1 h2 h3
end
def at0(a₀:Array Vu)(n:Nat):Vu:=a₀.getD n (.none,.none)
theorem ziv{a₀:Array Vu}{n:Nat}(h:n<a₀.size):a₀[n]? = some (at0 a₀ n):=by
 unfold at0;rw[Q1 h];simp[Array.getD,h]
structure Nmd (a₀:Array Vu) (arr:Array Vu) (L:List Nat):Prop where
 eq:arr.toList=L.map (at0 a₀)
 lt:∀ n ∈ L,n<a₀.size
section
variable {a₀ : Array Vu} {a b out : Array Vu} {LA LB oN : List Nat}
theorem Nmd.size(h:Nmd a₀ a LA):a.size=LA.length:=by rw[<- QE,h.eq,Qe]
theorem Nmd.get(h:Nmd a₀ a LA){i:Nat}(hi:i<LA.length):∃ x,a[i]? = some x/\a₀[LA.getD i 0]? = some x/\x=at0 a₀ (LA.getD i 0):=by
 refine⟨at0 a₀ (LA.getD i 0),?_,ziv (h.lt _ ?_),rfl⟩
 ·rw[<- QA,h.eq,Qk,Qa hi];simp[QX,hi]
 ·simp[QX,hi]
theorem Nmd.push(h:Nmd a₀ out oN){n:Nat}(hn:n<a₀.size):Nmd a₀ (out.push (at0 a₀ n)) (oN ++ [n]) :=
 ⟨by rw[ZW,h.eq,Qy];rfl,λx hx=>by rcases Qv.mp hx with z|z; (exact h.lt x z); (rw[Qg.mp z];exact hn)⟩
theorem Nmd.app(h:Nmd a₀ out oN)(h':Nmd a₀ a LA):Nmd a₀ (out++a) (oN++LA) :=
 ⟨by rw[Y3,h.eq,h'.eq,Qy],λx hx=>by rcases Qv.mp hx with z|z; (exact h.lt x z); (exact h'.lt x z)⟩
theorem Nmd.cut(h:Nmd a₀ a LA)(i j:Nat):Nmd a₀ (a.extract i j) ((LA.drop i).take (j - i)) :=
 ⟨by rw[Array.toList_extract,h.eq,List.extract_eq_drop_take',List.drop_take,<- JQ,<- JP],λx hx=>h.lt x (Z9 (ZA hx))⟩
theorem Nmd.rest(h:Nmd a₀ a LA)(i:Nat):Nmd a₀ (a.extract i) (LA.drop i):=by
 have:=h.cut i a.size;rw[h.size,ZD (by rw[Q9];exact Qc _),<- h.size] at this;exact this
end
section
variable {α : Type} {blt : α → α → Bool} {k : Nat → α} {a₀ a b out : Array Vu} {LA LB : List Nat}
structure Mid (blt:α->α->Bool) (k:Nat->α) (a₀:Array Vu) (LA LB:List Nat) (out:Array Vu) (ia ib:Nat):Prop where
 ha:ia<=LA.length
 hb:ib<=LB.length
 ex:∃ oN,Nmd a₀ out oN/\oN++mg blt k (LA.drop ia) (LB.drop ib)=mg blt k LA LB
theorem zd0{L:List Nat}{i:Nat}(h:i<L.length):L.drop i=L.getD i 0::L.drop (i+1):=by
 rw[QC h];simp[QX,h]
theorem Mid.pb(A:Nmd a₀ a LA)(B:Nmd a₀ b LB){ia ib:Nat}(m:Mid blt k a₀ LA LB out ia ib)(h1:ia<LA.length)(h2:ib<LB.length)(h:blt (k (LB.getD ib 0)) (k (LA.getD ia 0))=true):Mid blt k a₀ LA LB (out.push (at0 a₀ (LB.getD ib 0))) ia (ib+1):=by
 obtain⟨oN,n,e⟩:=m.ex;refine⟨m.ha,h2,oN ++ [LB.getD ib 0],n.push (B.lt _ (by simp[QX,h2])),?_⟩;rw[<- e,zd0 h1,zd0 h2,mg_b h,Q3];rfl
theorem Mid.pa(A:Nmd a₀ a LA)(B:Nmd a₀ b LB){ia ib:Nat}(m:Mid blt k a₀ LA LB out ia ib)(h1:ia<LA.length)(h2:ib<LB.length)(h:blt (k (LB.getD ib 0)) (k (LA.getD ia 0))=false):Mid blt k a₀ LA LB (out.push (at0 a₀ (LA.getD ia 0))) (ia+1) ib:=by
 obtain⟨oN,n,e⟩:=m.ex;refine⟨h1,m.hb,oN ++ [LA.getD ia 0],n.push (A.lt _ (by simp[QX,h1])),?_⟩;rw[<- e,zd0 h1,zd0 h2,mg_a h,Q3];rfl
theorem zcp{L:List Nat}{i p x:Nat}(hx:x ∈ (L.drop i).take p):∃ j,j<p/\i+j<L.length/\x=L.getD (i+j) 0:=by
 obtain⟨j,hj,e⟩:=Ji hx;rw[QJ,Q9] at hj;refine⟨j,by omega,by omega,?_⟩;rw[<- e,List.getElem_take,List.getElem_drop];simp[QX,show i+j<L.length by omega]
theorem zsb{L:List Nat}{i p:Nat}(h:i+p<=L.length):L.drop i=(L.drop i).take p++L.drop (i+p):=by
 rw[<- ZR,Zm]
theorem Mid.as(A:Nmd a₀ a LA){ia ib p:Nat}(m:Mid blt k a₀ LA LB out ia ib)(h1:ia+p<=LA.length)(h2:ib<LB.length)(h:∀ i,i<p->blt (k (LB.getD ib 0)) (k (LA.getD (ia+i) 0))=false):Mid blt k a₀ LA LB (out++a.extract ia (ia+p)) (ia+p) ib:=by
 obtain⟨oN,n,e⟩:=m.ex;have c:=A.cut ia (ia+p);rw[show ia+p - ia=p by omega] at c;refine⟨h1,m.hb,oN++(LA.drop ia).take p,n.app c,?_⟩;rw[<- e,Q3]
 congr 1
 rw[zd0 h2]
 conv=>rhs;rw[zsb h1]
 rw[zku];intro x hx;obtain⟨j,hj,_,rfl⟩:=zcp hx;exact h j hj
theorem Mid.bs(B:Nmd a₀ b LB){ia ib p:Nat}(m:Mid blt k a₀ LA LB out ia ib)(h1:ia<LA.length)(h2:ib+p<=LB.length)(h:∀ i,i<p->blt (k (LB.getD (ib+i) 0)) (k (LA.getD ia 0))=true):Mid blt k a₀ LA LB (out++b.extract ib (ib+p)) ia (ib+p):=by
 obtain⟨oN,n,e⟩:=m.ex;have c:=B.cut ib (ib+p);rw[show ib+p - ib=p by omega] at c;refine⟨m.ha,h2,oN++(LB.drop ib).take p,n.app c,?_⟩;rw[<- e,Q3]
 congr 1
 rw[zd0 h1]
 conv=>rhs;rw[zsb h2]
 rw[zkx];intro x hx;obtain⟨j,hj,_,rfl⟩:=zcp hx;exact h j hj
def Mrg(blt:α->α->Bool)(k:Nat->α)(a₀:Array Vu)(LA LB:List Nat)(r:Array Vu):Prop:=Nmd a₀ r (mg blt k LA LB)
theorem Mid.endB(A:Nmd a₀ a LA)(B:Nmd a₀ b LB){ia ib:Nat}(m:Mid blt k a₀ LA LB out ia ib)(h:ib=LB.length):Mrg blt k a₀ LA LB (out++a.extract ia++b.extract ib):=by
 obtain⟨oN,n,e⟩:=m.ex;subst h;have:=(n.app (A.rest ia)).app (B.rest LB.length);rw[Z6,za5] at e;rw[Z6,QD,e] at this;exact this
theorem Mid.endA(A:Nmd a₀ a LA)(B:Nmd a₀ b LB){ia ib:Nat}(m:Mid blt k a₀ LA LB out ia ib)(h:ia=LA.length):Mrg blt k a₀ LA LB (out++a.extract ia++b.extract ib):=by
 obtain⟨oN,n,e⟩:=m.ex;subst h;have:=(n.app (A.rest LA.length)).app (B.rest ib);rw[Z6,za7] at e;rw[Z6,QD,e] at this;exact this
theorem Mid.last(A:Nmd a₀ a LA)(B:Nmd a₀ b LB){ia ib:Nat}(m:Mid blt k a₀ LA LB out ia ib)(h:ia+1=LA.length)(hl:∀ y ∈ LB,blt (k y) (k (LA.getD (LA.length - 1) 0))=true):Mrg blt k a₀ LA LB (out++b.extract ib++a.extract ia):=by
 obtain⟨oN,n,e⟩:=m.ex;have:=(n.app (B.rest ib)).app (A.rest ia);have d:LA.drop ia = [LA.getD ia 0]:=by rw[zd0 (by omega),QZ (by omega)]
 rw[d] at e this;rw[z1f (λy hy=>by have:=hl y (Z9 hy);rwa [show LA.length - 1=ia by omega] at this)] at e;rw[Q3,e] at this;exact this
end
def zlb:Array Vu->Array Vu->StateT Vt Sem (Array Vu):=sortPriv% PySem.Builtin.mergeLo
structure Keep (st st':Vt):Prop where
 ki:kindOf st'=kindOf st
 ar:arrOf st'=arrOf st
 pe:pendingOf st'=pendingOf st
 fa:VF st'=VF st
theorem Keep.refl(st:Vt):Keep st st:=⟨rfl,rfl,rfl,rfl⟩
theorem Keep.trans{a b c:Vt}(h:Keep a b)(h':Keep b c):Keep a c:=⟨h'.ki.trans h.ki,h'.ar.trans h.ar,h'.pe.trans h.pe,h'.fa.trans h.fa⟩
section
variable {prog : Vf} {w : Vk} {A : Vl} {E : Vb → Vc → Prop} {s : Vc} {α : Type} {blt : α → α → Bool} {k : Nat → α} {a₀ a b : Array Vu} {kd : VE} {st : Vt} {LA LB : List Nat}
def Srt(blt:α->α->Bool)(k:Nat->α)(L:List Nat):Prop:=∀ i j,i<j->j<L.length->blt (k (L.getD j 0)) (k (L.getD i 0))=false
theorem galA{ia jb n hint:Nat}{key:Vu}{Q:Option Nat->Vt->Prop}(W:WO blt)(hC:zbo prog w A s kd a₀ blt k)(ki:kindOf st=kd)(NA:Nmd a₀ a LA)(sa:Srt blt k LA)(hj:a₀[jb]? = some key)(hn:ia+n<=LA.length)(hh:hint<n)
 (h:∀ p,p<=n->(∀ i,i<p->blt (k jb) (k (LA.getD (ia+i) 0))=false)->(∀ i,p<=i->i<n->blt (k jb) (k (LA.getD (ia+i) 0))=true)->Q (some p) st):wpS (model prog w) A E s (zeh false key a ia n hint) Q st:=by
 refine zh9 (L:=λi=>LA.getD (ia+i) 0) (jk:=jb) hC ki hj (λi hi=>?_) (λi j hij hjn e=>?_) hh λp hp h1 h2=>h p hp (λi hi=>?_) λi hi hi2=>?_
 ·obtain⟨x,e1,e2,_⟩:=NA.get (i:=ia+i) (by omega);exact⟨x,e1,e2⟩
 ·have e:(!blt (k jb) (k (LA.getD (ia+j) 0)))=true:=e;show(!blt (k jb) (k (LA.getD (ia+i) 0)))=true;rw[Zv] at e ⊢;exact zck W (sa (ia+i) (ia+j) (by omega) (by omega)) e
 ·have e:(!blt (k jb) (k (LA.getD (ia+i) 0)))=true:=h1 i hi;rwa [Zv] at e
 ·have e:(!blt (k jb) (k (LA.getD (ia+i) 0)))=false:=h2 i hi hi2;rwa [YG] at e
theorem galB{ib ja n hint:Nat}{key:Vu}{Q:Option Nat->Vt->Prop}(W:WO blt)(hC:zbo prog w A s kd a₀ blt k)(ki:kindOf st=kd)(NB:Nmd a₀ b LB)(sb:Srt blt k LB)(hj:a₀[ja]? = some key)(hn:ib+n<=LB.length)(hh:hint<n)
 (h:∀ p,p<=n->(∀ i,i<p->blt (k (LB.getD (ib+i) 0)) (k ja)=true)->(∀ i,p<=i->i<n->blt (k (LB.getD (ib+i) 0)) (k ja)=false)->Q (some p) st):wpS (model prog w) A E s (zeh true key b ib n hint) Q st:=by
 refine zh9 (L:=λi=>LB.getD (ib+i) 0) (jk:=ja) hC ki hj (λi hi=>?_) (λi j hij hjn e=>?_) hh λp hp h1 h2=>h p hp (λi hi=>h1 i hi) λi hi hi2=>h2 i hi hi2
 ·obtain⟨x,e1,e2,_⟩:=NB.get (i:=ib+i) (by omega);exact⟨x,e1,e2⟩
 ·exact zf9 W (sb (ib+i) (ib+j) (by omega) (by omega)) e
theorem za0{β:Type}{c:Bool}{t e:StateT Vt Sem β}{Q:β->Vt->Prop}{M:Gy}(h1:c=true->wpS M A E s t Q st)(h2:c=false->wpS M A E s e Q st):wpS M A E s (if c=true then t else e) Q st:=by
 cases c with
 | true=>rw[GQ rfl];exact h1 rfl
 | false=>rw[GT Ql];exact h2 rfl
theorem z3b{Q:Array Vu->Vt->Prop}(W:WO blt)(hC:zbo prog w A s kd a₀ blt k)(ki:kindOf st=kd)(NA:Nmd a₀ a LA)(NB:Nmd a₀ b LB)(sa:Srt blt k LA)(sb:Srt blt k LB)(hA:0<LA.length)(hB:0<LB.length)
 (hf:blt (k (LB.getD 0 0)) (k (LA.getD 0 0))=true) (hl:∀ y ∈ LB,blt (k y) (k (LA.getD (LA.length - 1) 0))=true) (h:∀ r st',Mrg blt k a₀ LA LB r->Keep st st'->Q r st'):wpS (model prog w) A E s (zlb a b) Q st:=by
 have za:=NA.size;have zb:=NB.size;unfold zlb;refine Vh (UC (V1 ⟨rfl,?_⟩));dsimp only;obtain⟨x0,e0,_,rfl⟩:=NB.get hB;refine Vh (zat e0 ?_)
 have m0:Mid blt k a₀ LA LB #[at0 a₀ (LB.getD 0 0)] 0 1:=by
  have:=Mid.pb (out:=#[]) NA NB ⟨Qw _,Qw _,[],⟨rfl,λ_ h=>by cases h⟩,rfl⟩ hA hB hf;exact this
 by_cases c1:1=b.size
 ·rw[GQ (by simpa using c1)];exact Vi (h _ _ (m0.endB NA NB (by omega)) (.refl _))
 rw[GT (by simpa using c1)]
 by_cases c2:0+1=a.size
 ·rw[GQ (by simpa using c2)];exact Vi (h _ _ (m0.last NA NB (by omega) hl) (.refl _))
 rw[GT (by simpa using c2)];refine Vh (Ub ?_)
 refine Vh (VC (Vq
  (I:=λx c st'=>Keep st st'/\∃ out ia ib g,c=(none,out,ia,ib,g)/\Mid blt k a₀ LA LB out ia ib/\ia+1<LA.length/\ib<LB.length/\x<=ia+ib)
  (Q:=λc st'=>Keep st st'/\∃ r d,c=(some r,d)/\Mrg blt k a₀ LA LB r) ?turn ?out ⟨.refl _,_,_,_,_,rfl,m0,by omega,by omega,by omega⟩) ?rest)
 case rest =>
  rintro c st' ⟨kp,r,d,rfl,m⟩;exact Vi (h r st' m kp)
 case out =>
  rintro c st' ⟨kp,o,i,j,g,rfl,m,h1,h2,h3⟩;exact absurd h3 (by omega)
 case turn =>
  rintro x c st' _ hx ⟨kp,out,ia,ib,g,rfl,m,h1,h2,h3⟩;dsimp only;have ki':kindOf st'=kd:=kp.ki.trans ki
  refine Vh (VC (Vq
   (I:=λy c st2=>st2=st'/\∃ out1 ia1 ib1 ac bc,c=(none,out1,ia1,ib1,ac,bc)/\Mid blt k a₀ LA LB out1 ia1 ib1/\ia1+1<LA.length/\ib1<LB.length/\y+(ia+ib)<=ia1+ib1)
   (Q:=λc st2=>st2=st'/\((∃ r d,c=(some r,d)/\Mrg blt k a₀ LA LB r)\/∃ out1 ia1 ib1 ac bc,c=(none,out1,ia1,ib1,ac,bc)/\Mid blt k a₀ LA LB out1 ia1 ib1/\ia1+1<LA.length/\ib1<LB.length/\1+(ia+ib)<=ia1+ib1)) ?t1 ?o1 ⟨rfl,_,_,_,_,_,rfl,m,h1,h2,by omega⟩) ?r1)
  case o1 =>
   rintro c st2 ⟨e,o,i,j,ac,bc,rfl,m,g1,g2,g3⟩;exact⟨e,.inr ⟨o,i,j,ac,bc,rfl,m,g1,g2,by omega⟩⟩
  case t1 =>
   rintro y c st2 _ hy ⟨rfl,o,i,j,ac,bc,rfl,m,g1,g2,g3⟩;dsimp only;obtain⟨xb,eb,nb,rfl⟩:=NB.get g2;obtain⟨xa,ea,na,rfl⟩:=NA.get (i:=i) (by omega);refine Vh (zat eb (Vh (zat ea (Vh (lt_x hC ki' nb na ?_)))));dsimp only
   cases q:blt (k (LB.getD j 0)) (k (LA.getD i 0)) with
   | true =>
     rw[GQ rfl];have m2:=m.pb NA NB (by omega) g2 q;refine Vh (zat eb ?_)
     by_cases z:j+1=b.size
     ·rw[GQ (by simpa using z)];exact Vi ⟨rfl,.inl ⟨_,_,rfl,m2.endB NA NB (by omega)⟩⟩
     ·rw[GT (by simpa using z)]
      split
      ·exact Vi ⟨rfl,.inr ⟨_,_,_,_,_,rfl,m2,g1,by omega,by omega⟩⟩
      ·exact Vi ⟨rfl,_,_,_,_,_,rfl,m2,g1,by omega,by omega⟩
   | false =>
     rw[GT Ql];have m2:=m.pa NA NB (by omega) g2 q;refine Vh (zat ea ?_)
     by_cases z:i+1+1=a.size
     ·rw[GQ (by simpa using z)];exact Vi ⟨rfl,.inl ⟨_,_,rfl,m2.last NA NB (by omega) hl⟩⟩
     ·rw[GT (by simpa using z)]
      split
      ·exact Vi ⟨rfl,.inr ⟨_,_,_,_,_,rfl,m2,by omega,g2,by omega⟩⟩
      ·exact Vi ⟨rfl,_,_,_,_,_,rfl,m2,by omega,g2,by omega⟩
  case r1 =>
   rintro c st2 ⟨rfl,⟨r,d,rfl,mm⟩|⟨o,i,j,ac,bc,rfl,m,g1,g2,g3⟩⟩
   ·exact Vi ⟨kp,_,_,rfl,mm⟩
   dsimp only;refine Vh (UC (V1 ⟨rfl,?_⟩))
   refine Vh (VC (Vq
    (I:=λy c st3=>Keep st st3/\∃ out1 ia1 ib1 g ac bc,c=(none,out1,ia1,ib1,g,ac,bc)/\Mid blt k a₀ LA LB out1 ia1 ib1/\ia1+1<LA.length/\ib1<LB.length/\1+(ia+ib)<=ia1+ib1)
    (Q:=λc st3=>Keep st st3/\((∃ r d,c=(some r,d)/\Mrg blt k a₀ LA LB r)\/∃ out1 ia1 ib1 g ac bc,c=(none,out1,ia1,ib1,g,ac,bc)/\Mid blt k a₀ LA LB out1 ia1 ib1/\ia1+1<LA.length/\ib1<LB.length/\1+(ia+ib)<=ia1+ib1)) ?t2 ?o2 ⟨kp,_,_,_,_,_,_,rfl,m,g1,g2,g3⟩) ?r2)
   case o2 =>
    rintro c st3 ⟨kp3,z⟩;exact⟨kp3,.inr z⟩
   case r2 =>
    rintro c st3 ⟨kp3,⟨r,d,rfl,mm⟩|⟨o,i,j,g,ac,bc,rfl,m,g1,g2,g3⟩⟩
    ·exact Vi ⟨kp3,_,_,rfl,mm⟩
    dsimp only;refine Vh (VM ?_);exact Vi ⟨kp3.trans ⟨rfl,rfl,rfl,rfl⟩,_,_,_,_,rfl,m,g1,g2,by omega⟩
   case t2 =>
    rintro y c st3 _ hy ⟨kp3,o,i,j,g,ac,bc,rfl,m,g1,g2,g3⟩;dsimp only;obtain⟨xb,eb,nb,rfl⟩:=NB.get g2
    by_cases gg:g > 1 <;> first|rw[GQ gg]|rw[GT gg]
    all_goals
     refine Vh (VM ?_);refine Vh (zat eb ?_);refine Vh (galA W hC (kp3.ki.trans ki) NA sa nb (ia:=i) (n:=a.size - i) (by omega) (by omega) λp hp p1 p2=>?_);dsimp only
     by_cases pp:p > 0 <;> first
      | rw[GQ pp]
        have m1:=m.as NA (p:=p) (by omega) g2 p1
        by_cases z1:i+p+1=a.size
        ·rw[GQ (by simpa using z1)];exact Vi ⟨kp3.trans ⟨rfl,rfl,rfl,rfl⟩,.inl ⟨_,_,rfl,m1.last NA NB (by omega) hl⟩⟩
        rw[GT (by simpa using z1)]
        by_cases z2:i+p=a.size
        ·rw[GQ (by simpa using z2)];exact Vi ⟨kp3.trans ⟨rfl,rfl,rfl,rfl⟩,.inl ⟨_,_,rfl,m1.endA NA NB (by omega)⟩⟩
        rw[GT (by simpa using z2)];have h1':i+p+1<LA.length:=by omega
        have q1:=p2 p (Qc _) (by omega);have pr:i+j<=i+p+j:=by omega
      | rw[GT pp]
        have h1':i+1<LA.length:=g1;have m1:=m;have q1:blt (k (LB.getD j 0)) (k (LA.getD i 0))=true:=p2 0 (by omega) (by omega);have pr:i+j<=i+j:=Qc _
     all_goals
      have m2:=m1.pb NA NB (by omega) g2 q1;refine Vh (zat eb ?_)
      by_cases z3:j+1=b.size
      ·rw[GQ (by simpa using z3)];exact Vi ⟨kp3.trans ⟨rfl,rfl,rfl,rfl⟩,.inl ⟨_,_,rfl,m2.endB NA NB (by omega)⟩⟩
      rw[GT (by simpa using z3)];obtain⟨xa,ea,na,rfl⟩:=NA.get (JO h1');refine Vh (zat ea ?_);refine Vh (galB W hC (kp3.ki.trans ki) NB sb na (ib:=j+1) (n:=b.size - (j+1)) (by omega) (by omega) λq hq r1 r2=>?_);dsimp only
      by_cases qq:q > 0 <;> first
       | rw[GQ qq]
         have m3:=m2.bs NB (p:=q) (JO h1') (by omega) r1
         by_cases z4:j+1+q=b.size
         ·rw[GQ (by simpa using z4)];exact Vi ⟨kp3.trans ⟨rfl,rfl,rfl,rfl⟩,.inl ⟨_,_,rfl,m3.endB NA NB (by omega)⟩⟩
         rw[GT (by simpa using z4)];have h2':j+1+q<LB.length:=by omega
         have q2:=r2 q (Qc _) (by omega)
       | rw[GT qq]
         have h2':j+1<LB.length:=by omega
         have m3:=m2;have q2:=r2 0 (by omega) (by omega)
      all_goals
       have m4:=m3.pa NA NB (JO h1') h2' q2;refine Vh (zat ea ?_);have last:=λe=>m4.last NA NB e hl;refine za0 (λz5=>?_) λz5=>za0 (λ_=>?_) λ_=>?_
       ·have z5:=beq_iff_eq.mp z5;exact Vi ⟨kp3.trans ⟨rfl,rfl,rfl,rfl⟩,.inl ⟨_,_,rfl,last (by omega)⟩⟩
       all_goals have z5:=beq_eq_false_iff_ne.mp z5
       ·exact Vi ⟨kp3.trans ⟨rfl,rfl,rfl,rfl⟩,.inr ⟨_,_,_,_,_,_,rfl,m4,by omega,h2',by omega⟩⟩
       ·exact Vi ⟨kp3.trans ⟨rfl,rfl,rfl,rfl⟩,_,_,_,_,_,_,rfl,m4,by omega,h2',by omega⟩
end
def zmp:Array Vu->Array Vu->StateT Vt Sem (Array Vu):=sortPriv% PySem.Builtin.mergeHi
section
variable {α : Type} {blt : α → α → Bool} {k : Nat → α} {a₀ a b out : Array Vu} {LA LB : List Nat}
structure MidH (blt:α->α->Bool) (k:Nat->α) (a₀:Array Vu) (LA LB:List Nat) (out:Array Vu) (na nb:Nat):Prop where
 ha:na<=LA.length
 hb:nb<=LB.length
 ex:∃ oN,Nmd a₀ out oN/\mg blt k (LA.take na) (LB.take nb)++oN.reverse=mg blt k LA LB
theorem Nmd.rev{oN:List Nat}(h:Nmd a₀ out oN):Nmd a₀ out.reverse oN.reverse:=⟨by rw[Array.toList_reverse,h.eq,YZ],λx hx=>h.lt x (JX.mp hx)⟩
theorem zo3{L:List Nat}{i:Nat}(h:i<L.length):L.take (i+1)=L.take i ++ [L.getD i 0]:=by
 rw[jt,Qa h];simp[QX,h]
theorem zex{L:List Nat}{p x:Nat}(hx:x ∈ L.take p):∃ j,j<p/\j<L.length/\x=L.getD j 0:=by
 have:=zcp (L:=L) (i:=0) (p:=p) (by simpa using hx);obtain⟨j,h1,h2,h3⟩:=this;exact⟨j,h1,by omega,by rw[h3,Je]⟩
theorem Srt.le{L:List Nat}(W:WO blt)(h:Srt blt k L){i j:Nat}(hij:i<=j)(hj:j<L.length):blt (k (L.getD j 0)) (k (L.getD i 0))=false:=by
 rcases Zu i j with z|z
 ·exact h i j z hj
 ·have:i=j:=by omega
  subst this;exact W.irr _
theorem MidH.pa(A:Nmd a₀ a LA){na nb:Nat}(m:MidH blt k a₀ LA LB out (na+1) nb)(h:∀ i,i<nb->blt (k (LB.getD i 0)) (k (LA.getD na 0))=true):MidH blt k a₀ LA LB (out.push (at0 a₀ (LA.getD na 0))) na nb:=by
 obtain⟨oN,n,e⟩:=m.ex;have hna:na<LA.length:=m.ha;refine⟨by omega,m.hb,oN ++ [LA.getD na 0],n.push (A.lt _ (by simp[QX,hna])),?_⟩;rw[zo3 hna,zns (λw hw y hy=>by obtain⟨j,h1,_,rfl⟩:=zex hy;rw[Qg.mp hw];exact h j h1)] at e;rw[<- e,Jj,Q3];rfl
theorem MidH.pb(B:Nmd a₀ b LB){na nb:Nat}(m:MidH blt k a₀ LA LB out na (nb+1))(h:∀ i,i<na->blt (k (LB.getD nb 0)) (k (LA.getD i 0))=false):MidH blt k a₀ LA LB (out.push (at0 a₀ (LB.getD nb 0))) na nb:=by
 obtain⟨oN,n,e⟩:=m.ex;have hnb:nb<LB.length:=m.hb;refine⟨m.ha,by omega,oN ++ [LB.getD nb 0],n.push (B.lt _ (by simp[QX,hnb])),?_⟩;rw[zo3 hnb,zjk (λz hz x hx=>by obtain⟨j,h1,_,rfl⟩:=zex hx;rw[Qg.mp hz];exact h j h1)] at e;rw[<- e,Jj,Q3];rfl
theorem zlg{L:List Nat}{p n:Nat}(h:p<=n):L.take n=L.take p++(L.drop p).take (n - p):=by
 rw[<- YA,show p+(n - p)=n by omega]
theorem MidH.as(A:Nmd a₀ a LA){na nb p:Nat}(m:MidH blt k a₀ LA LB out na nb)(hp:p<=na)(h:∀ j,p<=j->j<na->∀ i,i<nb->blt (k (LB.getD i 0)) (k (LA.getD j 0))=true):MidH blt k a₀ LA LB (out++(a.extract p na).reverse) p nb:=by
 obtain⟨oN,n,e⟩:=m.ex;have hh:=m.ha;refine⟨by omega,m.hb,oN++((LA.drop p).take (na - p)).reverse,n.app (A.cut p na).rev,?_⟩;rw[zlg hp,zns (λw hw y hy=>by obtain⟨i,h1,_,rfl⟩:=zex hy;obtain⟨j,j1,_,rfl⟩:=zcp hw;exact h (p+j) (by omega) (by omega) i h1)] at e;rw[<- e,Jj,Yz,Q3]
theorem MidH.bs(B:Nmd a₀ b LB){na nb p:Nat}(m:MidH blt k a₀ LA LB out na nb)(hp:p<=nb)(h:∀ j,p<=j->j<nb->∀ i,i<na->blt (k (LB.getD j 0)) (k (LA.getD i 0))=false):MidH blt k a₀ LA LB (out++(b.extract p nb).reverse) na p:=by
 obtain⟨oN,n,e⟩:=m.ex;have hh:=m.hb;refine⟨m.ha,by omega,oN++((LB.drop p).take (nb - p)).reverse,n.app (B.cut p nb).rev,?_⟩;rw[zlg hp,zjk (λz hz x hx=>by obtain⟨i,h1,_,rfl⟩:=zex hx;obtain⟨j,j1,_,rfl⟩:=zcp hz;exact h (p+j) (by omega) (by omega) i h1)] at e;rw[<- e,Jj,Yz,Q3]
theorem Nmd.upto(h:Nmd a₀ a LA)(n:Nat):Nmd a₀ (a.extract 0 n) (LA.take n):=by
 have:=h.cut 0 n;rwa [ZZ,Yh] at this
theorem MidH.done(A:Nmd a₀ a LA)(B:Nmd a₀ b LB){na nb:Nat}(m:MidH blt k a₀ LA LB out na nb)(h:na=0\/nb=0):Mrg blt k a₀ LA LB (a.extract 0 na++b.extract 0 nb++out.reverse):=by
 obtain⟨oN,n,e⟩:=m.ex;have:=((A.upto na).app (B.upto nb)).app n.rev
 have z:LA.take na++LB.take nb++oN.reverse=mg blt k LA LB:=by
  rw[<- e];rcases h with rfl|rfl
  ·rw[ZS,za7];rfl
  ·rw[ZS,za5,QD]
 rw[z] at this;exact this
theorem MidH.first(A:Nmd a₀ a LA)(B:Nmd a₀ b LB){na nb:Nat}(m:MidH blt k a₀ LA LB out na nb)(h:nb=1)(hf:blt (k (LB.getD 0 0)) (k (LA.getD 0 0))=true):Mrg blt k a₀ LA LB (b.extract 0 nb++a.extract 0 na++out.reverse):=by
 obtain⟨oN,n,e⟩:=m.ex;have:=((B.upto nb).app (A.upto na)).app n.rev
 have z:LB.take nb++LA.take na++oN.reverse=mg blt k LA LB:=by
  rw[<- e];subst h;have hb:=m.hb
  have t1:LB.take 1 = [LB.getD 0 0]:=by
   have:=zo3 (L:=LB) (i:=0) (by omega);simpa using this
  rw[t1]
  cases LA with
  | nil=>simp[za7]
  | cons x xs =>
    cases na with
    | zero=>simp[za7]
    | succ na =>
      have hf:blt (k (LB.getD 0 0)) (k x)=true:=by simpa using hf
      rw[Y6,mg_b hf,za5];rfl
 rw[z] at this;exact this
end
section
variable {prog : Vf} {w : Vk} {A : Vl} {E : Vb → Vc → Prop} {s : Vc} {α : Type} {blt : α → α → Bool} {k : Nat → α} {a₀ a b : Array Vu} {kd : VE} {st : Vt} {LA LB : List Nat}
theorem z2y{Q:Array Vu->Vt->Prop}(W:WO blt)(hC:zbo prog w A s kd a₀ blt k)(ki:kindOf st=kd)(NA:Nmd a₀ a LA)(NB:Nmd a₀ b LB)(sa:Srt blt k LA)(sb:Srt blt k LB)(hA:0<LA.length)(hB:0<LB.length)
 (hf:blt (k (LB.getD 0 0)) (k (LA.getD 0 0))=true) (hl:∀ i,i<LB.length->blt (k (LB.getD i 0)) (k (LA.getD (LA.length - 1) 0))=true) (h:∀ r st',Mrg blt k a₀ LA LB r->Keep st st'->Q r st'):wpS (model prog w) A E s (zmp a b) Q st:=by
 have za:=NA.size;have zb:=NB.size;unfold zmp;refine Vh (UC (V1 ⟨rfl,?_⟩));dsimp only;obtain⟨x0,e0,_,rfl⟩:=NA.get (i:=a.size - 1) (by omega);refine Vh (zat e0 ?_)
 have m0:MidH blt k a₀ LA LB #[at0 a₀ (LA.getD (a.size - 1) 0)] (a.size - 1) b.size:=by
  have mm:MidH blt k a₀ LA LB #[] (a.size - 1+1) b.size:=⟨by omega,by omega,[],⟨rfl,λ_ h=>by cases h⟩,by rw[show a.size - 1+1=LA.length by omega,zb,QP,QP];simp⟩;exact mm.pa NA λi hi=>by rw[za];exact hl i (by omega)
 refine za0 (λz=>?_) λz=>za0 (λz'=>?_) λz'=>?_
 ·exact Vi (h _ _ (m0.done NA NB (.inl (beq_iff_eq.mp z))) (.refl _))
 ·exact Vi (h _ _ (m0.first NA NB (beq_iff_eq.mp z') hf) (.refl _))
 have z:=beq_eq_false_iff_ne.mp z;have z':=beq_eq_false_iff_ne.mp z';refine Vh (Ub ?_)
 refine Vh (VC (Vq
  (I:=λx c st'=>Keep st st'/\∃ out na nb g,c=(none,na,nb,out,g)/\MidH blt k a₀ LA LB out na nb/\1<=na/\2<=nb/\x+na+nb<=LA.length+LB.length)
  (Q:=λc st'=>Keep st st'/\∃ r d,c=(some r,d)/\Mrg blt k a₀ LA LB r) ?turn ?out ⟨.refl _,_,_,_,_,rfl,m0,by omega,by omega,by omega⟩) ?rest)
 case rest =>
  rintro c st' ⟨kp,r,d,rfl,m⟩;exact Vi (h r st' m kp)
 case out =>
  rintro c st' ⟨kp,o,i,j,g,rfl,m,h1,h2,h3⟩;exact absurd h3 (by omega)
 case turn =>
  rintro x c st' _ hx ⟨kp,out,na,nb,g,rfl,m,h1,h2,h3⟩;dsimp only;have ki':kindOf st'=kd:=kp.ki.trans ki
  refine Vh (VC (Vq
   (I:=λy c st2=>st2=st'/\∃ out1 na1 nb1 ac bc,c=(none,na1,nb1,out1,ac,bc)/\MidH blt k a₀ LA LB out1 na1 nb1/\1<=na1/\2<=nb1/\y+na1+nb1<=na+nb)
   (Q:=λc st2=>st2=st'/\((∃ r d,c=(some r,d)/\Mrg blt k a₀ LA LB r)\/∃ out1 na1 nb1 ac bc,c=(none,na1,nb1,out1,ac,bc)/\MidH blt k a₀ LA LB out1 na1 nb1/\1<=na1/\2<=nb1/\1+na1+nb1<=na+nb)) ?t1 ?o1 ⟨rfl,_,_,_,_,_,rfl,m,h1,h2,by omega⟩) ?r1)
  case o1 =>
   rintro c st2 ⟨e,o,i,j,ac,bc,rfl,m,g1,g2,g3⟩;exact⟨e,.inr ⟨o,i,j,ac,bc,rfl,m,g1,g2,by omega⟩⟩
  case t1 =>
   rintro y c st2 _ hy ⟨rfl,o,i,j,ac,bc,rfl,m,g1,g2,g3⟩;obtain⟨i,rfl⟩:∃ i',i=i'+1:=⟨i - 1,by omega⟩;obtain⟨j,rfl⟩:∃ j',j=j'+1:=⟨j - 1,by omega⟩;have ma:=m.ha;have mb:=m.hb;dsimp only;simp only[JG];obtain⟨xb,eb,nb,rfl⟩:=NB.get (i:=j) (by omega);obtain⟨xa,ea,na,rfl⟩:=NA.get (i:=i) (by omega);refine Vh (zat eb (Vh (zat ea (Vh (lt_x hC ki' nb na ?_)))));dsimp only
   cases q:blt (k (LB.getD j 0)) (k (LA.getD i 0)) with
   | true =>
     rw[GQ rfl];have m2:=m.pa NA λt ht=>zf9 W (sb.le W (show t<=j by omega) (by omega)) q;refine Vh (zat ea ?_);refine za0 (λz=>?_) λz=>?_
     ·exact Vi ⟨rfl,.inl ⟨_,_,rfl,m2.done NA NB (.inl (beq_iff_eq.mp z))⟩⟩
     ·have z:=beq_eq_false_iff_ne.mp z
      split
      ·exact Vi ⟨rfl,.inr ⟨_,_,_,_,_,rfl,m2,by omega,g2,by omega⟩⟩
      ·exact Vi ⟨rfl,_,_,_,_,_,rfl,m2,by omega,g2,by omega⟩
   | false =>
     rw[GT Ql];have m2:=m.pb NB λt ht=>zck W (sa.le W (show t<=i by omega) (by omega)) q;refine Vh (zat eb ?_);refine za0 (λz=>?_) λz=>?_
     ·exact Vi ⟨rfl,.inl ⟨_,_,rfl,m2.first NA NB (beq_iff_eq.mp z) hf⟩⟩
     ·have z:=beq_eq_false_iff_ne.mp z
      split
      ·exact Vi ⟨rfl,.inr ⟨_,_,_,_,_,rfl,m2,g1,by omega,by omega⟩⟩
      ·exact Vi ⟨rfl,_,_,_,_,_,rfl,m2,g1,by omega,by omega⟩
  case r1 =>
   rintro c st2 ⟨rfl,⟨r,d,rfl,mm⟩|⟨o,i,j,ac,bc,rfl,m,g1,g2,g3⟩⟩
   ·exact Vi ⟨kp,_,_,rfl,mm⟩
   dsimp only;refine Vh (UC (V1 ⟨rfl,?_⟩))
   refine Vh (VC (Vq
    (I:=λy c st3=>Keep st st3/\∃ out1 na1 nb1 g ac bc,c=(none,na1,nb1,out1,g,ac,bc)/\MidH blt k a₀ LA LB out1 na1 nb1/\1<=na1/\2<=nb1/\1+na1+nb1<=na+nb)
    (Q:=λc st3=>Keep st st3/\((∃ r d,c=(some r,d)/\Mrg blt k a₀ LA LB r)\/∃ out1 na1 nb1 g ac bc,c=(none,na1,nb1,out1,g,ac,bc)/\MidH blt k a₀ LA LB out1 na1 nb1/\1<=na1/\2<=nb1/\1+na1+nb1<=na+nb)) ?t2 ?o2 ⟨kp,_,_,_,_,_,_,rfl,m,g1,g2,g3⟩) ?r2)
   case o2 =>
    rintro c st3 ⟨kp3,z⟩;exact⟨kp3,.inr z⟩
   case r2 =>
    rintro c st3 ⟨kp3,⟨r,d,rfl,mm⟩|⟨o,i,j,g,ac,bc,rfl,m,g1,g2,g3⟩⟩
    ·exact Vi ⟨kp3,_,_,rfl,mm⟩
    dsimp only;refine Vh (VM ?_);exact Vi ⟨kp3.trans ⟨rfl,rfl,rfl,rfl⟩,_,_,_,_,rfl,m,g1,g2,by omega⟩
   case t2 =>
    rintro y c st3 _ hy ⟨kp3,o,i,j,g,ac,bc,rfl,m,g1,g2,g3⟩;obtain⟨j,rfl⟩:∃ j',j=j'+1:=⟨j - 1,by omega⟩;have ma:=m.ha;have mb:=m.hb;dsimp only;simp only[JG];obtain⟨xb,eb,nb,rfl⟩:=NB.get (i:=j) (by omega)
    by_cases gg:g > 1 <;> first|rw[GQ gg]|rw[GT gg]
    all_goals
     refine Vh (VM ?_);refine Vh (zat eb ?_);refine Vh (galA W hC (kp3.ki.trans ki) NA sa nb (ia:=0) (n:=i) (by omega) (by omega) λp hp p1 p2=>?_);simp only[Je] at p1 p2;dsimp only
     by_cases pp:i - p > 0 <;> first
      | rw[GQ pp]
        have m1:=m.as NA (p:=p) hp λt t1 t2 u hu=>zf9 W (sb.le W (show u<=j by omega) (by omega)) (p2 t t1 t2);refine za0 (λz=>?_) λz=>?_
        ·exact Vi ⟨kp3.trans ⟨rfl,rfl,rfl,rfl⟩,.inl ⟨_,_,rfl,m1.done NA NB (.inl (beq_iff_eq.mp z))⟩⟩
        have z:=beq_eq_false_iff_ne.mp z;have h1':1<=p:=by omega
        have q1:=p1;have pr:p<=i:=hp
      | rw[GT pp]
        have pe:p=i:=by omega
        subst pe;have h1':1<=p:=g1;have m1:=m;have q1:=p1;have pr:p<=p:=Qc _
     all_goals
      have m2:=m1.pb NB q1;refine Vh (zat eb ?_);refine za0 (λz3=>?_) λz3=>?_
      ·exact Vi ⟨kp3.trans ⟨rfl,rfl,rfl,rfl⟩,.inl ⟨_,_,rfl,m2.first NA NB (beq_iff_eq.mp z3) hf⟩⟩
      have z3:=beq_eq_false_iff_ne.mp z3;obtain⟨p,rfl⟩:∃ p',p=p'+1:=⟨p - 1,by omega⟩;simp only[JG];obtain⟨xa,ea,na',rfl⟩:=NA.get (i:=p) (by omega);refine Vh (zat ea ?_);refine Vh (galB W hC (kp3.ki.trans ki) NB sb na' (ib:=0) (n:=j) (by omega) (by omega) λq hq r1 r2=>?_);simp only[Je] at r1 r2;dsimp only
      by_cases qq:j - q > 0 <;> first
       | rw[GQ qq]
         have m3:=m2.bs NB (p:=q) hq λt t1 t2 u hu=>zck W (sa.le W (show u<=p by omega) (by omega)) (r2 t t1 t2);refine za0 (λz4=>?_) λz4=>za0 (λz5=>?_) λz5=>?_
         ·exact Vi ⟨kp3.trans ⟨rfl,rfl,rfl,rfl⟩,.inl ⟨_,_,rfl,m3.first NA NB (beq_iff_eq.mp z4) hf⟩⟩
         ·exact Vi ⟨kp3.trans ⟨rfl,rfl,rfl,rfl⟩,.inl ⟨_,_,rfl,m3.done NA NB (.inr (beq_iff_eq.mp z5))⟩⟩
         have z4:=beq_eq_false_iff_ne.mp z4;have z5:=beq_eq_false_iff_ne.mp z5;have h2':2<=q:=by omega
         have pr2:q<=j:=hq
       | rw[GT qq]
         have qe:q=j:=by omega
         subst qe;have h2':2<=q:=by omega
         have m3:=m2;have pr2:q<=q:=Qc _
      all_goals
       have m4:=m3.pa NA r1;refine Vh (zat ea ?_);refine za0 (λz6=>?_) λz6=>za0 (λ_=>?_) λ_=>?_
       ·exact Vi ⟨kp3.trans ⟨rfl,rfl,rfl,rfl⟩,.inl ⟨_,_,rfl,m4.done NA NB (.inl (beq_iff_eq.mp z6))⟩⟩
       all_goals have z6:=beq_eq_false_iff_ne.mp z6
       ·exact Vi ⟨kp3.trans ⟨rfl,rfl,rfl,rfl⟩,.inr ⟨_,_,_,_,_,_,rfl,m4,by omega,h2',by omega⟩⟩
       ·exact Vi ⟨kp3.trans ⟨rfl,rfl,rfl,rfl⟩,_,_,_,_,_,_,rfl,m4,by omega,h2',by omega⟩
end
section
variable {prog : Vf} {w : Vk} {A : Vl} {E : Vb → Vc → Prop} {s : Vc} {α : Type} {blt : α → α → Bool} {k : Nat → α} {a₀ a b : Array Vu} {kd : VE} {st : Vt} {LA LB N : List Nat}
def SrtW(blt:α->α->Bool)(k:Nat->α)(N:List Nat)(lo n:Nat):Prop:=∀ i j,i<j->j<n->blt (k (N.getD (lo+j) 0)) (k (N.getD (lo+i) 0))=false
theorem z3f{ia jb n hint:Nat}{key:Vu}{Q:Option Nat->Vt->Prop}(W:WO blt)(hC:zbo prog w A s kd a₀ blt k)(ki:kindOf st=kd)(NA:Nmd a₀ a N)(sa:SrtW blt k N ia n)(hj:a₀[jb]? = some key)(hn:ia+n<=N.length)(hh:hint<n)
 (h:∀ p,p<=n->(∀ i,i<p->blt (k jb) (k (N.getD (ia+i) 0))=false)->(∀ i,p<=i->i<n->blt (k jb) (k (N.getD (ia+i) 0))=true)->Q (some p) st):wpS (model prog w) A E s (zeh false key a ia n hint) Q st:=by
 refine zh9 (L:=λi=>N.getD (ia+i) 0) (jk:=jb) hC ki hj (λi hi=>?_) (λi j hij hjn e=>?_) hh λp hp h1 h2=>h p hp (λi hi=>?_) λi hi hi2=>?_
 ·obtain⟨x,e1,e2,_⟩:=NA.get (i:=ia+i) (by omega);exact⟨x,e1,e2⟩
 ·have e:(!blt (k jb) (k (N.getD (ia+j) 0)))=true:=e;show(!blt (k jb) (k (N.getD (ia+i) 0)))=true;rw[Zv] at e ⊢;exact zck W (sa i j hij hjn) e
 ·have e:(!blt (k jb) (k (N.getD (ia+i) 0)))=true:=h1 i hi;rwa [Zv] at e
 ·have e:(!blt (k jb) (k (N.getD (ia+i) 0)))=false:=h2 i hi hi2;rwa [YG] at e
theorem z3l{ib ja n hint:Nat}{key:Vu}{Q:Option Nat->Vt->Prop}(W:WO blt)(hC:zbo prog w A s kd a₀ blt k)(ki:kindOf st=kd)(NB:Nmd a₀ b N)(sb:SrtW blt k N ib n)(hj:a₀[ja]? = some key)(hn:ib+n<=N.length)(hh:hint<n)
 (h:∀ p,p<=n->(∀ i,i<p->blt (k (N.getD (ib+i) 0)) (k ja)=true)->(∀ i,p<=i->i<n->blt (k (N.getD (ib+i) 0)) (k ja)=false)->Q (some p) st):wpS (model prog w) A E s (zeh true key b ib n hint) Q st:=by
 refine zh9 (L:=λi=>N.getD (ib+i) 0) (jk:=ja) hC ki hj (λi hi=>?_) (λi j hij hjn e=>?_) hh λp hp h1 h2=>h p hp (λi hi=>h1 i hi) λi hi hi2=>h2 i hi hi2
 ·obtain⟨x,e1,e2,_⟩:=NB.get (i:=ib+i) (by omega);exact⟨x,e1,e2⟩
 ·exact zf9 W (sb i j hij hjn) e
theorem zby{N:List Nat}{lo n i:Nat}(h:i<n)(hn:lo+n<=N.length):((N.drop lo).take n).getD i 0=N.getD (lo+i) 0:=by
 simp[QX,JH,h,QY]
theorem zcb{N:List Nat}{lo n:Nat}(hn:lo+n<=N.length):((N.drop lo).take n).length=n:=by rw[QJ,Q9];omega
theorem SrtW.seg{lo n:Nat}(h:SrtW blt k N lo n)(hn:lo+n<=N.length):Srt blt k ((N.drop lo).take n):=λi j hij hj=>by
 rw[zcb hn] at hj;rw[zby hj hn,zby (by omega) hn];exact h i j hij hj
theorem SrtW.cut{lo n p m:Nat}(h:SrtW blt k N lo n)(hp:p+m<=n):SrtW blt k N (lo+p) m:=λi j hij hj=>by
 have:=h (p+i) (p+j) (by omega) (by omega);rwa [show lo+(p+j)=lo+p+j by omega,show lo+(p+i)=lo+p+i by omega] at this
theorem SrtW.le(W:WO blt){lo n i j:Nat}(h:SrtW blt k N lo n)(hij:i<=j)(hj:j<n):blt (k (N.getD (lo+j) 0)) (k (N.getD (lo+i) 0))=false:=by
 rcases Zu i j with z|z
 ·exact h i j z hj
 ·have:i=j:=by omega
  subst this;exact W.irr _
theorem zkg{β:Type}:∀ (xs:List β) (s n:Nat) (arr:Array β),s+n+xs.length<=arr.size->((xs.zipIdx n).foldl (λa (p:β × Nat)=>a.setIfInBounds (s+p.2) p.1) arr).toList=arr.toList.take (s+n)++xs++arr.toList.drop (s+n+xs.length)
 | [],s,n,arr,h=>by simp
 | x::xs,s,n,arr,h=>by
   rw[List.zipIdx_cons,Z1];have hl:arr.toList.length=arr.size:=QE;rw[Qf] at h;rw[zkg xs s (n+1) _ (by rw[Array.size_setIfInBounds];omega),JI];dsimp only
   have h1:(arr.toList.set (s+n) x).take (s+(n+1))=arr.toList.take (s+n) ++ [x]:=by
    rw[show s+(n+1)=s+n+1 by omega,jt,QB (by omega)];rw[List.take_set_of_le (Qc _)];rfl
   have h2:(arr.toList.set (s+n) x).drop (s+(n+1)+xs.length)=arr.toList.drop (s+n+(x::xs).length):=by
    rw[Y2 (by omega),Qf,show s+(n+1)+xs.length=s+n+(xs.length+1) by omega]
   rw[h1,h2];simp
theorem Nmd.over{arr m:Array Vu}{M:List Nat}{s:Nat}(h:Nmd a₀ arr N)(h':Nmd a₀ m M)(hs:s+M.length<=N.length):Nmd a₀ (m.toList.zipIdx.foldl (λa (p:Vu × Nat)=>a.setIfInBounds (s+p.2) p.1) arr) (N.take s++M++N.drop (s+M.length)):=by
 have hz:=h.size;have hm:m.toList.length=M.length:=by rw[h'.eq,Qe]
 refine⟨?_,λx hx=>?_⟩
 ·have:=zkg m.toList s 0 arr (by omega);rw[YR,hm] at this;rw[this,h.eq,h'.eq,Qy,Qy,JP,JQ]
 ·rcases Qv.mp hx with hx|hx
  ·rcases Qv.mp hx with hx|hx
   ·exact h.lt x (ZA hx)
   ·exact h'.lt x hx
  ·exact h.lt x (Z9 hx)
end
theorem zy0{σ:Type}{M:Gy}{A:Vl}{E:Vb->Vc->Prop}{s:Vc}{Q:PUnit->σ->Prop}{st st2:σ}(h:Q ⟨⟩ st2):wpS M A E s (set st2:StateT σ Sem PUnit) Q st:=by
 unfold wpS;rw[StateT.run_set];exact Vd ⟨rfl,h⟩
theorem zj3(N:List Nat)(lo n m:Nat):N=N.take lo++((N.drop lo).take n++(N.drop (lo+n)).take m)++N.drop (lo+n+m):=by
 conv=>lhs;rw[<- Zm lo N,<- Zm n (N.drop lo),ZR,<- Zm m (N.drop (lo+n)),ZR]
 simp only[Q3]
theorem zuc{N:List Nat}{lo n:Nat}(h:0<n)(hn:lo+n<=N.length):∃ r,(N.drop lo).take n=N.getD lo 0::r:=by
 rw[zd0 (by omega)];obtain⟨m,rfl⟩:∃ m,n=m+1:=⟨n - 1,by omega⟩;exact⟨_,Y6⟩
theorem ze4{N:List Nat}{lo n x:Nat}(h:x ∈ (N.drop lo).take n):∃ j,j<n/\lo+j<N.length/\x=N.getD (lo+j) 0:=zcp h
theorem zjl(N:List Nat)(lo n p:Nat)(h:p<=n):(N.drop lo).take n=(N.drop lo).take p++(N.drop (lo+p)).take (n - p):=by
 rw[<- ZR,<- YA,show p+(n - p)=n by omega]
section
variable {prog : Vf} {w : Vk} {A : Vl} {E : Vb → Vc → Prop} {s : Vc} {α : Type} {blt : α → α → Bool} {k : Nat → α} {a₀ a b : Array Vu} {kd : VE} {st : Vt} {N : List Nat}
theorem z3k{i sa na pw nb pw2:Nat}{Q:Bool->Vt->Prop}(W:WO blt)(hC:zbo prog w A s kd a₀ blt k)(ki:kindOf st=kd)(fa:VF st=none)(NA:Nmd a₀ (arrOf st) N)(p1:(pendingOf st)[i]? = some (sa,na,pw))(p2:(pendingOf st)[i+1]? = some (sa+na,nb,pw2))
 (h1:0<na) (h2:0<nb) (hN:sa+na+nb<=N.length) (w1:SrtW blt k N sa na) (w2:SrtW blt k N (sa+na) nb)
 (h:∀ st',kindOf st'=kd->VF st'=none->Nmd a₀ (arrOf st') (N.take sa++mg blt k ((N.drop sa).take na) ((N.drop (sa+na)).take nb)++N.drop (sa+na+nb))->pendingOf st'=((pendingOf st).setIfInBounds i (sa,na+nb,pw)).eraseIdxIfInBounds (i+1)->Q true st'):wpS (model prog w) A E s (mergeAt' i) Q st:=by
 have zN:=NA.size;unfold mergeAt';refine Vh (Ub ?_);change wpS (model prog w) A E s (match ((pendingOf st)[i]?,(pendingOf st)[i+1]?) with|(some (sa,na,power),some (sb,nb,snd))=>_|x=>_) Q st;rw[p1,p2];dsimp only;refine Vh (zy0 ?_);obtain⟨xb,eb,gb,rfl⟩:=NA.get (i:=sa+na) (by omega);refine Vh (zat eb ?_);refine Vh (z3f W hC ki NA w1 gb (by omega) h1 λp hp q1 q2=>?_);dsimp only;obtain⟨rB,eB⟩:=zuc (N:=N) (lo:=sa+na) h2 (by omega)
 have hX:mg blt k ((N.drop sa).take na) ((N.drop (sa+na)).take nb)=(N.drop sa).take p++mg blt k ((N.drop (sa+p)).take (na - p)) ((N.drop (sa+na)).take nb):=by
  rw[zjl N sa na p hp,eB,zku];intro x hx;obtain⟨j,j1,_,rfl⟩:=ze4 hx;exact q1 j j1
 refine za0 (λz=>?_) λz=>?_
 ·have z:=beq_iff_eq.mp z;refine Vi (h _ ki fa ?_ rfl);rw[hX,z,ZS,za7,show p=na by omega,<- zj3];exact NA
 have z:=beq_eq_false_iff_ne.mp z;obtain⟨xa,ea,ga,rfl⟩:=NA.get (i:=sa+p+(na - p) - 1) (by omega);refine Vh (zat ea ?_);refine Vh (z3l W hC ki NA w2 ga (by omega) (by omega) λq hq r1 r2=>?_);dsimp only;rw[show sa+p+(na - p) - 1=sa+(na - 1) by omega] at r1 r2
 have hZ:mg blt k ((N.drop (sa+p)).take (na - p)) ((N.drop (sa+na)).take nb)=mg blt k ((N.drop (sa+p)).take (na - p)) ((N.drop (sa+na)).take q)++(N.drop (sa+na+q)).take (nb - q):=by
  rw[zjl N (sa+na) nb q hq,zjk];intro z hz x hx;obtain⟨j,j1,_,rfl⟩:=ze4 hz;obtain⟨i',i1,_,rfl⟩:=ze4 hx;have e1:=w1.le W (show p+i'<=na - 1 by omega) (by omega);rw[show sa+(p+i')=sa+p+i' by omega] at e1;have e2:=r2 (q+j) (by omega) (by omega);rw[show sa+na+(q+j)=sa+na+q+j by omega] at e2;exact zck W e1 e2
 refine za0 (λz=>?_) λz'=>?_
 ·have z:=beq_iff_eq.mp z;refine Vi (h _ ki fa ?_ rfl);rw[hX,hZ,z,ZS,za5];have:=zj3 N sa na nb;rw[zjl N sa na p hp,Q3] at this;simp only[YR,Yh,Q3] at this ⊢;rw[<- this];exact NA
 have z':=beq_eq_false_iff_ne.mp z'
 have A1:Nmd a₀ ((arrOf st).extract (sa+p) (sa+na)) ((N.drop (sa+p)).take (na - p)):=by
  have:=NA.cut (sa+p) (sa+na);rwa [show sa+na - (sa+p)=na - p by omega] at this
 have B1:Nmd a₀ ((arrOf st).extract (sa+na) (sa+na+q)) ((N.drop (sa+na)).take q):=by
  have:=NA.cut (sa+na) (sa+na+q);rwa [show sa+na+q - (sa+na)=q by omega] at this
 have sA:Srt blt k ((N.drop (sa+p)).take (na - p)):=(w1.cut (p:=p) (m:=na - p) (by omega)).seg (by omega)
 have sB:Srt blt k ((N.drop (sa+na)).take q):=by
  have:=w2.cut (p:=0) (m:=q) (by omega);rw[YR] at this;exact this.seg (by omega)
 have lA:((N.drop (sa+p)).take (na - p)).length=na - p:=zcb (by omega);have lB:((N.drop (sa+na)).take q).length=q:=zcb (by omega)
 have hf:blt (k (((N.drop (sa+na)).take q).getD 0 0)) (k (((N.drop (sa+p)).take (na - p)).getD 0 0))=true:=by
  rw[zby (by omega) (by omega),zby (by omega) (by omega)];exact q2 p (Qc _) (by omega)
 have hl:∀ i,i<((N.drop (sa+na)).take q).length->blt (k (((N.drop (sa+na)).take q).getD i 0)) (k (((N.drop (sa+p)).take (na - p)).getD (((N.drop (sa+p)).take (na - p)).length - 1) 0))=true:=λi hi=>by
  rw[lB] at hi;rw[lA,zby hi (by omega),zby (by omega) (by omega),show sa+p+(na - p - 1)=sa+(na - 1) by omega];exact r1 i hi
 have fin:∀ r st',Mrg blt k a₀ ((N.drop (sa+p)).take (na - p)) ((N.drop (sa+na)).take q) r->arrOf st'=arrOf st->Nmd a₀ (r.toList.zipIdx.foldl (λa (p':Vu × Nat)=>a.setIfInBounds (sa+p+p'.2) p'.1) (arrOf st')) (N.take sa++mg blt k ((N.drop sa).take na) ((N.drop (sa+na)).take nb)++N.drop (sa+na+nb)):=λr st' mr e=>by
  have ml:(mg blt k ((N.drop (sa+p)).take (na - p)) ((N.drop (sa+na)).take q)).length=na - p+q:=by rw[zrf,lA,lB]
  have:=(show Nmd a₀ (arrOf st') N by rw[e];exact NA).over (s:=sa+p) mr (by rw[ml];omega);rw[ml] at this;have e1:N.take (sa+p)=N.take sa++(N.drop sa).take p:=YA
  have e2:N.drop (sa+p+(na - p+q))=(N.drop (sa+na+q)).take (nb - q)++N.drop (sa+na+nb):=by
   rw[show sa+p+(na - p+q)=sa+na+q by omega]
   conv=>lhs;rw[<- Zm (nb - q) (N.drop (sa+na+q)),ZR,show sa+na+q+(nb - q)=sa+na+nb by omega]
  rw[e1,e2] at this;rw[hX,hZ];simp only[Q3] at this ⊢;exact this
 by_cases c:na - p<=q
 ·rw[GQ c];refine Vh (z3b W hC ki A1 B1 sA sB (by omega) (by omega) hf (λy hy=>?_) λr st' mr kp=>?_)
  ·obtain⟨j,j1,j2,rfl⟩:=zcp (L:=(N.drop (sa+na)).take q) (i:=0) (p:=q) (by rw[ZZ,ZD (by omega)];exact hy);rw[Je] at j2 ⊢;exact hl j j2
  ·refine Vh (VM (Vh (Ub ?_)));have f':VF st'=none:=kp.fa.trans fa;refine Vi ?_;change Q (VF st').isNone _;rw[f'];exact h _ (kp.ki.trans ki) f' (fin r st' mr kp.ar) kp.pe
 ·rw[GT c];refine Vh (z2y W hC ki A1 B1 sA sB (by omega) (by omega) hf hl λr st' mr kp=>?_);refine Vh (VM (Vh (Ub ?_)));have f':VF st'=none:=kp.fa.trans fa;refine Vi ?_;change Q (VF st').isNone _;rw[f'];exact h _ (kp.ki.trans ki) f' (fin r st' mr kp.ar) kp.pe
end
section
variable {prog : Vf} {w : Vk} {A : Vl} {E : Vb → Vc → Prop} {s : Vc} {α : Type} {blt : α → α → Bool} {k : Nat → α} {a₀ : Array Vu} {kd : VE} {ix : Nat → Nat} {st : Vt} {lo : Nat} {N : List Nat} {pd : Array (Nat × Nat × Nat)}
structure So (a₀:Array Vu) (kd:VE) (pd:Array (Nat × Nat × Nat)) (lo:Nat) (N:List Nat) (ix:Nat->Nat) (st:Vt):Prop where
 sz:(arrOf st).size=a₀.size
 be:∀ p,p<lo->(arrOf st)[p]? = a₀[N.getD p 0]?
 at_:∀ i,lo+i<a₀.size->(arrOf st)[lo+i]? = a₀[lo+ix i]?
 bj:Bij ix (a₀.size - lo)
 fa:VF st=none
 pe:pendingOf st=pd
 ki:kindOf st=kd
theorem lt_o{i j:Nat}{Q:Option Bool->Vt->Prop}(hC:zbo prog w A s kd a₀ blt k)(b:So a₀ kd pd lo N ix st)(hi:lo+i<a₀.size)(hj:lo+j<a₀.size)(h:Q (some (blt (k (lo+ix i)) (k (lo+ix j)))) st):wpS (model prog w) A E s (ltAt' (lo+i) (lo+j)) Q st:=by
 have li:=b.bj.lt i (by omega);have lj:=b.bj.lt j (by omega);obtain⟨⟨x,p⟩,gi⟩:∃ z,a₀[lo+ix i]? = some z:=⟨_,Q1 (by omega)⟩;obtain⟨⟨y,q⟩,gj⟩:∃ z,a₀[lo+ix j]? = some z:=⟨_,Q1 (by omega)⟩;rw[ltAt'_eq];refine Vh (Ub ?_);change wpS (model prog w) A E s (elem' (arrOf st) (lo+i) >>= λx=>elem' (arrOf st) (lo+j) >>= λy=>lt' x y) Q st;rw[elem'_eq,elem'_eq,b.at_ i hi,b.at_ j hj,gi,gj];refine Vh (Vi (Vh (Vi ?_)));rw[lt'_eq];refine Vh (Ub ?_);rw[b.ki];refine Vh (UC (VD (hC _ _ _ _ _ _ _ _ gi gj ⟨rfl,?_⟩)));exact Vi h
theorem So.mix{i j:Nat}(b:So a₀ kd pd lo N ix st)(hj:lo+j<=a₀.size):So a₀ kd pd lo N (mixF ix i j) (setArr st (mirror (arrOf st) (lo+i) (lo+j) ((lo+j - (lo+i)) / 2))):=by
 refine⟨(mirror_size _ _ _ _).trans b.sz,λp hp=>?_,λp hp=>?_,b.bj.mix (by omega),b.fa,b.pe,b.ki⟩
 ·show(mirror (arrOf st) (lo+i) (lo+j) ((lo+j - (lo+i)) / 2))[p]? = _;rw[getElem?_mirror_all (by rw[b.sz];exact hj),GT (by omega)];exact b.be p hp
 ·show(mirror (arrOf st) (lo+i) (lo+j) ((lo+j - (lo+i)) / 2))[lo+p]? = _;rw[getElem?_mirror_all (by rw[b.sz];exact hj)];unfold mixF
  by_cases z:i<=p/\p<j
  ·rw[GQ (by omega),GQ z,show lo+i+(lo+j) - 1 - (lo+p)=lo+(i+j - 1 - p) by omega];exact b.at_ _ (by omega)
  ·rw[GT (by omega),GT z];exact b.at_ _ hp
theorem So.bub{q l:Nat}(b:So a₀ kd pd lo N ix st)(hq:lo+q<a₀.size)(hl:l<=q):So a₀ kd pd lo N (bubF ix q l) (setArr st (bubble (arrOf st) (lo+q) (lo+q - (lo+l)))):=by
 refine⟨(bubble_size _ _ _).trans b.sz,λp hp=>?_,λp hp=>?_,b.bj.bub (by omega) hl,b.fa,b.pe,b.ki⟩
 ·show(bubble (arrOf st) (lo+q) (lo+q - (lo+l)))[p]? = _;rw[getElem?_bubble (by rw[b.sz];exact hq) _ (by omega),GT (by omega),GT (by omega)];exact b.be p hp
 ·show(bubble (arrOf st) (lo+q) (lo+q - (lo+l)))[lo+p]? = _;rw[getElem?_bubble (by rw[b.sz];exact hq) _ (by omega)];unfold bubF
  by_cases z:p=l
  ·rw[GQ (by omega),GQ z];exact b.at_ _ hq
  ·rw[GT (by omega),GT z]
   by_cases y:l<p/\p<=q
   ·rw[GQ (by omega),GQ y,show lo+p - 1=lo+(p - 1) by omega];exact b.at_ _ (by omega)
   ·rw[GT (by omega),GT y];exact b.at_ _ hp
theorem z3m{n ok:Nat}{Q:Bool->Vt->Prop}(W:WO blt)(hC:zbo prog w A s kd a₀ blt k)(hn:lo+n<=a₀.size)(hok:ok<=n)(h1:1<=ok)(b:So a₀ kd pd lo N ix st)(up:Up blt (λi=>k (lo+i)) ix ok)(pr:Pre ix ok)
 (h:∀ ix' st',So a₀ kd pd lo N ix' st'->Up blt (λi=>k (lo+i)) ix' n->Pre ix' n->Q true st'):wpS (model prog w) A E s (binarySort' lo n ok) Q st:=by
 rw[binarySort'_eq];rw[show max ok 1=ok by omega];refine Vh (VC (Vq (I:=λq c st'=>c=(none,())/\∃ ix',So a₀ kd pd lo N ix' st'/\Up blt (λi=>k (lo+i)) ix' q/\Pre ix' q) (Q:=λc st'=>c=(none,())/\∃ ix',So a₀ kd pd lo N ix' st'/\Up blt (λi=>k (lo+i)) ix' n/\Pre ix' n) ?turn ?out ⟨rfl,ix,b,up,pr⟩) ?rest)
 case rest =>
  rintro c st' ⟨rfl,ix',b',u',p'⟩;exact Vi (h ix' st' b' u' p')
 case out =>
  rintro c st' ⟨hc,ix',b',u',p'⟩;rw[show max ok n=n by omega] at u' p';exact⟨hc,ix',b',u',p'⟩
 case turn =>
  rintro q c st' hq1 hq2 ⟨rfl,ix',b',u',p'⟩;have hq:lo+q<a₀.size:=by omega
  have eq:=p'.id q (Qc _)
  refine Vh (VC (Vq (I:=λx c st2=>st2=st'/\∃ l r,c=(none,l,r)/\l<=r/\r<=q/\r - l<=q - x/\(∀ i,i<l->blt (k (lo+q)) (k (lo+ix' i))=false)/\∀ i,r<=i->i<q->blt (k (lo+q)) (k (lo+ix' i))=true)
   (Q:=λc st2=>st2=st'/\∃ l r,c=(none,l,r)/\l<=q/\(∀ i,i<l->blt (k (lo+q)) (k (lo+ix' i))=false)/\∀ i,l<=i->i<q->blt (k (lo+q)) (k (lo+ix' i))=true) ?tu ?ou ?bg) ?re)
  case bg=>exact⟨rfl,0,q,rfl,by omega,Qc _,by omega,λi z=>absurd z (by omega),λi z z'=>absurd z (by omega)⟩
  case ou =>
   rintro c st2 ⟨rfl,l,r,rfl,z1,z2,z3,z4,z5⟩;have:l=r:=by omega
   subst this;exact⟨rfl,l,l,rfl,z2,z4,z5⟩
  case tu =>
   rintro x c st2 _ hx ⟨rfl,l,r,rfl,z1,z2,z3,z4,z5⟩;dsimp only
   by_cases ge:l ≥ r
   ·rw[GQ ge];have:l=r:=by omega
    subst this;exact Vi ⟨rfl,l,l,rfl,z2,z4,z5⟩
   ·rw[GT ge];refine Vh (lt_o hC b' hq (j:=(l+r) / 2) (by omega) ?_);rw[eq]
    cases le:blt (k (lo+q)) (k (lo+ix' ((l+r) / 2))) with
    | true =>
      simp only[Ta];refine Vi ⟨rfl,l,(l+r) / 2,rfl,by omega,by omega,by omega,z4,λi y1 y2=>?_⟩
      by_cases e:i=(l+r) / 2
      ·subst e;exact le
      ·exact zeu W le ((u' _ _ (show(l+r) / 2<i by omega) y2).le W)
    | false =>
      simp only[Q8,GX];refine Vi ⟨rfl,(l+r) / 2+1,r,rfl,by omega,by omega,by omega,λi y1=>?_,z5⟩
      by_cases e:i=(l+r) / 2
      ·subst e;exact le
      ·exact zck W ((u' i _ (show i<(l+r) / 2 by omega) (by omega)).le W) le
  case re =>
   rintro c st2 ⟨rfl,l,r,rfl,z2,z4,z5⟩;change wpS (model prog w) A E s (moveDown' (lo+q) (lo+l) >>= λ_=>pure (Jl (none,()))) _ st2;rw[moveDown'_eq];exact Vh (VM (Vi ⟨rfl,bubF ix' q l,b'.bub hq z2,z1j (k:=λi=>k (lo+i)) u' p' z2 z4 z5,p'.bub z2⟩))
end
section
variable {prog : Vf} {w : Vk} {A : Vl} {E : Vb → Vc → Prop} {s : Vc} {α : Type} {blt : α → α → Bool} {k : Nat → α} {a₀ : Array Vu} {kd : VE} {ix : Nat → Nat} {st : Vt} {lo : Nat} {N : List Nat} {pd : Array (Nat × Nat × Nat)}
theorem z2e{n:Nat}{Q:Option Nat->Vt->Prop}(W:WO blt)(hC:zbo prog w A s kd a₀ blt k)(hn:lo+n<=a₀.size)(h1:1<=n)(b:So a₀ kd pd lo N (λi=>i) st)
 (h:∀ m' ix' st',So a₀ kd pd lo N ix' st'->1<=m'->m'<=n->Up blt (λi=>k (lo+i)) ix' m'->Pre ix' m'->Q (some m') st'):wpS (model prog w) A E s (countRun' lo n) Q st:=by
 have one:∀ m,1<=m->lo+m - 1=lo+(m - 1):=λm hm=>by omega
 rw[countRun'_eq];refine Vh (VC (Vq (I:=λx c st'=>st'=st/\c=(none,x)/\Up blt (λi=>k (lo+i)) (λi=>i) x) (Q:=λc st'=>st'=st/\∃ m,c=(none,m)/\1<=m/\m<=n/\Up blt (λi=>k (lo+i)) (λi=>i) m/\(m=n\/blt (k (lo+m)) (k (lo+(m - 1)))=true)) ?t1 ?o1 ⟨rfl,rfl,λi j z z'=>absurd z (by omega)⟩) ?r1)
 case o1 =>
  rintro c st' ⟨rfl,rfl,u⟩;rw[show max 1 n=n by omega] at u ⊢;exact⟨rfl,n,rfl,h1,Qc _,u,.inl rfl⟩
 case t1 =>
  rintro x c st' x1 x2 ⟨rfl,rfl,u⟩;dsimp only;rw[one x x1];refine Vh (lt_o hC b (by omega) (by omega) ?_)
  cases le:blt (k (lo+x)) (k (lo+(x - 1))) with
  | true =>
    simp only[Ta];exact Vi ⟨rfl,x,rfl,x1,by omega,u,.inr le⟩
  | false =>
    simp only[Q8,GX];exact Vi ⟨rfl,rfl,zr2 W u (by omega) (.inr ⟨le,by omega⟩)⟩
 case r1 =>
  rintro c st' ⟨rfl,m,rfl,z1,z2,u,o⟩;dsimp only
  by_cases e:m=n
  ·rw[GQ (by simpa using e)];exact Vi (h m _ _ b z1 z2 u Pre.idf)
  rw[GT (by simpa using e)];have lt:=o.resolve_left e
  by_cases g:m > 1 <;> first
   | rw[GQ g,one m z1]
     refine Vh ?_;rw[show ltAt' lo (lo+(m - 1))=ltAt' (lo+0) (lo+(m - 1)) from rfl];refine lt_o hC b (i:=0) (j:=m - 1) (by omega) (by omega) ?_;dsimp only;refine za0 (λro=>Vi (h m _ _ b z1 z2 u Pre.idf)) λro=>?_;refine Vh (Gv ?_);have b1:So a₀ kd pd lo N (mixF (λi=>i) 0 m) (setArr st' (mirror (arrOf st') lo (lo+m) ((lo+m - lo) / 2))):=b.mix (i:=0) (j:=m) (by omega);have pr1:Pre (mixF (λi=>i) 0 m) (m+1):=(Pre.idf.mix (Qc m)).more (by omega)
     have d1:Des blt (λi=>k (lo+i)) (mixF (λi=>i) 0 m) (m+1) 0:=by
      have al:∀ i j,i<j->j<m->blt (k (lo+j)) (k (lo+i))=false/\blt (k (lo+i)) (k (lo+j))=false:=λi j y1 y2=>by
       refine⟨(u i j y1 y2).le W,?_⟩
       have a1:blt (k (lo+i)) (k (lo+0))=false:=by
        by_cases q:i=0
        ·subst q;exact W.irr _
        ·exact(u 0 i (by omega) (by omega)).le W
       have a2:blt (k (lo+(m - 1))) (k (lo+j))=false:=by
        by_cases q:j=m - 1
        ·subst q;exact W.irr _
        ·exact(u j (m - 1) (by omega) (by omega)).le W
       exact zck W (zck W a2 ro) a1
      refine zgg W (λi j y1 y2=>?_) (by omega) ?_
      ·have e1:mixF (λi=>i) 0 m i=m - 1 - i:=by unfold mixF;rw[GQ (by omega)];show 0+m - 1 - i=m - 1 - i;omega
       have e2:mixF (λi=>i) 0 m j=m - 1 - j:=by unfold mixF;rw[GQ (by omega)];show 0+m - 1 - j=m - 1 - j;omega
       rw[e1,e2];exact .inr ⟨(al _ _ (by omega) (by omega)).1,by omega⟩
      ·have e1:mixF (λi=>i) 0 m m=m:=by unfold mixF;rw[GT (by omega)]
       have e2:mixF (λi=>i) 0 m (m - 1)=0:=by unfold mixF;rw[GQ (by omega)];show 0+m - 1 - (m - 1)=0;omega
       rw[e1,e2];exact zeu W lt ro
   | rw[GT g]
     have me:m=1:=by omega
     have b1:=b;have pr1:Pre (λi=>i) (m+1):=Pre.idf
     have d1:Des blt (λi=>k (lo+i)) (λi=>i) (m+1) 0:=by
      subst me;exact zgg W (λi j y1 y2=>absurd y1 (by omega)) (by omega) lt
  all_goals
   refine Vh (UC (V1 ⟨rfl,?_⟩))
   refine Vh (VC (Vq (I:=λx c st'=>∃ q ix',c=(none,x,q)/\So a₀ kd pd lo N ix' st'/\Des blt (λi=>k (lo+i)) ix' x q/\Pre ix' x)
    (Q:=λc st'=>∃ m' q ix',c=(none,m',q)/\So a₀ kd pd lo N ix' st'/\m+1<=m'/\m'<=n/\Des blt (λi=>k (lo+i)) ix' m' q/\Pre ix' m') ?t2 ?o2 ⟨0,_,rfl,b1,d1,pr1⟩) ?r2)
   case o2 =>
    rintro c st' ⟨q,ix',rfl,b',d',p'⟩;rw[show max (m+1) n=n by omega] at d' p' ⊢;exact⟨n,q,ix',rfl,b',by omega,Qc _,d',p'⟩
   case t2 =>
    rintro x c st' x1 x2 ⟨q,ix',rfl,b',d',p'⟩;dsimp only;have hq:=d'.le;rw[one x (by omega)];refine Vh (lt_o hC b' (by omega) (by omega) ?_)
    cases le:blt (k (lo+ix' x)) (k (lo+ix' (x - 1))) with
    | true =>
      simp only[Ta]
      by_cases z:q > 0
      ·rw[GQ z,show lo+x - (q+1)=lo+(x - (q+1)) by omega];refine Vh (Gv (Vi ⟨0,_,rfl,b'.mix (by omega),?_,(p'.mix (Qc _)).more (by omega)⟩));refine zgg W d'.turn (by omega) ?_;have e1:mixF ix' (x - (q+1)) x x=ix' x:=by unfold mixF;rw[GT (by omega)]
       have e2:mixF ix' (x - (q+1)) x (x - 1)=ix' (x - (q+1)):=by unfold mixF;rw[GQ (by omega)];congr 1;omega
       rw[e1,e2];have:=d'.al (x - (q+1)) (x - 1) (by omega) (by omega) (by omega);exact zeu W le this.1
      ·rw[GT z];have:q=0:=by omega
       subst this;exact Vi ⟨0,ix',rfl,b',zgg W d'.dn (by omega) le,p'.more (by omega)⟩
    | false =>
      simp only[Q8,GX];refine Vh (lt_o hC b' (by omega) (by omega) ?_)
      cases gr:blt (k (lo+ix' (x - 1))) (k (lo+ix' x)) with
      | true =>
        simp only[Ta];exact Vi ⟨x,q,ix',rfl,b',x1,by omega,d',p'⟩
      | false =>
        simp only[Q8,GX];exact Vi ⟨q+1,ix',rfl,b',z1y W d' p' le gr,p'.more (by omega)⟩
   case r2 =>
    rintro c st2 ⟨m',q,ix',rfl,b',y1,y2,d',p'⟩;dsimp only;have hq:=d'.le
    by_cases z:q > 0 <;> first
     | rw[GQ z,show lo+m' - (q+1)=lo+(m' - (q+1)) by omega]
       refine Vh (Gv ?_);have b2:=b'.mix (i:=m' - (q+1)) (j:=m') (by omega);have d2:=d'.turn;have p2:=p'.mix (i:=m' - (q+1)) (Qc m')
     | rw[GT z]
       have qe:q=0:=by omega
       subst qe;have b2:=b';have d2:=d'.dn;have p2:=p'
    all_goals
     refine Vh (Gv ?_);have b3:=b2.mix (i:=0) (j:=m') (by omega);have u3:=z0w d2;have p3:=p2.mix (i:=0) (Qc m');refine Vh (VC (Vq (I:=λx c st'=>∃ ix3,So a₀ kd pd lo N ix3 st'/\c=(none,x)/\Up blt (λi=>k (lo+i)) ix3 x/\Pre ix3 x) (Q:=λc st'=>∃ ix3 m3,So a₀ kd pd lo N ix3 st'/\c=(none,m3)/\1<=m3/\m3<=n/\Up blt (λi=>k (lo+i)) ix3 m3/\Pre ix3 m3) ?t3 ?o3 ⟨_,b3,rfl,u3,p3⟩) ?r3)
     case o3 =>
      rintro c st' ⟨ix3,b4,rfl,u,p4⟩;rw[show max m' n=n by omega] at u p4 ⊢;exact⟨ix3,n,b4,rfl,h1,Qc _,u,p4⟩
     case r3 =>
      rintro c st' ⟨ix3,m3,b4,rfl,w1,w2,u,p4⟩;exact Vi (h m3 ix3 st' b4 w1 w2 u p4)
     case t3 =>
      rintro x c st' x1 x2 ⟨ix3,b4,rfl,u,p4⟩;dsimp only;rw[one x (by omega)];refine Vh (lt_o hC b4 (by omega) (by omega) ?_)
      cases le:blt (k (lo+ix3 x)) (k (lo+ix3 (x - 1))) with
      | true =>
        simp only[Ta];exact Vi ⟨ix3,x,b4,rfl,by omega,by omega,u,p4⟩
      | false =>
        simp only[Q8,GX];refine Vi ⟨ix3,b4,rfl,zr2 W u (by omega) (.inr ⟨le,?_⟩),p4.more (by omega)⟩;rw[p4.id x (Qc _)];exact p4.lt _ (by omega)
end
section
variable {α : Type} {blt : α → α → Bool} {k : Nat → α} {N N' : List Nat}
def SegOk(blt:α->α->Bool)(k:Nat->α)(N:List Nat)(s n:Nat):Prop:=((N.drop s).take n).Pairwise (Rk blt k)/\∀ x ∈ (N.drop s).take n,s<=x/\x<s+n
def Segs(blt:α->α->Bool)(k:Nat->α)(N:List Nat):List (Nat × Nat × Nat)->Nat->Nat->Prop
 | [],s,e=>s=e
 | (a,n,_)::r,s,e=>a=s/\0<n/\SegOk blt k N s n/\Segs blt k N r (s+n) e
theorem zgb:∀ {l:List (Nat × Nat × Nat)} {s e:Nat},Segs blt k N l s e->s+l.length<=e
 | [],s,e,h=>by have h:s=e:=h;simp[h]
 | (a,n,p)::r,s,e,h=>by
   have:=zgb h.2.2.2;have:=h.2.1;rw[Qf];omega
theorem segs_app:∀ {l r:List (Nat × Nat × Nat)} {s e:Nat},Segs blt k N (l++r) s e↔∃ m,Segs blt k N l s m/\Segs blt k N r m e
 | [],r,s,e=>⟨λh=>⟨s,rfl,h⟩,λ⟨m,h1,h2⟩=>by have h1:s=m:=h1;rw[h1];exact h2⟩
 | (a,n,p)::l,r,s,e=>by
   constructor
   ·rintro⟨h1,h2,h3,h4⟩;obtain⟨m,h5,h6⟩:=segs_app.mp h4;exact⟨m,⟨h1,h2,h3,h5⟩,h6⟩
   ·rintro⟨m,⟨h1,h2,h3,h5⟩,h6⟩;exact⟨h1,h2,h3,segs_app.mpr ⟨m,h5,h6⟩⟩
theorem znx{s n:Nat}(hl:N'.length=N.length)(h:∀ p,s<=p->p<s+n->N'.getD p 0=N.getD p 0):(N'.drop s).take n=(N.drop s).take n:=by
 refine JY (by simp[hl]) λi h1 h2=>?_;rw[QJ,Q9] at h1 h2;have:=h (s+i) (by omega) (by omega);simp only[QX,Qa (show s+i<N'.length by omega),Qa (show s+i<N.length by omega),YY] at this;simpa using this
theorem zdb(hl:N'.length=N.length):∀ {l:List (Nat × Nat × Nat)} {s e:Nat},Segs blt k N l s e->(∀ p,s<=p->p<e->N'.getD p 0=N.getD p 0)->Segs blt k N' l s e
 | [],s,e,h,_=>h
 | (a,n,p)::r,s,e,h,g=>by
   have le:=zgb h.2.2.2;refine⟨h.1,h.2.1,?_,zdb hl h.2.2.2 λq q1 q2=>g q (by omega) q2⟩;unfold SegOk;rw[znx hl λq q1 q2=>g q q1 (by omega)];exact h.2.2.1
theorem zlr{f:Nat × Nat × Nat->Nat × Nat × Nat}(hf:∀ a b c,(f (a,b,c)).1=a/\(f (a,b,c)).2.1=b):∀ {l:List (Nat × Nat × Nat)} {i s e:Nat},Segs blt k N l s e->Segs blt k N (l.modify i f) s e
 | [],i,s,e,h=>by simpa using h
 | (a,n,p)::r,0,s,e,h=>by
   rw[List.modify_zero_cons];obtain⟨z1,z2⟩:=hf a n p;have:f (a,n,p)=(a,n,(f (a,n,p)).2.2):=YK z1 (YK z2 rfl);rw[this];exact h
 | (a,n,p)::r,i+1,s,e,h=>by
   rw[List.modify_succ_cons];exact⟨h.1,h.2.1,h.2.2.1,zlr hf h.2.2.2⟩
theorem SegOk.srt(W:WO blt){s n:Nat}(h:SegOk blt k N s n)(hn:s+n<=N.length):SrtW blt k N s n:=λi j hij hj=>by
 have:=QR.mp h.1 i j (by rw[zcb hn];omega) (by rw[zcb hn];exact hj) hij
 have e:∀ t,t<n->∀ ht,((N.drop s).take n)[t]'ht=N.getD (s+t) 0:=λt ht hh=>by
  rw[<- zby ht hn];unfold QX;rw[Qa hh];rfl
 rw[e i (by omega),e j hj] at this;exact this.le W
theorem SegOk.merge(W:WO blt){s n m:Nat}(h1:SegOk blt k N s n)(h2:SegOk blt k N (s+n) m)(hN:s+n+m<=N.length)(N':List Nat)(e:N'=N.take s++mg blt k ((N.drop s).take n) ((N.drop (s+n)).take m)++N.drop (s+n+m)) :
 N'.length=N.length/\SegOk blt k N' s (n+m)/\(∀ p,p<s->N'.getD p 0=N.getD p 0)/\∀ p,s+n+m<=p->N'.getD p 0=N.getD p 0:=by
 have lm:(mg blt k ((N.drop s).take n) ((N.drop (s+n)).take m)).length=n+m:=by rw[zrf,zcb (by omega),zcb (by omega)]
 have lt:(N.take s).length=s:=by rw[QJ];omega
 have lN:N'.length=N.length:=by rw[e,Qj,Qj,lm,lt,Q9];omega
 have seg:(N'.drop s).take (n+m)=mg blt k ((N.drop s).take n) ((N.drop (s+n)).take m):=by
  rw[e,Q3]
  have:(N.take s++(mg blt k ((N.drop s).take n) ((N.drop (s+n)).take m)++N.drop (s+n+m))).drop s=mg blt k ((N.drop s).take n) ((N.drop (s+n)).take m)++N.drop (s+n+m):=by
   conv=>lhs;arg 1;rw[<- lt]
   exact List.drop_left
  rw[this,<- lm,List.take_left]
 refine⟨lN,⟨?_,λx hx=>?_⟩,λp hp=>?_,λp hp=>?_⟩
 ·rw[seg];exact zs5 W h1.1 h2.1 λx hx y hy=>by have:=h1.2 x hx;have:=h2.2 y hy;omega
 ·rw[seg] at hx;rcases mg_mem.mp hx with z|z
  ·have:=h1.2 x z;omega
  ·have:=h2.2 x z;omega
 ·rw[e,Q3];simp only[QX];rw[Qz (by omega),JH,GQ hp]
 ·rw[e];simp only[QX];rw[Q4 (by rw[Qj,lm,lt];omega),Qj,lm,lt,QY,show s+n+m+(p - (s+(n+m)))=p by omega]
end
theorem zrs:∀ {zs ys:List Nat},zs.Nodup->(∀ z ∈ zs,z ∈ ys)->zs.length<=ys.length
 | [],ys,_,_=>Qw _
 | z::zs,ys,nd,h=>by
   have n:=Zi.mp nd;have hz:=h z (by simp);have:=zrs (zs:=zs) (ys:=ys.erase z) n.2 λx hx=>(Yx (show x ≠ z from λe=>n.1 (by rw[<- e];exact hx))).mpr (h x (by simp[hx]));rw[JT hz] at this;have:=Yk hz;rw[Qf];omega
section
variable {prog : Vf} {w : Vk} {A : Vl} {E : Vb → Vc → Prop} {s : Vc} {α : Type} {blt : α → α → Bool} {k : Nat → α} {a₀ : Array Vu} {kd : VE} {ix : Nat → Nat} {st : Vt} {lo : Nat} {N : List Nat} {pd : Array (Nat × Nat × Nat)} {T : Nat → Nat}
structure RI (blt:α->α->Bool) (k:Nat->α) (a₀:Array Vu) (kd:VE) (T:Nat->Nat) (lo:Nat) (st:Vt):Prop where
 ki:kindOf st=kd
 fa:VF st=none
 le:lo<=a₀.size
 ex:∃ N:List Nat,N.length=a₀.size/\Nmd a₀ (arrOf st) N/\(∀ p,lo<=p->p<a₀.size->N.getD p 0=T p)/\Segs blt k N (pendingOf st).toList 0 lo
theorem z0b{β:Type}{l:List β}{i:Nat}(h:i+1<l.length):∃ a b,l=l.take i++a::b::l.drop (i+2)/\l[i]? = some a/\l[i+1]? = some b:=by
 refine⟨l[i],l[i+1],?_,Qa (by omega),Qa h⟩
 conv=>lhs;rw[<- Zm i l,QC (show i<l.length by omega),QC (show i+1<l.length by omega)]
theorem zmb{i:Nat}{Q:Bool->Vt->Prop}(W:WO blt)(hC:zbo prog w A s kd a₀ blt k)(r:RI blt k a₀ kd T lo st)(hi:i+1<(pendingOf st).size)(h:∀ st',RI blt k a₀ kd T lo st'->(pendingOf st').size+1=(pendingOf st).size->Q true st'):wpS (model prog w) A E s (mergeAt' i) Q st:=by
 obtain⟨N,hl,NA,idn,sg⟩:=r.ex;have rle:=r.le;obtain⟨⟨sA,nA,pA⟩,⟨sB,nB,pB⟩,el,e1,e2⟩:=z0b (l:=(pendingOf st).toList) (i:=i) (by rw[QE];exact hi);have li:((pendingOf st).toList.take i).length=i:=by rw[QJ,QE];omega
 generalize hl1:(pendingOf st).toList.take i=l1 at el li;generalize hl2:(pendingOf st).toList.drop (i+2)=l2 at el;rw[el] at sg;obtain⟨m,g1,g2⟩:=segs_app.mp sg;obtain⟨rfl,hA,okA,g3⟩:=g2;obtain⟨rfl,hB,okB,g4⟩:=g3;have le4:=zgb g4;refine z3k (i:=i) (sa:=sA) (na:=nA) (nb:=nB) W hC r.ki r.fa NA (by rw[<- QA];exact e1) (by rw[<- QA];exact e2) hA hB (by omega) (okA.srt W (by omega)) (okB.srt W (by omega)) λst' k1 k2 k3 k4=>?_;obtain⟨lN,ok,q1,q2⟩:=okA.merge W okB (by omega) _ rfl
 have tl:(pendingOf st').toList=l1++(sA,nA+nB,pA)::l2:=by
  rw[k4,Array.toList_eraseIdxIfInBounds,JI,el,<- li,List.set_append_right _ _ (Qc _),JC,List.set_cons_zero,List.eraseIdx_append_of_length_le (by omega),show l1.length+1 - l1.length=1 by omega];rfl
 refine h st' ⟨k1,k2,rle,_,by rw[lN];exact hl,k3,λp p1 p2=>?_,?_⟩ ?_
 ·rw[q2 p (by omega)];exact idn p p1 p2
 ·rw[tl];refine segs_app.mpr ⟨sA,zdb lN g1 λp _ p2=>q1 p p2,rfl,by omega,ok,?_⟩;rw[show sA+(nA+nB)=sA+nA+nB by omega];exact zdb lN g4 λp p1 _=>q2 p (by omega)
 ·rw[<- QE,<- QE,tl,el];simp;omega
theorem z3h{N:List Nat}(NA:Nmd a₀ (arrOf st) N)(hl:N.length=a₀.size)(idn:∀ p,lo<=p->p<a₀.size->N.getD p 0=p)(ki:kindOf st=kd)(fa:VF st=none)(le:lo<=a₀.size):So a₀ kd (pendingOf st) lo N (λi=>i) st:=by
 have z:=NA.size;refine⟨by rw[z,hl],λp hp=>?_,λi hi=>?_,Bij.idf,fa,rfl,ki⟩
 ·obtain⟨x,e1,e2,_⟩:=NA.get (i:=p) (by omega);rw[e1,e2]
 ·obtain⟨x,e1,e2,_⟩:=NA.get (i:=lo+i) (by omega);rw[idn (lo+i) (by omega) hi] at e2;rw[e1,e2]
theorem zzk{m:Nat}(b:So a₀ kd pd lo N ix st)(hN:∀ n ∈ N,n<a₀.size)(hl:N.length=a₀.size)(le:lo<=a₀.size)(hm:lo+m<=a₀.size)(up:Up blt (λi=>k (lo+i)) ix m)(pr:Pre ix m) :
 ∃ N':List Nat,N'.length=a₀.size/\Nmd a₀ (arrOf st) N'/\(∀ p,p<lo->N'.getD p 0=N.getD p 0)/\SegOk blt k N' lo m/\∀ p,lo+m<=p->p<a₀.size->N'.getD p 0=p:=by
 have lt:(N.take lo).length=lo:=by rw[QJ];omega
 have gl:∀ p,p<lo->(N.take lo++(Qx (a₀.size - lo)).map λi=>lo+ix i).getD p 0=N.getD p 0:=λp hp=>by
  simp only[QX];rw[Qz (by omega),JH,GQ hp]
 have gr:∀ i,lo+i<a₀.size->(N.take lo++(Qx (a₀.size - lo)).map λi=>lo+ix i).getD (lo+i) 0=lo+ix i:=λi hi=>by
  simp only[QX];rw[Q4 (by omega),lt,show lo+i - lo=i by omega,Qk,Jf (by omega)];rfl
 have lN:(N.take lo++(Qx (a₀.size - lo)).map λi=>lo+ix i).length=a₀.size:=by rw[Qj,lt,Qe,QF];omega
 have inr:∀ n ∈ (N.take lo++(Qx (a₀.size - lo)).map λi=>lo+ix i),n<a₀.size:=λn hn=>by
  rcases Qv.mp hn with z|z
  ·exact hN n (ZA z)
  ·obtain⟨i,hi,rfl⟩:=Qp.mp z;have:=b.bj.lt i (QK.mp hi);omega
 generalize hN':(N.take lo++(Qx (a₀.size - lo)).map λi=>lo+ix i)=N' at gl gr lN inr;refine⟨N',lN,⟨?_,inr⟩,gl,?_,λp p1 p2=>?_⟩
 ·refine ZB λp=>?_;rw[QA,Qk];rcases Zu p a₀.size with hp|hp
  ·have ge:N'[p]? = some (N'.getD p 0):=by
    unfold QX;rw[Qa (by omega)];rfl
   have mem:N'.getD p 0<a₀.size:=inr _ (Q6 ge);rw[ge,ZC,<- ziv mem];rcases Zu p lo with z|z
   ·rw[gl p z];exact b.be p z
   ·obtain⟨i,rfl⟩:∃ i,p=lo+i:=⟨p - lo,by omega⟩;rw[gr i hp];exact b.at_ i hp
  ·rw[Zy (by rw[b.sz];exact hp),Qu (by omega)];rfl
 ·have seg:∀ i j,i<j->j<m->Rk blt k (N'.getD (lo+i) 0) (N'.getD (lo+j) 0):=λi j hij hj=>by
   rw[gr i (by omega),gr j (by omega)];rcases up i j hij hj with z|⟨z,z'⟩
   ·exact .inl z
   ·exact .inr ⟨z,by omega⟩
  refine⟨QR.mpr λi j h1 h2 hij=>?_,λx hx=>?_⟩
  ·have l:=zcb (N:=N') (lo:=lo) (n:=m) (by omega)
   have e:∀ t,t<m->∀ ht,((N'.drop lo).take m)[t]'ht=N'.getD (lo+t) 0:=λt ht hh=>by
    rw[<- zby ht (by omega)];unfold QX;rw[Qa hh];rfl
   rw[e i (by omega),e j (by omega)];exact seg i j hij (by omega)
  ·obtain⟨j,j1,j2,rfl⟩:=ze4 hx;rw[gr j (by omega)];have:=pr.lt j j1;omega
 ·obtain⟨i,rfl⟩:∃ i,p=lo+i:=⟨p - lo,by omega⟩;rw[gr i p2,pr.id i (by omega)]
end
section
variable {prog : Vf} {w : Vk} {A : Vl} {E : Vb → Vc → Prop} {s : Vc} {α : Type} {blt : α → α → Bool} {k : Nat → α} {a₀ : Array Vu} {kd : VE} {st : Vt}
theorem z1m(b:Sb a₀ kd (λi=>i) st):Nmd a₀ (arrOf st) (Qx a₀.size):=by
 refine⟨ZB λp=>?_,λn hn=>QK.mp hn⟩;rw[QA,Qk];rcases Zu p a₀.size with hp|hp
 ·rw[Jf hp,ZC,<- ziv hp];exact b.at_ p hp
 ·rw[Zy (by rw[b.sz];exact hp),Qu (by rw[QF];exact hp)];rfl
theorem zk3{Q:Unit->Vt->Prop}(W:WO blt)(hC:zbo prog w A s kd a₀ blt k)(b:Sb a₀ kd (λi=>i) st)(h2:2<=a₀.size)
 (h:∀ ix' st',(arrOf st').size=a₀.size->(∀ i,i<a₀.size->(arrOf st')[i]? = a₀[ix' i]?)->Bij ix' a₀.size->VF st'=none->Up blt k ix' a₀.size->Q () st'):wpS (model prog w) A E s sortRuns' Q st:=by
 rw[sortRuns'_eq];refine Vh (Ub ?_);dsimp only;simp only[b.sz];have r0:RI blt k a₀ kd (λp=>p) 0 st:=⟨b.ki,b.fa,Qw _,Qx a₀.size,QF,z1m b,λp _ hp=>by simp[QX,hp],by rw[b.pe];rfl⟩;refine Vh (VC (Vq (I:=λx c st'=>∃ lo,c=(none,lo)/\RI blt k a₀ kd (λp=>p) lo st'/\(x<=lo\/lo=a₀.size)) (Q:=λc st'=>c=(none,a₀.size)/\RI blt k a₀ kd (λp=>p) a₀.size st') ?turn ?out ⟨0,rfl,r0,.inl (Qc _)⟩) ?rest)
 case out =>
  rintro c st' ⟨lo,rfl,r,o⟩;have:=r.le;have:lo=a₀.size:=by rcases o with o|o <;> omega
  subst this;exact⟨rfl,r⟩
 case turn =>
  rintro x c st' _ hx ⟨lo,rfl,r,o⟩;dsimp only;have rle:=r.le
  by_cases ge:lo ≥ a₀.size
  ·rw[GQ ge];have:lo=a₀.size:=by omega
   subst this;exact Vi ⟨rfl,r⟩
  rw[GT ge];obtain⟨N,hl,NA,idn,sg⟩:=r.ex;refine Vh (z2e W hC (n:=a₀.size - lo) (by omega) (by omega) (z3h NA hl idn r.ki r.fa rle) λm ix1 st1 b1 m1 m2 u1 p1=>?_);dsimp only
  have fin:∀ (nn:Nat) (ix2:Nat->Nat) (st2:Vt),So a₀ kd (pendingOf st') lo N ix2 st2->1<=nn->lo+nn<=a₀.size->Up blt (λi=>k (lo+i)) ix2 nn->Pre ix2 nn->∃ N':List Nat,N'.length=a₀.size/\RI blt k a₀ kd (λp=>N'.getD p 0) lo st2/\(∀ st3,RI blt k a₀ kd (λp=>N'.getD p 0) lo st3->RI blt k a₀ kd (λp=>p) (lo+nn) (setPending st3 ((pendingOf st3).push (lo,nn,0)))):=by
   intro nn ix2 st2 b2 n1 n2 u2 p2;obtain⟨N',l',A',e1,e2,e3⟩:=zzk b2 NA.2 hl rle n2 u2 p2;refine⟨N',l',⟨b2.ki,b2.fa,rle,N',l',A',λp _ _=>rfl,?_⟩,λst3 r3=>?_⟩
   ·rw[b2.pe];exact zdb (by omega) sg λp _ hp=>e1 p hp
   ·obtain⟨N3,l3,A3,t3,g3⟩:=r3.ex;refine⟨r3.ki,r3.fa,n2,N3,l3,A3,λp p1 p2=>?_,?_⟩
    ·rw[t3 p (by omega) p2];exact e3 p p1 p2
    ·show Segs blt k N3 ((pendingOf st3).push (lo,nn,0)).toList 0 (lo+nn);rw[ZW];refine segs_app.mpr ⟨lo,g3,rfl,n1,?_,rfl⟩;unfold SegOk;rw[znx (N:=N') (by omega) λp p1 p2=>t3 p p1 (by omega)];exact e2
  have md:∀ (T:Nat->Nat) (pw:Nat) (st3:Vt),RI blt k a₀ kd T lo st3->RI blt k a₀ kd T lo (setPending st3 ((pendingOf st3).modify ((pendingOf st3).size - 1) λx=>(x.1,x.2.1,pw))):=by
   intro T pw st3 r3;obtain⟨N3,l3,A3,t3,g3⟩:=r3.ex;refine⟨r3.ki,r3.fa,r3.le,N3,l3,A3,t3,?_⟩;show Segs blt k N3 ((pendingOf st3).modify ((pendingOf st3).size - 1) λx=>(x.1,x.2.1,pw)).toList 0 lo;rw[Array.toList_modify];exact zlr (λ_ _ _=>⟨rfl,rfl⟩) g3
  by_cases lt:m<minRun' a₀.size a₀.size 0
  ·rw[GQ lt];refine Vh (UC (V1 ⟨rfl,?_⟩));generalize hnn:min (a₀.size - lo) (minRun' a₀.size a₀.size 0)=nn;have n1:1<=nn:=by omega
   have n2:lo+nn<=a₀.size:=by omega
   refine Vh (z3m W hC n2 (by omega) m1 b1 u1 p1 λix2 st2 b2 u2 p2=>?_);simp only[JU,Q8,GX];clear hnn lt;obtain⟨N',l',r2,push⟩:=fin nn ix2 st2 b2 n1 n2 u2 p2;clear fin;refine Vh (Ub ?_)
   cases hb:(pendingOf st2).back? with
   | none =>
     dsimp only;exact Vh (VM (Vi ⟨lo+nn,rfl,push _ r2,by omega⟩))
   | some e =>
     obtain⟨s1,l1,w1⟩:=e;dsimp only;generalize power' a₀.size (2 * s1+l1) (2 * s1+l1+l1+nn) a₀.size=pw;refine Vh (VC (Vq (I:=λ_ c st3=>c=(none,())/\RI blt k a₀ kd (λp=>N'.getD p 0) lo st3) (Q:=λc st3=>c=(none,())/\RI blt k a₀ kd (λp=>N'.getD p 0) lo st3) ?_ (λ_ _ y=>y) ⟨rfl,r2⟩) ?_)
     ·rintro y c st3 _ _ ⟨rfl,r3⟩;refine Vh (Ub ?_)
      by_cases big:(pendingOf st3).size > 1
      ·rw[GQ big]
       cases hq:(pendingOf st3)[(pendingOf st3).size - 2]? with
       | none=>exact Vi ⟨rfl,r3⟩
       | some e =>
         obtain⟨e1,e2,older⟩:=e;dsimp only
         by_cases le:older<=pw
         ·rw[GQ le];exact Vi ⟨rfl,r3⟩
         ·rw[GT le];refine Vh (zmb W hC r3 (by omega) λst4 r4 _=>?_);simp only[JU,Q8,GX];exact Vi ⟨rfl,r4⟩
      ·rw[GT big];exact Vi ⟨rfl,r3⟩
     ·rintro c st3 ⟨rfl,r3⟩;dsimp only;exact Vh (VM (Vh (VM (Vi ⟨lo+nn,rfl,push _ (md _ pw _ r3),by omega⟩))))
  ·rw[GT lt];have n2:lo+m<=a₀.size:=by omega
   obtain⟨N',l',r2,push⟩:=fin m ix1 st1 b1 m1 n2 u1 p1;clear fin lt;generalize m=nn at *;generalize st1=st2 at *;refine Vh (Ub ?_)
   cases hb:(pendingOf st2).back? with
   | none =>
     dsimp only;exact Vh (VM (Vi ⟨lo+nn,rfl,push _ r2,by omega⟩))
   | some e =>
     obtain⟨s1,l1,w1⟩:=e;dsimp only;generalize power' a₀.size (2 * s1+l1) (2 * s1+l1+l1+nn) a₀.size=pw;refine Vh (VC (Vq (I:=λ_ c st3=>c=(none,())/\RI blt k a₀ kd (λp=>N'.getD p 0) lo st3) (Q:=λc st3=>c=(none,())/\RI blt k a₀ kd (λp=>N'.getD p 0) lo st3) ?_ (λ_ _ y=>y) ⟨rfl,r2⟩) ?_)
     ·rintro y c st3 _ _ ⟨rfl,r3⟩;refine Vh (Ub ?_)
      by_cases big:(pendingOf st3).size > 1
      ·rw[GQ big]
       cases hq:(pendingOf st3)[(pendingOf st3).size - 2]? with
       | none=>exact Vi ⟨rfl,r3⟩
       | some e =>
         obtain⟨e1,e2,older⟩:=e;dsimp only
         by_cases le:older<=pw
         ·rw[GQ le];exact Vi ⟨rfl,r3⟩
         ·rw[GT le];refine Vh (zmb W hC r3 (by omega) λst4 r4 _=>?_);simp only[JU,Q8,GX];exact Vi ⟨rfl,r4⟩
      ·rw[GT big];exact Vi ⟨rfl,r3⟩
     ·rintro c st3 ⟨rfl,r3⟩;dsimp only;exact Vh (VM (Vh (VM (Vi ⟨lo+nn,rfl,push _ (md _ pw _ r3),by omega⟩))))
 case rest =>
  rintro c st' ⟨rfl,r⟩;dsimp only
  have pl:(pendingOf st').size<=a₀.size:=by
   obtain⟨N,hl,NA,_,sg⟩:=r.ex;have:=zgb sg;rw[QE] at this;omega
  refine Vh (VC (Vq (I:=λx c st2=>c=(none,())/\RI blt k a₀ kd (λp=>p) a₀.size st2/\(pendingOf st2).size+x<=a₀.size) (Q:=λc st2=>c=(none,())/\RI blt k a₀ kd (λp=>p) a₀.size st2/\(pendingOf st2).size<=1) ?_ ?_ ⟨rfl,r,pl⟩) ?_)
  ·rintro x c st2 _ hx ⟨rfl,r2,z⟩;refine Vh (Ub ?_)
   by_cases le:(pendingOf st2).size<=1
   ·rw[GQ le];exact Vi ⟨rfl,r2,le⟩
   ·rw[GT le];refine Vh (zmb W hC r2 ?_ λst4 r4 q4=>?_)
    ·by_cases c:(Option.any (λx=>decide (x<(pendingOf st2)[(pendingOf st2).size - 2+1]?.elim 0 λx=>x.snd.fst)) (if(pendingOf st2).size - 2 > 0 then Option.map (λx=>x.snd.fst) (pendingOf st2)[(pendingOf st2).size - 2 - 1]? else none))=true
     ·rw[GQ c];omega
     ·rw[GT c];omega
    ·simp only[JU,Q8,GX];exact Vi ⟨rfl,r4,by omega⟩
  ·rintro c st2 ⟨rfl,r2,z⟩;exact⟨rfl,r2,by omega⟩
  ·rintro c st2 ⟨rfl,r2,z⟩;dsimp only;refine Vi ?_;obtain⟨N,hl,NA,_,sg⟩:=r2.ex;rw[<- QE] at z;generalize (pendingOf st2).toList=l at sg z
   match l,sg,z with
   | [],sg,_=>exact absurd (show 0=a₀.size from sg) (by omega)
   | [(_,n,_)],sg,_ =>
     obtain⟨_,_,ok,e⟩:=sg;have e:0+n=a₀.size:=e;obtain rfl:n=a₀.size:=by omega
     have ee:(N.drop 0).take a₀.size=N:=by rw[ZZ,ZD (by omega)]
     have pw:=ok.1;rw[ee] at pw
     have rk:∀ i j,i<j->j<a₀.size->Rk blt k (N.getD i 0) (N.getD j 0):=λi j hij hj=>by
      have:=QR.mp pw i j (by omega) (by omega) hij;simpa[QX,Qa (show i<N.length by omega),Qa (show j<N.length by omega)] using this
     have irr:∀ a,¬ Rk blt k a a:=λa h=>by
      rcases h with h|⟨_,h⟩
      ·rw[W.irr] at h;cases h
      ·omega
     have nd:N.Nodup:=List.Pairwise.imp (S:=λx y=>x ≠ y) (λ{x y} h (e:x=y)=>irr x (by rw[<- e] at h;exact h)) pw
     have gt:∀ i,i<a₀.size->N[i]? = some (N.getD i 0):=λi hi=>by
      unfold QX;rw[Qa (by omega)];rfl
     have lt:∀ i,i<a₀.size->N.getD i 0<a₀.size:=λi hi=>NA.2 _ (Q6 (gt i hi));refine h (λi=>N.getD i 0) st2 (by rw[NA.size,hl]) (λi hi=>?_) ⟨lt,λi j hi hj e=>?_,λp hp=>?_⟩ r2.fa rk
     ·obtain⟨x,e1,e2,_⟩:=NA.get (i:=i) (by omega);rw[e1,e2]
     ·rcases Nat.lt_trichotomy i j with t|t|t
      ·exact absurd (rk i j t hj) (by rw[show N.getD i 0=N.getD j 0 from e];exact irr _)
      ·exact t
      ·exact absurd (rk j i t hi) (by rw[show N.getD i 0=N.getD j 0 from e];exact irr _)
     ·by_cases mem:p ∈ N
      ·obtain⟨i,hi,e⟩:=Ji mem;refine⟨i,by omega,?_⟩;show N.getD i 0=p;unfold QX;rw[Qa hi,e];rfl
      ·have:=zrs (zs:=p::N) (ys:=Qx a₀.size) (Zi.mpr ⟨mem,nd⟩) λz hz=>QK.mpr (by
        rcases Qs.mp hz with rfl|hz
        ·exact hp
        ·exact NA.2 z hz)
       rw[Qf,QF,hl] at this;omega
end
end L6
namespace HK
open PySem PySem.Spec PyProof.Rows
mutual
def hk:Ve->Bool
 | .int _=>true
 | .str _=>true
 | .tuple ds=>hks ds
 | _=>false
def hks:List Ve->Bool
 | []=>true
 | d::ds=>hk d && hks ds
end
mutual
def hD(w:Vk):Ve->Int
 | .int i=>hashInt i
 | .str x=>UT w x
 | .tuple ds=>reduceHash (Builtin.Tuple.tupleHashOf (hDs w ds))
 | _=>0
def hDs(w:Vk):List Ve->List Int
 | [] => []
 | d::ds=>hD w d::hDs w ds
end
mutual
def bv:Ve->Bool
 | .int _=>true
 | .tuple ds=>bvs ds
 | _=>false
def bvs:List Ve->Bool
 | []=>true
 | d::ds=>bv d && bvs ds
end
mutual
def dr:Ve->Nat
 | .tuple ds=>drs ds+1
 | _=>1
def drs:List Ve->Nat
 | []=>0
 | d::ds=>dr d+drs ds
end
theorem zoq:∀ {ds:List Ve},hks ds=true->∀ d ∈ ds,hk d=true
 | d::ds,h,e,he=>by
   simp only[hks,Q5] at h;rcases Qs.mp he with rfl|he
   ·exact h.1
   ·exact zoq h.2 e he
theorem znh:∀ {ds:List Ve} {d:Ve},d ∈ ds->d.depth<=PyData.depthAll ds
 | e::ds,d,h=>by
   rw[PyData.depthAll];rcases Qs.mp h with rfl|h
   ·exact Nat.le_max_left _ _
   ·exact QH (znh h) (Nat.le_max_right _ _)
mutual
theorem zgt:∀ d:Ve,hk d=true->L3.solid d=true
 | .int _,_=>rfl
 | .str _,_=>rfl
 | .tuple ds,h=>zid ds (by simpa[hk] using h)
 | .none,h=>rfl
 | .bool _,h=>by simp[hk] at h
 | .list _,h=>by simp[hk] at h
 | .dict _,h=>by simp[hk] at h
theorem zid:∀ ds:List Ve,hks ds=true->L3.solids ds=true
 | [],_=>rfl
 | d::ds,h=>by
   simp only[hks,Q5] at h;rw[L3.solids,zgt d h.1,zid ds h.2];rfl
end
section
variable {P : Vf} {w : Vk}
theorem zde{h:Heap}{v:Vb}{vs:List Vb}{ds:List Ve}{as:List Addr}(r:Ud h (v::vs) ds as):∃ d ds' a b,ds=d::ds'/\U0 h v d a/\Ud h vs ds' b:=by
 cases r with
 | cons r1 r2=>exact⟨_,_,_,_,rfl,r1,r2⟩
end
end HK
namespace HK
open PySem PySem.Spec PyProof.Rows PySem.W
mutual
def dlt:Ve->Ve->Bool
 | .int i,.int j=>decide (i<j)
 | .str x,.str y=>decide (x.cps.toList<y.cps.toList)
 | .tuple xs,.tuple ys=>dlts xs ys
 | _,_=>false
def dlts:List Ve->List Ve->Bool
 | [],[]=>false
 | [],_::_=>true
 | _::_,[]=>false
 | x::xs,y::ys=>if PyData.eqv x y then dlts xs ys else dlt x y
end
inductive Sh where
 | n
 | t
 | arr (s:Sh)
 | fnil
 | fcons (a r:Sh)
def zah:Sh->Ve->Prop
 | .n,d=>∃ i,d = .int i
 | .t,d=>∃ x,d = .str x
 | .arr s,d=>∃ xs,d = .tuple xs/\∀ x ∈ xs,zah s x
 | .fnil,d=>d = .tuple []
 | .fcons a r,d=>∃ x xs,d = .tuple (x::xs)/\zah a x/\zah r (.tuple xs)
theorem zsn:∀ {ds:List Ve},(∀ d ∈ ds,hk d=true)->hks ds=true
 | [],_=>rfl
 | d::ds,h=>by rw[hks,h d (by simp),zsn λe z=>h e (Qb _ z)];rfl
theorem zhc:∀ (σ:Sh) (d:Ve),zah σ d->hk d=true
 | .n,_,⟨_,e⟩=>by subst e;rfl
 | .t,_,⟨_,e⟩=>by subst e;rfl
 | .arr s,_,⟨xs,e,h⟩=>by subst e;rw[hk];exact zsn λd z=>zhc s d (h d z)
 | .fnil,_,e=>by subst e;rfl
 | .fcons a r,_,⟨x,xs,e,h1,h2⟩=>by
   subst e;have:=zhc r _ h2;rw[hk] at this;rw[hk,hks,zhc a x h1,this];rfl
theorem zhk{σ:Sh}{d e:Ve}(h:zah σ d)(h':zah σ e):PyData.eqv d e=true↔d=e:=L3.eqv_solid d e (zgt d (zhc σ d h)) (zgt e (zhc σ e h'))
structure TO (F:Ve->Prop):Prop where
 irr:∀ a,F a->dlt a a=false
 tr:∀ a b c,F a->F b->F c->dlt a b=true->dlt b c=true->dlt a c=true
 tri:∀ a b,F a->F b->dlt a b=true\/a=b\/dlt b a=true
theorem zcc{σ:Sh}{x y:Ve}(hx:zah σ x)(hy:zah σ y)(xs ys:List Ve):dlts (x::xs) (y::ys)=true↔(x=y/\dlts xs ys=true)\/(x ≠ y/\dlt x y=true):=by
 rw[dlts]
 by_cases e:x=y
 ·rw[GQ ((zhk hx hy).mpr e)];simp[e]
 ·rw[GT (λc=>e ((zhk hx hy).mp c))];simp[e]
theorem zl5{σ:Sh}(T:TO (zah σ)):∀ {xs:List Ve},(∀ x ∈ xs,zah σ x)->dlts xs xs=false
 | [],_=>rfl
 | x::xs,h=>by
   have hx:=h x (by simp);rw[dlts,GQ ((zhk hx hx).mpr rfl)];exact zl5 T λy z=>h y (Qb _ z)
theorem zn9{σ:Sh}(T:TO (zah σ)){x y z:Ve}{xs ys zs:List Ve}(hx:zah σ x)(hy:zah σ y)(hz:zah σ z)(ih:dlts xs ys=true->dlts ys zs=true->dlts xs zs=true)(h1:dlts (x::xs) (y::ys)=true)(h2:dlts (y::ys) (z::zs)=true):dlts (x::xs) (z::zs)=true:=by
 rw[zcc hx hz];rcases(zcc hx hy xs ys).mp h1 with ⟨rfl,a⟩|⟨a,b⟩
 ·rcases(zcc hx hz ys zs).mp h2 with ⟨rfl,c⟩|⟨c,d⟩
  ·exact .inl ⟨rfl,ih a c⟩
  ·exact .inr ⟨c,d⟩
 ·rcases(zcc hy hz ys zs).mp h2 with ⟨rfl,c⟩|⟨c,d⟩
  ·exact .inr ⟨a,b⟩
  ·have t:=T.tr x y z hx hy hz b d;refine .inr ⟨λe=>?_,t⟩;rw[e,T.irr z hz] at t;cases t
theorem zoo{σ:Sh}(T:TO (zah σ)):∀ {xs ys zs:List Ve},(∀ x ∈ xs,zah σ x)->(∀ x ∈ ys,zah σ x)->(∀ x ∈ zs,zah σ x)->dlts xs ys=true->dlts ys zs=true->dlts xs zs=true
 | [],[],_,_,_,_,h,_=>by cases h
 | [],_::_,[],_,_,_,_,h=>by cases h
 | [],_::_,_::_,_,_,_,_,_=>rfl
 | _::_,[],_,_,_,_,h,_=>by cases h
 | _::_,_::_,[],_,_,_,_,h=>by cases h
 | x::xs,y::ys,z::zs,a,b,c,h1,h2=>zn9 T (a x (by simp)) (b y (by simp)) (c z (by simp)) (zoo T (λq w=>a q (Qb _ w)) (λq w=>b q (Qb _ w)) (λq w=>c q (Qb _ w))) h1 h2
theorem zmf{σ:Sh}(T:TO (zah σ)){x y:Ve}{xs ys:List Ve}(hx:zah σ x)(hy:zah σ y)(ih:dlts xs ys=true\/xs=ys\/dlts ys xs=true):dlts (x::xs) (y::ys)=true\/x::xs=y::ys\/dlts (y::ys) (x::xs)=true:=by
 rw[zcc hx hy,zcc hy hx]
 by_cases e:x=y
 ·subst e;rcases ih with i|i|i
  ·exact .inl (.inl ⟨rfl,i⟩)
  ·exact .inr (.inl (by rw[i]))
  ·exact .inr (.inr (.inl ⟨rfl,i⟩))
 ·rcases T.tri x y hx hy with i|i|i
  ·exact .inl (.inr ⟨e,i⟩)
  ·exact absurd i e
  ·exact .inr (.inr (.inr ⟨Zj e,i⟩))
theorem zlp{σ:Sh}(T:TO (zah σ)):∀ {xs ys:List Ve},(∀ x ∈ xs,zah σ x)->(∀ x ∈ ys,zah σ x)->dlts xs ys=true\/xs=ys\/dlts ys xs=true
 | [],[],_,_ => .inr (.inl rfl)
 | [],_::_,_,_ => .inl rfl
 | _::_,[],_,_ => .inr (.inr rfl)
 | x::xs,y::ys,a,b=>zmf T (a x (by simp)) (b y (by simp)) (zlp T (λq w=>a q (Qb _ w)) (λq w=>b q (Qb _ w)))
theorem zyc{x y:Str}(h:x.cps.toList=y.cps.toList):x=y:=by
 obtain⟨a⟩:=x;obtain⟨b⟩:=y
 congr
 exact ZP.mp h
theorem zhm:∀ σ:Sh,TO (zah σ)
 | .n=>by
   refine⟨λa ⟨i,e⟩=>?_,λa b c ⟨i,e⟩ ⟨j,e2⟩ ⟨k,e3⟩ h1 h2=>?_,λa b ⟨i,e⟩ ⟨j,e2⟩=>?_⟩
   ·subst e;simp[dlt]
   ·subst e e2 e3;simp[dlt] at *; omega
   ·subst e e2;simp[dlt];omega
 | .t=>by
   refine⟨λa ⟨i,e⟩=>?_,λa b c ⟨i,e⟩ ⟨j,e2⟩ ⟨k,e3⟩ h1 h2=>?_,λa b ⟨i,e⟩ ⟨j,e2⟩=>?_⟩
   ·subst e;simp[dlt,Ja]
   ·subst e e2 e3;simp only[dlt,GY] at *;exact J2 h1 h2
   ·subst e e2;simp only[dlt,GY]
    by_cases c:i.cps.toList<j.cps.toList
    ·exact .inl c
    ·by_cases c2:j.cps.toList<i.cps.toList
     ·exact .inr (.inr c2)
     ·exact .inr (.inl (by rw[zyc (jd (J4.mp c2) (J4.mp c))]))
 | .arr s=>by
   have T:=zhm s;refine⟨λa ⟨xs,e,h⟩=>?_,λa b c ⟨xs,e,h⟩ ⟨ys,e2,h2⟩ ⟨zs,e3,h3⟩ h4 h5=>?_,λa b ⟨xs,e,h⟩ ⟨ys,e2,h2⟩=>?_⟩
   ·subst e;exact zl5 T h
   ·subst e e2 e3;exact zoo T h h2 h3 h4 h5
   ·subst e e2;rcases zlp T h h2 with i|i|i
    ·exact .inl i
    ·exact .inr (.inl (by rw[i]))
    ·exact .inr (.inr i)
 | .fnil=>by
   refine⟨λa e=>?_,λa b c e e2 e3 h4 h5=>?_,λa b e e2=>?_⟩
   ·have e:a = .tuple []:=e;subst e;rfl
   ·have e:a = .tuple []:=e;have e2:b = .tuple []:=e2;subst e e2;cases h4
   ·have e:a = .tuple []:=e;have e2:b = .tuple []:=e2;exact .inr (.inl (e.trans e2.symm))
 | .fcons f r=>by
   have T:=zhm f;have U:=zhm r;refine⟨λa ⟨x,xs,e,h,g⟩=>?_,λa b c ⟨x,xs,e,h,g⟩ ⟨y,ys,e2,h2,g2⟩ ⟨z,zs,e3,h3,g3⟩ h4 h5=>?_,λa b ⟨x,xs,e,h,g⟩ ⟨y,ys,e2,h2,g2⟩=>?_⟩
   ·subst e;show dlts (x::xs) (x::xs)=false;rw[dlts,GQ ((zhk h h).mpr rfl)];exact U.irr _ g
   ·subst e e2 e3;exact zn9 T h h2 h3 (λp q=>U.tr _ _ _ g g2 g3 p q) h4 h5
   ·subst e e2
    have:=zmf T h h2 (xs:=xs) (ys:=ys) (by
     rcases U.tri _ _ g g2 with i|i|i
     ·exact .inl i
     ·exact .inr (.inl (by injection i))
     ·exact .inr (.inr i))
    rcases this with i|i|i
    ·exact .inl i
    ·exact .inr (.inl (by rw[i]))
    ·exact .inr (.inr i)
theorem zwz(σ:Sh):L6.WO (λa b:{ d:Ve // zah σ d }=>dlt a.1 b.1):=by
 have T:=zhm σ;refine⟨λa=>T.irr _ a.2,λa b c h h'=>T.tr _ _ _ a.2 b.2 c.2 h h',λa b c h=>?_⟩;rcases T.tri a.1 b.1 a.2 b.2 with i|i|i
 ·exact .inl i
 ·right;rw[<- i];exact h
 ·exact .inr (T.tr _ _ _ b.2 a.2 c.2 i h)
end HK
namespace HK
open PySem PySem.Spec PyProof.Rows PySem.W
def LtOk(d e:Ve):Prop:=∀ (prog:Vf) (w:Vk) (A:Vl) (E:Vb->Vc->Prop) (s:Vc) (v u:Vb) (as bs:List Addr) (Q:Vb->Vc->Prop),U0 s.heap v d as->U0 s.heap u e bs->A.units+d.depth+2<cLine->Q (.bool (dlt d e)) s->wpAny (model prog w) A (VG .Lt v u) Q E s
section
open PySem.SeqAt
open PySem.AutoSeq1 (wpAny_loadPart')
open PySem.MeetsSeq PySem.MeetsSeq2 PySem.MeetsSeq3
theorem zfe(l b:Addr)(items items2:Array Vb)(n n2:Nat)(dd dd2:Option Addr)(sl sl2:Array (Option Vb))(xs ys:List Ve)(hx:PyData.canLayAll0 xs=true)(hy:PyData.canLayAll0 ys=true)(hp:∀ p ∈ xs.zip ys,LtOk p.1 p.2) :
 Meets (Builtin.«tuple.__lt__» ⟨[.ref l,.ref b],[]⟩)
  (λA R s=>s.heap.get? l=some { cls := .type "tuple", dict:=dd,data := .seq items n,slots:=sl }/\s.heap.get? b=some { cls := .type "tuple", dict:=dd2,data := .seq items2 n2,slots:=sl2 } /\
   (∃ as bs,Ud s.heap items.toList xs as/\Ud s.heap items2.toList ys bs)/\A.units+PyData.depthAll xs+3<cLine/\R (.ok (.ret (.bool (dlts xs ys)))) s) :=
 .of_wp λprog w A R s h=>by
  obtain⟨hp',g,d,tk,os⟩:=s;obtain⟨hl,hb,⟨as,bs,r1,r2⟩,hu,h⟩:=h;have f2:=AutoSeq1.sub_tuple_tuple;have z1:items.size=xs.length:=by simpa using ReadsAll.length _ _ _ r1
  have z2:items2.size=ys.length:=by simpa using ReadsAll.length _ _ _ r2
  wp_walk using Gf hl,Gf hb,wpAny_forIn_list _ (λrest b s'=>b.1=none/\s'=⟨hp',g,d,tk,os⟩/\∃ (vs ws:List Vb) (xs' ys':List Ve) (as' bs':List Addr),rest=vs.zip ws /\
   Ud hp' vs xs' as'/\Ud hp' ws ys' bs'/\xs'.length+items2.size=ys'.length+items.size/\PyData.canLayAll0 xs'=true/\PyData.canLayAll0 ys'=true/\(∀ p ∈ xs'.zip ys',LtOk p.1 p.2)/\PyData.depthAll xs'<=PyData.depthAll xs/\R (.ok (.ret (.bool (dlts xs' ys')))) ⟨hp',g,d,tk,os⟩) _
  case turn =>
   rintro⟨y,x⟩ rest b s' ⟨hb',rfl,vs,ws,xs',ys',as',bs',hz,hvi,hwi,hlen,cx,cy,hpp,hdp,hR⟩
   cases hvi with
   | nil=>rw[YS] at hz;cases hz
   | @cons v vs d1 ds1 a1 b1 q1 hvi' =>
     cases hwi with
     | nil=>rw[YH] at hz;cases hz
     | @cons v2 vs2 d2 ds2 a2 b2 q2 hwi' =>
       rw[Jm] at hz;injection hz with hyx hrest;injection hyx with hy' hx';subst hy' hx';rw[dlts] at hR;simp only[Qf] at hlen;simp only[PyData.canLayAll0,Q5] at cx cy;rw[PyData.depthAll] at hdp;refine Va (eqBoolOverData _ _ _ _ _ _ _ d1 d2 _ _ _ q1 q2 cx.1 cy.1 (by show A.units+1+min d1.depth d2.depth<cLine;omega) ?_)
       cases e:PyData.eqv d1 d2 with
       | true =>
         rw[e,GQ rfl] at hR
         wp_walk
         exact⟨rfl,rfl,_,_,_,_,_,_,hrest,hvi',hwi',by omega,cx.2,cy.2,λp z=>hpp p (Qb _ z),by omega,hR⟩
       | false =>
         rw[e,GT Ql] at hR
         have hri:∀ (E:Vb->Vc->Prop) (Q:Vb->Vc->Prop),Q (.bool (dlt d1 d2)) ⟨hp',g,d,tk,os⟩->wpAny (model prog w) A.in1 (richCompare .Lt y x) Q E ⟨hp',g,d,tk,os⟩:=λE Q q =>
          hpp (d1,d2) (by simp) prog w A.in1 E ⟨hp',g,d,tk,os⟩ y x _ _ Q q1 q2 (by show A.units+1+d1.depth+2<cLine;omega) q
         wp_walk using hri
         exact⟨_,rfl,by simpa using hR⟩
  case fin =>
   rintro⟨b1,b2⟩ s' ⟨hb',rfl,vs,ws,xs',ys',as',bs',hz,hvi,hwi,hlen,cx,cy,hpp,hdp,hR⟩;simp only at hb';subst hb'
   have hv:dlts xs' ys'=decide (items.size<items2.size):=by
    cases hvi with
    | nil =>
      cases hwi with
      | nil =>
        simp only[Zn] at hlen;exact(GU (by omega)).symm
      | cons c u =>
        simp only[Zn,Qf] at hlen;exact(GW (by omega)).symm
    | cons a t =>
      cases hwi with
      | nil =>
        simp only[Zn,Qf] at hlen;exact(GU (by omega)).symm
      | cons c u =>
        rw[Jm] at hz;cases hz
   rw[hv] at hR
   wp_walk
   exact⟨_,rfl,by simpa[Builtin.Tuple.tupleCompareSizes] using hR⟩
  case h =>
   exact⟨rfl,rfl,items.toList,items2.toList,xs,ys,as,bs,rfl,r1,r2,by omega,hx,hy,hp,Qc _,h⟩
end
theorem zer{xs ys:List Ve}(hx:PyData.canLayAll0 xs=true)(hy:PyData.canLayAll0 ys=true)(hp:∀ p ∈ xs.zip ys,LtOk p.1 p.2):LtOk (.tuple xs) (.tuple ys):=λprog w A E s v u as bs Q r1 r2 hu h=>by
 cases r1 with
 | @tuple a o vs c _ _ h1 h2 h3 h4 =>
   cases r2 with
   | @tuple a2 o2 vs2 c2 _ _ k1 k2 k3 k4 =>
     obtain⟨oc,odd,od,osl⟩:=o;obtain⟨oc2,odd2,od2,osl2⟩:=o2;simp only at h2 h3 k2 k3;subst h2 h3 k2 k3;rw[PyData.depth] at hu
     exact richCompare_meets_room (op := .Lt) ⟨_,h1,rfl⟩ ⟨_,k1,rfl⟩ PySem.F.slot_tuple_lt PySem.F.entry_tuple_lt (PySem.F.args_tuple_lt_2 _ _) (zfe a a2 vs vs2 c c2 odd odd2 osl osl2 xs ys hx hy hp)
      ⟨h1,k1,⟨_,_,h4,k4⟩,by omega,show Value.bool (dlts xs ys) ≠ Value.notImplemented/\Q (.bool (dlts xs ys)) s from⟨(λx=>nomatch x),h⟩⟩ (by omega)
end HK
namespace HK
open PySem PySem.Spec PyProof.Rows PySem.W
def zgj(d e:Ve):Prop:=∀ (prog:Vf) (w:Vk) (A:Vl) (E:Vb->Vc->Prop) (s:Vc) (v u:Vb) (as bs:List Addr) (b:Bool) (Q:Bool->Vc->Prop),U0 s.heap v d as->U0 s.heap u e bs->A.units+d.depth+2<cLine->Q (dlt d e) s->wpAny (model prog w) A (oneLt' b v u) Q E s
theorem zi6:∀ {xs:List Ve},PyData.canLayAll0 xs=true->∀ x ∈ xs,x.canLay0=true
 | x::xs,h,y,hy=>by
   simp only[PyData.canLayAll0,Q5] at h;rcases Qs.mp hy with rfl|hy
   ·exact h.1
   ·exact zi6 h.2 y hy
theorem zfm{d e:Ve}(L:LtOk d e)(prog:Vf)(w:Vk)(A:Vl)(E:Vb->Vc->Prop)(s:Vc)(v u:Vb)(as bs:List Addr)(Q:Bool->Vc->Prop)(r1:U0 s.heap v d as)(r2:U0 s.heap u e bs)(hu:A.units+d.depth+2<cLine)(h:Q (dlt d e) s):wpAny (model prog w) A (oneLt' false v u) Q E s :=
 kat_one v u (L prog w A E s v u as bs _ r1 r2 hu h)
theorem zdz{xs ys:List Ve}(hx:PyData.canLayAll0 xs=true)(hy:PyData.canLayAll0 ys=true)(hp:∀ p ∈ xs.zip ys,LtOk p.1 p.2):zgj (.tuple xs) (.tuple ys):=λprog w A E s v u as bs b Q r1 r2 hu h=>by
 cases b with
 | false=>exact zfm (zer hx hy hp) prog w A E s v u as bs Q r1 r2 hu h
 | true =>
   cases r1 with
   | @tuple a o vs c _ _ h1 h2 h3 h4 =>
     cases r2 with
     | @tuple a2 o2 vs2 c2 _ _ k1 k2 k3 k4 =>
       obtain⟨oc,odd,od,osl⟩:=o;obtain⟨oc2,odd2,od2,osl2⟩:=o2;simp only at h2 h3 k2 k3;subst h2 h3 k2 k3;rw[PyData.depth] at hu;rw[oneLt'_eq];simp only[Ta];refine Va (wpAny_cRoomFor_or (.inr (by omega)) ?_);refine Va (wpAny_callSpecialIfBound?_slot ⟨_,h1,rfl⟩ F.slot_tuple_lt (VJ F.slot_tuple_lt ⟨_,h1,rfl⟩ F.entry_tuple_lt (F.args_tuple_lt_2 _ _) (zfe a a2 vs vs2 c c2 odd odd2 osl osl2 xs ys hx hy hp) ⟨h1,k1,⟨_,_,h4,k4⟩,by omega,?_⟩));exact VI h
theorem zap{xs:List Ve}(h:(PyData.tuple xs).canLay0=true):PyData.canLayAll0 xs=true:=by simpa[PyData.canLay0] using h
theorem both:∀ σ:Sh,(∀ d e,zah σ d->zah σ e->d.canLay0=true->e.canLay0=true->LtOk d e/\zgj d e)/\(∀ xs ys,zah σ (.tuple xs)->zah σ (.tuple ys)->PyData.canLayAll0 xs=true->PyData.canLayAll0 ys=true->∀ p ∈ xs.zip ys,LtOk p.1 p.2/\zgj p.1 p.2)
 | .n=>by
   refine⟨λd e ⟨i,h1⟩ ⟨j,h2⟩ _ _=>?_,λxs ys ⟨i,h1⟩=>by cases h1⟩;subst h1 h2
   have L:LtOk (.int i) (.int j):=λprog w A E s v u as bs Q r1 r2 hu h=>by
    cases r1;cases r2;exact lt_int (by simpa[dlt] using h)
   refine⟨L,λprog w A E s v u as bs b Q r1 r2 hu h=>?_⟩
   cases b with
   | false=>exact zfm L prog w A E s v u as bs Q r1 r2 hu h
   | true =>
     cases r1;cases r2;exact oneLt_int (by simpa[dlt] using h)
 | .t=>by
   refine⟨λd e ⟨i,h1⟩ ⟨j,h2⟩ _ _=>?_,λxs ys ⟨i,h1⟩=>by cases h1⟩;subst h1 h2
   have L:LtOk (.str i) (.str j):=λprog w A E s v u as bs Q r1 r2 hu h=>by
    cases r1;cases r2;exact lt_str (by simpa[dlt] using h)
   refine⟨L,λprog w A E s v u as bs b Q r1 r2 hu h=>?_⟩
   cases b with
   | false=>exact zfm L prog w A E s v u as bs Q r1 r2 hu h
   | true =>
     cases r1;cases r2;exact oneLt_str (by simpa[dlt] using h)
 | .arr s=>by
   obtain⟨B,_⟩:=both s
   have pr:∀ xs ys,zah (.arr s) (.tuple xs)->zah (.arr s) (.tuple ys)->PyData.canLayAll0 xs=true->PyData.canLayAll0 ys=true->∀ p ∈ xs.zip ys,LtOk p.1 p.2/\zgj p.1 p.2:=λxs ys ⟨xs',e1,h1⟩ ⟨ys',e2,h2⟩ c1 c2 p hp=>by
    cases e1;cases e2;obtain⟨q1,q2⟩:=J7 (show(p.1,p.2) ∈ xs.zip ys from hp);exact B p.1 p.2 (h1 _ q1) (h2 _ q2) (zi6 c1 _ q1) (zi6 c2 _ q2)
   refine⟨λd e hd he cd ce=>?_,pr⟩;obtain⟨xs,rfl,h1⟩:=id hd;obtain⟨ys,rfl,h2⟩:=id he;have hp:=pr xs ys hd he (zap cd) (zap ce);exact⟨zer (zap cd) (zap ce) λp z=>(hp p z).1,zdz (zap cd) (zap ce) λp z=>(hp p z).1⟩
 | .fnil=>by
   refine⟨λd e hd he _ _=>?_,λxs ys hd _ _ _ p hp=>?_⟩
   ·have hd:d = .tuple []:=hd;have he:e = .tuple []:=he;subst hd he;exact⟨zer rfl rfl (λp z=>(Ze z).elim),zdz rfl rfl (λp z=>(Ze z).elim)⟩
   ·have hd:PyData.tuple xs = .tuple []:=hd;cases hd;cases hp
 | .fcons a r=>by
   obtain⟨B,_⟩:=both a;obtain⟨_,C⟩:=both r
   have pr:∀ xs ys,zah (.fcons a r) (.tuple xs)->zah (.fcons a r) (.tuple ys)->PyData.canLayAll0 xs=true->PyData.canLayAll0 ys=true->∀ p ∈ xs.zip ys,LtOk p.1 p.2/\zgj p.1 p.2:=λxs ys ⟨x,xs',e1,h1,g1⟩ ⟨y,ys',e2,h2,g2⟩ c1 c2 p hp=>by
    cases e1;cases e2;simp only[PyData.canLayAll0,Q5] at c1 c2;rw[Jm] at hp;rcases Qs.mp hp with rfl|hp
    ·exact B x y h1 h2 c1.1 c2.1
    ·exact C xs' ys' g1 g2 c1.2 c2.2 p hp
   refine⟨λd e hd he cd ce=>?_,pr⟩;obtain⟨x,xs,rfl,h1,g1⟩:=id hd;obtain⟨y,ys,rfl,h2,g2⟩:=id he;have hp:=pr _ _ hd he (zap cd) (zap ce);exact⟨zer (zap cd) (zap ce) λp z=>(hp p z).1,zdz (zap cd) (zap ce) λp z=>(hp p z).1⟩
section
variable {prog : Vf} {w : Vk} {A : Vl} {E : Vb → Vc → Prop} {s : Vc}
theorem zl2{b fin:Bool}{Q:Bool->Vc->Prop}:∀ (vs us:List Vb) (xs ys:List Ve) (as bs:List Addr) (i:Nat),Ud s.heap vs xs as->Ud s.heap us ys bs->PyData.canLayAll0 xs=true->PyData.canLayAll0 ys=true->(∀ p ∈ xs.zip ys,zgj p.1 p.2)->A.units+PyData.depthAll xs+2<cLine->fin=decide (xs.length<ys.length)->Q (dlts xs ys) s->KatLex prog w A b fin Q (vs.zip us) i s
 | [],us,xs,ys,as,bs,i,r1,r2,_,_,_,_,hf,h=>by
   cases r1;rw[YS];refine kat_nil ?_
   cases ys with
   | nil=>rw[hf];exact h
   | cons y ys=>rw[hf];exact h
 | v::vs,[],xs,ys,as,bs,i,r1,r2,_,_,_,_,hf,h=>by
   cases r2;rw[YH];refine kat_nil ?_;obtain⟨d,ds',a,b',rfl,_,_⟩:=zde r1;rw[hf];exact h
 | v::vs,u::us,xs,ys,as,bs,i,r1,r2,c1,c2,hp,hu,hf,h=>by
   obtain⟨d,ds,a1,b1,rfl,q1,t1⟩:=zde r1;obtain⟨e,es,a2,b2,rfl,q2,t2⟩:=zde r2;simp only[PyData.canLayAll0,Q5] at c1 c2;rw[PyData.depthAll] at hu;rw[Jm];rw[dlts] at h;refine kat_cons (SeqAt.eqBoolOverData _ _ _ _ _ _ _ d e _ _ _ q1 q2 c1.1 c2.1 (by omega) ?_)
   cases he:PyData.eqv d e with
   | true =>
     rw[he,GQ rfl] at h;refine kat_yes (zl2 vs us ds es b1 b2 (i+1) t1 t2 c1.2 c2.2 (λp z=>hp p (Qb _ z)) (by omega) ?_ h);rw[hf];simp
   | false =>
     rw[he,GT Ql] at h;exact kat_no (hp (d,e) (by simp) prog w A _ s v u a1 a2 _ _ q1 q2 (by show A.units+d.depth+2<cLine;omega) h)
def tyS:Sh->String
 | .n => "int"
 | .t => "str"
 | _ => "tuple"
def hdS:Sh->Sh
 | .arr s=>s
 | .fcons a _=>a
 | s=>s
theorem z2z:∀ {σ:Sh} {x:Ve} {xs:List Ve},zah σ (.tuple (x::xs))->zah (hdS σ) x
 | .n,_,_,⟨_,e⟩=>by cases e
 | .t,_,_,⟨_,e⟩=>by cases e
 | .arr s,_,_,⟨_,e,h⟩=>by cases e;exact h _ (by simp)
 | .fnil,_,_,e=>by
   have e:PyData.tuple _=PyData.tuple []:=e;cases e
 | .fcons a r,_,_,⟨_,_,e,h,_⟩=>by cases e;exact h
theorem ze0{M:Gy}{h:Heap}{b:Addr}{o:Obj}(h1:h.get? b=some o)(h2:o.cls = .type "tuple"):Looks M h (GC (.ref b)) (.type "tuple"):=by
 have:=(show Looks M h (GC (.ref b)) o.cls from(Looks.ld h1).andThen .now);rw[h2] at this;exact this
theorem zxf{M:Gy}{h:Heap}:∀ {σ:Sh} {d:Ve} {v:Vb} {as:List Addr},zah σ d->U0 h v d as->Looks M h (GC v) (.type (tyS σ))
 | .n,_,_,_,⟨_,e⟩,r=>by subst e;cases r;exact .now
 | .t,_,_,_,⟨_,e⟩,r=>by subst e;cases r;exact .now
 | .arr s,_,_,_,⟨_,e,_⟩,r=>by
   subst e
   cases r with
   | tuple h1 h2 h3 h4=>exact ze0 h1 h2
 | .fnil,_,_,_,e,r=>by
   have e:_=PyData.tuple []:=e;subst e
   cases r with
   | tuple h1 h2 h3 h4=>exact ze0 h1 h2
 | .fcons _ _,_,_,_,⟨_,_,e,_,_⟩,r=>by
   subst e
   cases r with
   | tuple h1 h2 h3 h4=>exact ze0 h1 h2
def TupS(σ:Sh)(h:Heap)(v:Vb):Prop:=∃ b ds as,v = .ref b/\U0 h (.ref b) (.tuple ds) as/\zah σ (.tuple ds)
theorem zki{M:Gy}{σ:Sh}:∀ (vs:List Vb),(∀ v ∈ vs,TupS σ s.heap v)->∃ fs:List (Option Vb),fs.length=vs.length/\(∀ f,some f ∈ fs->Looks M s.heap (GC f) (.type (tyS (hdS σ))))/\∀ (E:Vb->Vc->Prop) (Q:List (Option Vb)->Vc->Prop),Q fs s->wpAny M A (vs.mapM firstOfTuple') Q E s
 | [],_=>⟨[],rfl,(λf z=>(Ze z).elim),λE Q h=>by rw[List.mapM_nil];exact Vd h⟩
 | v::vs,h=>by
   obtain⟨fs,h1,h2,h3⟩:=zki (M:=M) vs λu z=>h u (Qb _ z);obtain⟨b,ds,as,rfl,r,hs⟩:=h v (by simp)
   cases r with
   | @tuple _ o items c _ _ k1 k2 k3 k4 =>
     refine⟨items[0]? :: fs,by simp[h1],λf z=>?_,λE Q q=>?_⟩
     ·rcases Qs.mp z with z|z
      ·cases hv:items.toList with
       | nil =>
         rw[<- QA,hv] at z;cases z
       | cons i its =>
         rw[hv] at k4;obtain⟨d,ds',a1,b1,rfl,q1,q2⟩:=zde k4;rw[<- QA,hv] at z;cases z;exact zxf (z2z hs) q1
      ·exact h2 f z
     ·rw[List.mapM_cons];refine Va ?_;rw[kas_first_eq];refine Va (Looks.here (show Looks M s.heap (GC (.ref b)) o.cls from(Looks.ld k1).andThen .now) ?_);rw[k2,GT (by first|decide|simp)];refine Va (UU k1 k3 (Vd ?_));exact Va (h3 _ _ (Vd q))
theorem zw2{M:Gy}{σ:Sh}{vs:List Vb}(h:∀ v ∈ vs,TupS σ s.heap v)(h2:2<=vs.length):∃ kd:VE,(kd=tuples' true\/kd=tuples' false\/kd=general'\/kd=GN)/\∀ (E:Vb->Vc->Prop) (Q:VE->Vc->Prop),Q kd s->wpAny M A (keyKind' vs.toArray) Q E s:=by
 obtain⟨fs,l1,l2,l3⟩:=zki (M:=M) (A:=A) vs h;have beqT:∀ T:Vb,(∃ x,T = .type x)->(T == T)=true:=λT ⟨x,e⟩=>by subst e;simp
 by_cases ha:fs.toArray.all (λx=>x.isSome)=true
 ·refine⟨tuples' (Value.type (tyS (hdS σ)) != Value.type "tuple"),?_,λE Q q=>?_⟩
  ·cases (Value.type (tyS (hdS σ)) != Value.type "tuple")
   ·exact .inr (.inl rfl)
   ·exact .inl rfl
  ·rw[GD,ZX,Tc];refine Va (Va (l3 _ _ (Vd ?_)));rw[GQ ha];refine Va (V1 ?_);have hfm:(fs.toArray.filterMap id)=(fs.filterMap id).toArray:=by simp
   have hlen:0<(fs.filterMap id).length:=by
    cases fs with
    | nil=>simp at l1;omega
    | cons f fr =>
      cases f with
      | none=>simp at ha
      | some f=>simp
   rw[hfm,oneTypeOnly'_eq,ZX,Tc];refine Va (Va (Va (kas_mapM (r:=Value.type (tyS (hdS σ))) _ (λv hv Q' hq=>(l2 v (by simpa using hv)).here hq) (Vd ?_))));generalize fs.filterMap id=gs at hlen ⊢
   obtain⟨g,gr,rfl⟩:∃ g gr,gs=g::gr:=by
    match gs,hlen with
    | g::gr,_=>exact⟨g,gr,rfl⟩
   have hall2:((JZ (λ_=>Value.type (tyS (hdS σ))) (g::gr)).toArray.all λx=>x == Value.type (tyS (hdS σ)))=true:=by
    simp only[jf,YT,ZN];intro _ _;exact beqT _ ⟨_,rfl⟩
   have h0:(JZ (λ_=>Value.type (tyS (hdS σ))) (g::gr)).toArray[0]? = some (Value.type (tyS (hdS σ))):=by simp
   rw[h0];simp only[hall2,Ta];exact Vd (Vd q)
 ·by_cases hf:(fs.toArray[0]?.bind id).isSome=true
  ·refine⟨general',.inr (.inr (.inl rfl)),λE Q q=>?_⟩;rw[GD,ZX,Tc];refine Va (Va (l3 _ _ (Vd ?_)));rw[GT ha,GQ hf];exact Vd q
  ·refine⟨GN,.inr (.inr (.inr rfl)),λE Q q=>?_⟩;rw[GD,ZX,Tc];refine Va (Va (l3 _ _ (Vd ?_)));rw[GT ha,GT hf];rw[oneTypeOnly'_eq,ZX,Tc];refine Va (Va (Va (kas_mapM (r:=Value.type "tuple") _ (λv hv Q' hq=>?_) (Vd ?_))))
   ·obtain⟨b,ds,as,rfl,r,hs⟩:=h v hv
    cases r with
    | tuple k1 k2 k3 k4 =>
      exact(ze0 k1 k2).here hq
   ·obtain⟨v₁,rest,rfl⟩:∃ v₁ rest,vs=v₁::rest:=by
     match vs,h2 with
     | v₁::rest,_=>exact⟨v₁,rest,rfl⟩
    have hall2:((JZ (λ_=>Value.type "tuple") (v₁::rest)).toArray.all λx=>x == Value.type "tuple")=true:=by
     simp only[jf,YT,ZN];intro _ _;exact beqT _ ⟨_,rfl⟩
    have h0:(JZ (λ_=>Value.type "tuple") (v₁::rest)).toArray[0]? = some (Value.type "tuple"):=by simp
    rw[h0];simp only[hall2,Ta];exact Vd (Vd q)
theorem zn6{σ:Sh}{kd:List Ve}{d0:Ve}(h0:zah σ d0)(h:∀ d ∈ kd,zah σ d)(i:Nat):zah σ (kd.getD i d0):=by
 rw[Qq]
 cases e:kd[i]? with
 | none=>exact h0
 | some d=>exact h d (Q6 e)
open L6 in
theorem zxk{σ:Sh}{kd:List Ve}{vs:List Vb}{d0:Ve}(h0:zah σ d0)(hs:∀ d ∈ kd,zah σ d)(hl:kd.length=vs.length)(la:∀ d ∈ kd,d.canLay0=true)(de:∀ d ∈ kd,d.depth<=8)(hu:A.units+12<cLine)
 (hk:∀ (i:Nat) v d,vs[i]? = some v->kd[i]? = some d->∃ b ds as,v = .ref b/\d = .tuple ds/\U0 s.heap (.ref b) d as):KeysOk prog w A s vs vs (λa b:{ d:Ve // zah σ d }=>dlt a.1 b.1) (λi=>⟨kd.getD i d0,zn6 h0 hs i⟩):=by
 have hk':∀ (i:Nat) v,vs[i]? = some v->∃ b ds as,v = .ref b/\kd.getD i d0 = .tuple ds /\ .tuple ds ∈ kd/\U0 s.heap (.ref b) (.tuple ds) as:=λi v e=>by
  have hi:i<kd.length:=by rw[hl];exact(Qi.mp e).1
  obtain⟨b,ds,as,e1,e2,r⟩:=hk i v kd[i] e (Qa hi);refine⟨b,ds,as,e1,?_,?_,by rw[<- e2];exact r⟩
  ·rw[Qq,Qa hi];exact e2
  ·rw[<- e2];exact Zc hi
 refine⟨zwz σ,λh2=>?_⟩
 obtain⟨kk,c,q⟩:=zw2 (M:=model prog w) (A:=A) (σ:=σ) (s:=s) (vs:=vs) (λv hv=>by
  obtain⟨i,hi⟩:=ZV.mp hv;obtain⟨b,ds,as,e1,_,e3,r⟩:=hk' i v hi
  exact⟨b,ds,as,e1,r,hs _ e3⟩) h2
 refine⟨kk,q,λi j x p y q' E Q hi hj h=>?_⟩;obtain⟨b,ds,as,rfl,g1,m1,r1⟩:=hk' i x (zch rfl hi).1;obtain⟨b2,ds2,as2,rfl,g2,m2,r2⟩:=hk' j y (zch rfl hj).1;dsimp only at h;rw[g1,g2] at h;have de1:=de _ m1;rw[PyData.depth] at de1;have hp:=(both σ).2 ds ds2 (hs _ m1) (hs _ m2) (zap (la _ m1)) (zap (la _ m2));have one:∀ b':Bool,wpAny (model prog w) A (oneLt' b' (.ref b) (.ref b2)) Q E s:=λb'=>zdz (zap (la _ m1)) (zap (la _ m2)) (λp z=>(hp p z).1) prog w A E s _ _ as as2 b' Q r1 r2 (by rw[PyData.depth];omega) h
 have lex:∀ b':Bool,wpAny (model prog w) A (keyLt' (tuples' b') (.ref b) (.ref b2)) Q E s:=λb'=>by
  cases r1 with
  | tuple k1 k2 k3 k4 =>
    cases r2 with
    | tuple l1 l2 l3 l4 =>
      refine kat_lt k1 k3 l1 l3 (zl2 _ _ ds ds2 _ _ 0 k4 l4 (zap (la _ m1)) (zap (la _ m2)) (λp z=>(hp p z).2) (by omega) ?_ h);have z1:=SeqAt.ReadsAll.length _ _ _ k4;have z2:=SeqAt.ReadsAll.length _ _ _ l4;simp at z1 z2;rw[z1,z2]
 rcases c with rfl|rfl|rfl|rfl
 ·exact lex true
 ·exact lex false
 ·exact one false
 ·exact one true
end
end HK
namespace HK
open PySem PySem.Spec PyProof.Rows PySem.SetTable SX
abbrev zpx(h h':Heap):Prop:=∀ b o xs n,h.get? b=some o->o.data = .seq xs n->h'.get? b=some o
theorem zfg{h h':Heap}(F:Ve->Prop)(hF:∀ d,F d->∀ v as,U0 h v d as->U0 h' v d as):∀ {vs:List Vb} {ds:List Ve} {as:List Addr},(∀ d ∈ ds,F d)->Ud h vs ds as->Ud h' vs ds as
 | [],_,_,hd,r=>by cases r;exact .nil
 | v::vs,_,_,hd,r=>by
   cases r with
   | cons r1 r2=>exact .cons (hF _ (hd _ (by simp)) _ _ r1) (zfg F hF (λd z=>hd d (Qb _ z)) r2)
theorem zp1{h h':Heap}(K:zpx h h'):∀ (n:Nat) (d:Ve),d.depth<=n->hk d=true->∀ v as,U0 h v d as->U0 h' v d as:=by
 intro n
 induction n with
 | zero =>
   intro d hd hk' v as r
   cases r with
   | int i t=>exact .int i t
   | str x t=>exact .str x t
   | tuple _ _ _ _=>simp[PyData.depth] at hd
   | _=>simp[hk] at hk'
 | succ n ih =>
   intro d hd hk' v as r
   cases r with
   | int i t=>exact .int i t
   | str x t=>exact .str x t
   | @tuple a o vs c ds as ho hc hdt hr =>
     have hds:hks ds=true:=by simpa[hk] using hk'
     rw[PyData.depth] at hd;exact .tuple (K a o vs c ho hdt) hc hdt (zfg (λd=>d ∈ ds) (λd z v as r=>ih d (by have:=znh z;omega) (zoq hds d z) v as r) (λd z=>z) hr)
   | _=>simp[hk] at hk'
structure TupK (k:Ve):Prop where
 tu:∃ ds,k = .tuple ds
 ha:hk k=true
 la:k.canLay0=true
 de:k.depth<=8
 tx:bv k=true->k = .tuple []
theorem TupK.keep{h h':Heap}{k:Ve}{v:Vb}{as:List Addr}(hk':TupK k)(K:zpx h h')(r:U0 h v k as):U0 h' v k as:=zp1 K 8 k hk'.de hk'.ha v as r
end HK
namespace HK
open PySem PySem.Spec PyProof.Rows SX L6
section
variable {prog : Vf} {w : Vk} {A : Vl} {E : Vb → Vc → Prop} {s : Vc}
abbrev zf5(h:Heap)(a:Addr)(vs:List Vb):Heap:=((h.update a (Obj.mapSeq λ_=>#[])).push (seqObj "tuple" vs.toArray 0)).push (seqObj "list" #[] 0)
theorem perm_map_inv{α β:Type}{f:α->β}:∀ {vs:List β} {l:List α},vs.Perm (l.map f)->∃ l':List α,l'.Perm l/\l'.map f=vs
 | [],l,h=>by
   have:=h.length_eq;simp at this;exact⟨[],by rw[Yc.mp this.symm],rfl⟩
 | v::vs,l,h=>by
   obtain⟨x,hx,rfl⟩:=Qp.mp (h.mem_iff.mp (Qt));obtain⟨l1,l2,rfl⟩:=List.append_of_mem hx;rw[Qy,Qn] at h;have h':=(h.trans Yd).cons_inv;rw[<- Qy] at h';obtain⟨l',a,b⟩:=perm_map_inv h';exact⟨x::l',(a.cons x).trans Yd.symm,by rw[Qn,b]⟩
end
end HK
namespace L3
open PySem PySem.Spec
open PyProof.Rows hiding St
open L2 SX HK
theorem zjy:∀ (qs:List (Addr × Ve)),Vals (qs.map λq=>V.ref q.1) (qs.map λq=>Value.ref q.1)
 | [] => .nil
 | b::bs => .cons rfl (zjy bs)
theorem zl7{K:PySem.W.Frag}{F:Addr->Prop}{H:Hp}:∀ {qs:List (Addr × Ve)},(∀ q ∈ qs,Is K F H (.ref q.1) q.2)->IsAll K F H (qs.map λq=>V.ref q.1) (qs.map (·.2))
 | [],_ => .nil
 | q::qs,h => .cons (h q (by simp)) (zl7 λr z=>h r (Qb _ z))
end L3
namespace L6
open PySem PyProof.Rows
section
variable {prog : Vf} {w : Vk} {A : Vl} {E : Vb → Vc → Prop} {s : Vc}
theorem zuq{α:Type}{blt:α->α->Bool}{k:Nat->α}{a kS:Addr}{ks vs:List Vb}{e ea:Nat}{P:PySem.Fin->Vc->Prop}(hl:ks.length=vs.length)(h64:vs.length<=1000000)
 (hk:s.heap.get? kS=some (seqObj "list" ks.toArray e)) (ha:s.heap.get? a=some (seqObj "list" #[] ea)) (hne:kS ≠ a) (K:KeysOk prog w A s ks vs blt k)
 (h:∀ ix,Ord blt k vs.length ix->P (.done (.ret .none)) { s with heap:=(s.heap.update kS (Obj.mapSeq λ_=>#[])).update a (Obj.mapSeq λ_=>(zbj vs ix).toArray) }) :
 wpAny (model prog w) A (ksk_end a false vs.toArray ea (.ref kS) ks.toArray) P E s:=by
 have hz:(ks.toArray.zip vs.toArray).size=vs.length:=by simp[hl]
 have ha2:(s.heap.update kS (Obj.mapSeq λ_=>#[])).get? a=some (seqObj "list" #[] ea):=by
  have:=Uf hk (λ_=>#[]);rw[Heap.get?_update_ne _ _ _ _ (Zj hne)];exact ha
 have fin:∀ (st':Vt) ix,(arrOf st').size=vs.length->(∀ i,i<vs.length->(arrOf st')[i]? = (ks.toArray.zip vs.toArray)[ix i]?)->VF st'=none->Ord blt k vs.length ix ->
  wpAny (model prog w) A (ksk_tail a false ea (.ref kS) st') P E s:=λst' ix z1 z2 z3 o=>by
  have ep:=zom hl o.bj z1 z2;unfold ksk_tail;dsimp only;refine Va (VW hk rfl ?_ (by rw[Vj];simp;omega));refine Va (wpAny_letGo ?_);refine Va (Go ha2 rfl ?_)
  refine Va (VW ha2 rfl ?_ (hsz2:=by
   rw[Vj];simp only[Q8,GX];rw[ep];simp[zbj]
   omega))
  rw[z3];simp only[bne_self_eq_false,Q8,GX];rw[ep];exact Vd (h ix o)
 unfold ksk_end;dsimp only;simp only[Q8,GX]
 by_cases h2:vs.toArray.size<2
 ·rw[GQ h2,GQ h2];refine Va (Vd ?_);rw[jo];refine Va (Vd ?_);have h2':vs.length<2:=by simpa using h2
  refine fin _ (λi=>i) hz (λi _=>rfl) rfl ⟨Bij.idf,λi j z1 z2=>by omega⟩
 ·rw[GT h2,GT h2];have h2':2<=vs.length:=by simpa using h2
  obtain⟨kd,kk,cm⟩:=K.kd h2';refine Va (kk _ _ ?_)
  refine Va (V0 (zk3 (kd:=kd) (st:=ju kd (ks.toArray.zip vs.toArray) #[] 7 none) (Q:=λ_ st'=>∃ ix,(arrOf st').size=vs.length/\(∀ i,i<vs.length->(arrOf st')[i]? = (ks.toArray.zip vs.toArray)[ix i]?)/\VF st'=none/\Ord blt k vs.length ix)
   K.wo cm ⟨rfl,λi _=>rfl,Bij.idf,rfl,rfl,rfl⟩ (by omega) λix st' z1 z2 z3 z4 z5=>?_) ?_ λ_ _ e=>e)
  ·rw[hz] at z1 z2 z3 z5;exact⟨ix,z1,z2,z4,z3,z5⟩
  ·rintro⟨⟨⟩,st'⟩ s' ⟨rfl,ix,z1,z2,z3,z4⟩;exact fin st' ix z1 z2 z3 z4
theorem zrl{f:Vb}{a kS:Addr}{vs:List Vb}{ea:Nat}{P:PySem.Fin->Vc->Prop}(J:Nat->List Vb->Vc->Prop)(h64:vs.length<=1000000)(h0:J 0 [] s)
 (step:∀ (i:Nat) (x:Vb) (ks:List Vb) (s':Vc),vs[i]? = some x->ks.length=i->J i ks s'->wpAny (model prog w) A (call f [x]) (λkv s2=>(∃ e,s2.heap.get? kS=some (seqObj "list" ks.toArray e))/\J (i+1) (ks ++ [kv]) { s2 with heap:=s2.heap.update kS (Obj.mapSeq (·.push kv)) }) (λ_ _=>False) s')
 (fin:∀ (ks:List Vb) (s':Vc),ks.length=vs.length->J vs.length ks s'->∃ (α:Type) (blt:α->α->Bool) (k:Nat->α) (e:Nat),s'.heap.get? kS=some (seqObj "list" ks.toArray e)/\s'.heap.get? a=some (seqObj "list" #[] ea)/\kS ≠ a/\KeysOk prog w A s' ks vs blt k /\
  ∀ ix,Ord blt k vs.length ix->P (.done (.ret .none)) { s' with heap:=(s'.heap.update kS (Obj.mapSeq λ_=>#[])).update a (Obj.mapSeq λ_=>(zbj vs ix).toArray) }) :
 wpAny (model prog w) A (ksk_rest a f false vs.toArray ea (.ref kS)) P E s:=by
 unfold ksk_rest;refine Va (V1 ?_);refine Va ?_;rw[<- Array.forIn_toList];refine ksk_fold (λi s'=>∃ ks,ks.length=i/\J i ks s') vs 0 s ⟨[],rfl,h0⟩ (λj x s' hx ⟨ks,hk,hJ⟩=>?_) λs' ⟨ks,hk,hJ⟩=>?_
 ·rw[Je] at hk hJ ⊢;have hj:j<vs.length:=(Qi.mp hx).1;refine Va (VD (V0 (step j x ks s' hx hk hJ) (λkv s2 ⟨⟨e,h1⟩,h2⟩=>?_) λ_ _ z=>z.elim));dsimp only;refine Va (VW h1 rfl ?_ (by rw[Vj];simp;omega) (by rw[Vj];simp;omega));exact Vd ⟨rfl,ks ++ [kv],by simp[hk],h2⟩
 ·rw[Je] at hk hJ;obtain⟨α,blt,k,e,h1,h2,h3,h4,h5⟩:=fin ks s' hk hJ;refine Va (UU h1 rfl ?_);exact zuq hk h64 h1 h2 h3 h4 h5
end
end L6
namespace HK
open PySem PySem.Spec PyProof.Rows SX L6
section
variable {prog : Vf} {w : Vk} {A : Vl} {E : Vb → Vc → Prop} {s : Vc}
theorem zg7{α:Type}{blt:α->α->Bool}{k:Nat->α}{a:Addr}{vs:List Vb}{n:Nat}{P:PySem.Fin->Vc->Prop}(ho:s.heap.get? a=some (seqObj "list" vs.toArray n))(h64:vs.length<=1000000)(K:KeysOk prog w A { s with heap:=zf5 s.heap a vs } vs vs blt k)
 (h:∀ ix,Ord blt k vs.length ix->P (.done (.ret .none)) { s with heap:=G4 s.heap a vs (zbj vs ix).toArray }):wpAny (model prog w) A (Builtin.«list.sort» ⟨[.ref a],[]⟩) P E s:=by
 rw[list_sort_plain];have ha:a<s.heap.objs.size:=Heap.lt_size ho;refine Va (UU ho rfl ?_);refine Va (VW ho rfl ?_);obtain⟨e1,ho1⟩:∃ e1,(s.heap.update a (Obj.mapSeq λ_=>#[])).get? a=some (seqObj "list" #[] e1):=⟨_,Uf ho (λ_=>#[])⟩;refine Va (Go ho1 rfl ?_);refine Va (UA ?_);refine Va (Uz ?_);refine Vr ?_
 have ho6:(zf5 s.heap a vs).get? a=some (seqObj "list" #[] e1):=by
  rw[Heap.get?_push_ne _ _ _ (by rw[Uh,Heap.size_update];exact Qm (QI ha)),Heap.get?_push_ne _ _ _ (by rw[Heap.size_update];exact Qm ha)];exact ho1
 show wpAny (model prog w) A _ P E { s with heap:=zf5 s.heap a vs };dsimp only;have hz:(vs.toArray.zip vs.toArray).size=vs.length:=by simp
 have fin:∀ (st':Vt) ix,(arrOf st').size=vs.length->(∀ i,i<vs.length->(arrOf st')[i]? = (vs.toArray.zip vs.toArray)[ix i]?)->VF st'=none->Ord blt k vs.length ix ->
  wpAny (model prog w) A (do
   let touched:=(<- seqEpoch a) != e1
   Builtin.List.listUpdate (.ref a) λ_=>(arrOf st').map (·.2)
   if let some e:=VF st' then rule "list.sort.comparison-raised"; throw e
   if touched then rule "list.sort.modified"; raiseError "ValueError" "list modified during sort"
   ret .none) P E { s with heap:=zf5 s.heap a vs }:=λst' ix z1 z2 z3 o=>by
  have ep:=zom rfl o.bj z1 z2;refine Va (Go ho6 rfl ?_)
  refine Va (VW ho6 rfl ?_ (hsz2:=by
   rw[Vj,ep];simp[zbj]
   omega))
  rw[z3];simp only[bne_self_eq_false,Q8,GX];rw[ep];exact Vd (h ix o)
 by_cases h2:vs.toArray.size<2
 ·rw[GQ h2,GQ h2];refine Va (Vd ?_);rw[jo];refine Va (Vd ?_);have h2':vs.length<2:=by simpa using h2
  exact fin (ju general' (vs.toArray.zip vs.toArray) #[] 7 none) (λi=>i) hz (λi _=>rfl) rfl ⟨Bij.idf,λi j z1 z2=>by omega⟩
 ·rw[GT h2,GT h2];have h2':2<=vs.length:=by simpa using h2
  obtain⟨kd,kk,cm⟩:=K.kd h2';refine Va (kk _ _ ?_)
  refine Va (V0 (zk3 (kd:=kd) (st:=ju kd (vs.toArray.zip vs.toArray) #[] 7 none) (Q:=λ_ st'=>∃ ix,(arrOf st').size=vs.length/\(∀ i,i<vs.length->(arrOf st')[i]? = (vs.toArray.zip vs.toArray)[ix i]?)/\VF st'=none/\Ord blt k vs.length ix)
   K.wo cm ⟨rfl,λi _=>rfl,Bij.idf,rfl,rfl,rfl⟩ (by omega) λix st' z1 z2 z3 z4 z5=>?_) ?_ λ_ _ e=>e)
  ·rw[hz] at z1 z2 z3 z5;exact⟨ix,z1,z2,z4,z3,z5⟩
  ·rintro⟨⟨⟩,st'⟩ s' ⟨rfl,ix,z1,z2,z3,z4⟩;exact fin st' ix z1 z2 z3 z4
end
end HK
namespace L6
open PySem PySem.Spec PyProof.Rows
theorem Ord.perm{α β:Type}{blt:α->α->Bool}{k:Nat->α}{n:Nat}{ix:Nat->Nat}(o:Ord blt k n ix){d:β}{l:List β}(hl:l.length=n):((Qx n).map λi=>l.getD (ix i) d).Perm l:=by
 have p:((Qx n).map ix).Perm (Qx n):=by
  refine(List.perm_ext_iff_of_nodup ?_ je).mpr λx=>?_
  ·refine QR.mpr λi j h1 h2 hij e=>?_;simp only[jg,Zo] at e;simp only[Qe,QF] at h1 h2;have:=o.bj.inj i j h1 h2 e;omega
  ·rw[Qp,QK];constructor
   ·rintro⟨i,hi,rfl⟩;exact o.bj.lt i (QK.mp hi)
   ·intro hx;obtain⟨i,hi,e⟩:=o.bj.sur x hx;exact⟨i,QK.mpr hi,e⟩
 have q:=p.map λi=>l.getD i d;rw[QG] at q
 have e:((Qx n).map λi=>l.getD i d)=l:=by
  refine JY (by simp[hl]) λi h1 h2=>?_;simp[QX,Qa h2]
 rw[e] at q;exact q
theorem zj5:∀ {r:List Str} {p:Str},(p::r).Pairwise (λx y=>¬ y.cps.toList<x.cps.toList)->risingS p r=true
 | [],p,_=>rfl
 | x::r,p,h=>by
   have c:=ZH.mp h
   have:ltCps x.cps.toList p.cps.toList=false:=by
    cases e:ltCps x.cps.toList p.cps.toList with
    | false=>rfl
    | true=>rw[ltCps_eq] at e;exact absurd (GV e) (c.1 x (by simp))
   show(!ltCps x.cps.toList p.cps.toList && risingS x r)=true;rw[this,zj5 c.2];rfl
theorem zq7{l:List Str}(h:l.Pairwise λx y=>¬ y.cps.toList<x.cps.toList):UV l=true:=by
 cases l with
 | nil=>rfl
 | cons x r=>exact zj5 h
end L6
namespace HK
open PySem PySem.Spec PyProof.Rows SX L6
section
variable {prog : Vf} {w : Vk} {A : Vl} {E : Vb → Vc → Prop} {s : Vc}
theorem sort_strA{a:Addr}{vs:List Vb}{ss:List Str}{n:Nat}{P:PySem.Fin->Vc->Prop}(ho:s.heap.get? a=some (seqObj "list" vs.toArray n))(hS:UO vs ss)(h64:vs.length<=1000000)
 (h:∀ (out:Array Vb) (zs:List Str),UO out.toList zs->zs.Perm ss->UV zs=true->P (.done (.ret .none)) { s with heap:=G4 s.heap a vs out }):wpAny (model prog w) A (Builtin.«list.sort» ⟨[.ref a],[]⟩) P E s:=by
 have ln:=StrsAre.length hS;refine zg7 ho h64 (zls (xs:=ss) rfl λi v hv=>?_) λix o=>?_
 ·obtain⟨y,t,rfl,hy⟩:=hS.item i v hv;exact⟨t,by rw[Qq,hy];rfl⟩
 ·refine h _ ((Qx vs.length).map λi=>ss.getD (ix i) Str.empty) ?_ (o.perm ln.symm) (zq7 ?_)
  ·have go:∀ l:List Nat,(∀ i ∈ l,i<vs.length)->UO (l.map λi=>vs.getD (ix i) .none) (l.map λi=>ss.getD (ix i) Str.empty):=by
    intro l
    induction l with
    | nil=>intro _;exact .nil
    | cons i l ih =>
      intro hl;have hx:=o.bj.lt i (hl i (by simp));obtain⟨t,ht⟩:=hS.get (ix i) (ss[ix i]'(by omega)) (Qa (by omega));rw[Qn,Qn,Qq,Qq,ht,Qa (show ix i<ss.length by omega)];exact .cons _ t (ih λj hj=>hl j (by simp[hj]))
   exact go _ λi hi=>QK.mp hi
  ·refine QR.mpr λi j h1 h2 hij=>?_;simp only[Qe,QF] at h1 h2;simp only[jg,Zo];rcases o.up i j hij h2 with z|⟨z,_⟩
   ·exact λz'=>absurd (J2 (GV z) z') (Ja _)
   ·exact of_decide_eq_false z
end
end HK
namespace L3
open PySem PySem.Spec
open PyProof.Rows hiding St
open L2 L6
def zpr:List Ve->(R->Prop)->Prop:=λds Q=>∃ less more:List Nat,ds = [tS less,tS more]/\Sml less/\Sml more/\Q (.o (.bool (under less more)))
abbrev zor:=zpr
end L3
namespace SX
open PySem PySem.Spec PyProof.Rows
section
variable {P : Vf} {w : Vk} {A : Vl} {E : Vb → Vc → Prop} {s : Vc} {it S : Addr} {es : Es} {ep : Nat} {t : V2}
theorem zm5{Q:Vb->Vc->Prop}(hh:A.handled=none)(T:Tx P w s.heap S es ep t)(h64:es.size<=1000000)
 (k:∀ (h':Heap) (d':Drawn) (tk:Nat) (out:Array Vb) (c:Nat) (zs:List Str) (l:Addr),Ext s.heap h'->s.heap.objs.size<=l->h'.get? l=some (seqObj "list" out c)->UO out.toList zs->zs.Perm (keys es)->UV zs=true->Q (.ref l) { s with heap:=h',drawn:=d',toks:=tk }) :
 wpAny (model P w) A (call (.builtin "sorted") [.ref S]) Q E s:=by
 refine Calls.call_function_entry GE GA G9 (args_sorted1 _) ?_;unfold Builtin.«sorted»;refine Va (m:=checkCount "sorted" 1 1 _) (Vd ?_);refine Va (zm8 (by simpa using hh) T.toSx λh' d' tk vs ex hp hl=>?_);have v64:vs.length<=1000000:=by rw[hp.length_eq];simpa using h64
 refine Va (Uz ?_ (by rw[Vj];omega))
 have hS:UO vs (vs.map strOf):=znw λv z=>by
  obtain⟨e,he,rfl⟩:=Qp.mp (hp.mem_iff.mp z);obtain⟨⟨x,hx,_⟩,_⟩:=T.el e he;obtain⟨u,hu⟩:=Value.isStrOf_shape hx;exact⟨x,u,hu⟩
 have eL:(h'.push (seqObj "list" vs.toArray 0)).get? h'.objs.size=some (seqObj "list" vs.toArray 0):=Heap.get?_push_size _ rfl;refine Va (Vr (Vn Gq ⟨_,eL,rfl⟩ Gd (HK.sort_strA (s:={ s with heap:=h'.push (seqObj "list" vs.toArray 0),drawn:=d',toks:=tk }) eL hS v64 λout zs z1 z2 z3=>⟨_,rfl,?_⟩) (args_list_sort _)));obtain⟨c,ec⟩:=sortedHeap_at (out:=out) eL;refine Vd ⟨_,rfl,k _ d' tk _ c zs h'.objs.size (λb o e=>?_) (Jc hl) ec z1 ?_ z3⟩
 ·have eb:=ex b o e;have nb:b ≠ h'.objs.size:=Qm (Heap.lt_size eb);show(G4 (h'.push (seqObj "list" vs.toArray 0)) h'.objs.size vs _).get? b=_;rw[sortedHeap_old nb (by rw[Uh];exact QI (Heap.lt_size eb))];exact Heap.get?_push_of_some _ eb
 ·refine z2.trans ?_;have:=hp.map strOf;rw[QG] at this;exact this
end
end SX
namespace L3
open PySem PySem.Spec
open PyProof.Rows hiding St
open L2 L6
open SX
def tSSA(K:PySem.W.Frag)(te:TE):TE:=λσ H Q=>te σ H λv H1=>∃ ys:List Str,TxsV K H1 v ys/\ys.length<=4090/\∀ (zs:List Str) p,zs.Nodup->(∀ k,k ∈ zs↔k ∈ ys)->UV zs=true->H1 p=none->Q (.ref p) (upd H1 p (.lst (zs.map V.str)))
theorem zm1{X:Cx}{e:Expr}{te:TE}{p1 p2 p3 p4:Pos}(hc:X.calm=true)(gl:Gl X "sorted")(ml:X.mg "sorted" = none)(gr:Gl X "set")(mr:X.mg "set" = none)(he:PE X e te)
 (s1:Vg [.Call (.Name "set" p2) [e] [] p3] X.env=(false,eval (.Call (.Name "set" p2) [e] [] p3) X.env)::Vg [] X.env:=by rfl) (s2:Vg [e] X.env=(false,eval e X.env)::Vg [] X.env:=by rfl) :
 PE X (.Call (.Name "sorted" p1) [.Call (.Name "set" p2) [e] [] p3] [] p4) (tSSA X.K te):=by
 intro pins s σ H Q I h;have calm:=I.ok.hd hc;refine Vz (zb6 I gl ml zdv ?_);refine Jx ?_ s1;rw[s1];show wpAny _ _ (UF ((false,eval (.Call (.Name "set" p2) [e] [] p3) X.env) :: [])) _ _ s;refine Calls.spliced_cons ?_;refine Vz (zb6 I gr mr (u := .type "set") rfl ?_);refine QT ?_ s2;rw[s2];show wpAny _ _ (UF ((false,eval e X.env) :: [])) _ _ s;refine Calls.spliced_cons (thn (he pins s σ H _ I h) λu s' ⟨y,H1,I1,r1,ys,hy,hz,q⟩=>?_);refine Calls.spliced_nil ?_
 have fin:∀ (n:Nat) (val:Nat->Str) (h':Heap) (tk:Nat) (es:Es) (ep:Nat) (t:V2),(∀ k,(∃ j,j<n/\val j=k)↔k ∈ ys)->Tx X.prog X.w h' s'.heap.objs.size es ep t->(∀ x,x ∈ keys es↔∃ j,j<n/\val j=x)->Ext s'.heap h' ->
  wpAny (model X.prog X.w) X.A (UF []) (λa s₁=>wpAny (model X.prog X.w) X.A (call (.builtin "sorted") (Value.ref s'.heap.objs.size::a)) (EP X pins σ Q) X.xe s₁) X.xe { s' with heap:=h',toks:=tk }:=λn val h' tk es ep t hv T hk ex=>by
  have mem:∀ k,k ∈ keys es↔k ∈ ys:=λk=>(hk k).trans (hv k)
  have z64:es.size<=1000000:=by
   have:=zjv T.nd (λk hk=>(mem k).mp hk);simp[keys] at this;omega
  refine Calls.spliced_nil ?_;refine zm5 (s:={ s' with heap:=h',toks:=tk }) calm T z64 λh2 d2 tk2 out c zs l ex2 hl el st zp zs'=>?_;have lt':s'.heap.objs.size<=l:=QH (Jc (T.lts (s:={ s' with heap:=h',toks:=tk }))) hl;have I2:=(Inv.draw (I1.laid (a:=l) (o := .lst (zs.map V.str)) (t':=tk2) (h':=h2) (λb o e=>ex2 b o (ex b o e)) lt' ?_) d2)
  ·exact⟨.ref l,_,I2,rfl,q zs l (zp.nodup_iff.mpr T.nd) (λk=>by rw[zp.mem_iff];exact mem k) zs' (I1.hok.fresh lt')⟩
  ·refine⟨?_,out.toList,c,zdn st,by simpa using el⟩;rw[Qe,zp.length_eq];simp only[keys,Qe,QE];exact Ur T.lt
 rcases hy with ⟨x,rfl,rfl⟩|⟨a,rfl,hq⟩
 ·obtain⟨tk,rfl⟩:=r1;have hn:x.cps.size<=4090:=by simpa using hz
  refine zkb (T := "str") (val:=λi=>sg (x.cps.getD i 0)) calm (λ_ _=>rfl) ?_ ?_ (by decide) (z0f x tk) (λi v hv=>?_) (by unfold scanBound;omega) λh' tk' es ep t T hk ex=>fin x.cps.size _ h' tk' es ep t (λk=>?_) T hk ex
  ·rw[Vy];kernel_rfl
  ·rw[Vy];kernel_rfl
  ·obtain⟨c,u,hc,rfl⟩:=hv;exact⟨u,by rw[JB,hc];rfl⟩
  ·constructor
   ·rintro⟨j,hj,rfl⟩;exact Qp.mpr ⟨x.cps[j],by simp,by simp[hj]⟩
   ·intro hk;obtain⟨c,hc,rfl⟩:=Qp.mp hk;obtain⟨j,hj,e⟩:=Ji hc;have hj':j<x.cps.size:=by simpa using hj
    exact⟨j,hj',by simp at e;simp[hj',e]⟩
 ·cases r1;obtain⟨its,rv,pl,hz2⟩:=I1.list hq;have sa:=ze1 rv;have ln:its.length=ys.length:=by have:=rv.length;simp at this;exact this.symm
  refine zkb (T := "list") (val:=λi=>ys.getD i (sg 0)) calm (λs₁ ex=>?_) F.sub_list_set F.sub_list_frozenset (by decide) (z1t pl.isList) (λi v hv=>?_) (by unfold scanBound;simp;omega) λh' tk' es ep t T hk ex=>fin _ _ h' tk' es ep t (λk=>?_) T hk ex
  ·obtain⟨o,e,c,_⟩:=pl.isList;exact⟨o,ex _ o e,c⟩
  ·have hv':its[i]? = some v:=by simpa using hv
   have hi:i<ys.length:=by
    obtain⟨z,_⟩:=Qi.mp hv';omega
   obtain⟨u,hu,ru⟩:=rv.get (i:=i) (x:=V.str ys[i]) (by rw[Qk,Qa hi];rfl);rw[hv'] at hu;cases hu;obtain⟨u,rfl⟩:=ru;exact⟨u,by rw[Qq,Qa hi];rfl⟩
  ·have e:its.toArray.size=ys.length:=by simpa using ln
   rw[e];constructor
   ·rintro⟨j,hj,rfl⟩;rw[Qq,Qa hj];exact Zc hj
   ·intro hk;obtain⟨j,hj,e⟩:=Ji hk;exact⟨j,hj,by rw[Qq,Qa hj];exact e⟩
end L3
namespace L6
open PySem PySem.Spec
open PyProof.Rows hiding St
open L2 L3
section
variable {X : Cx} {pins : List (Addr × Obj)} {σ : St} {H : Hp} {s : Vc}
def ziw(K:PySem.W.Frag)(sp:Sp)(ta:TE):TE:=λσ H Q=>ta σ H λv H1=>∃ p xs,v = .ref p/\H1 p=some (.lst xs)/\xs.length<=1000000 /\
 zk0 sp (λks H2=>∃ (α:Type) (blt:α->α->Bool) (k:Nat->α),KeysV K H2 ks α blt k/\∀ ix l,Ord blt k xs.length ix->H2 l=none->Q (.ref l) (upd H2 l (.lst (zew .non xs ix)))) xs [] H1
theorem zso{k:Nat}{f:Addr}{fd:VB}{y x:Str}{sp:Sp}{ta:TE}{a:Expr}{p px kp pos:Pos}(F:FnOk X.prog X.w X.K X.mg X.base CX0 k f fd [y] sp)(hr:Room (k+1) X.A)(hb:Binds X.K fd [y] [])(hg:Gl X "sorted")(hm:X.mg "sorted" = none)
 (hgx:Gl X x) (hmx:X.mg x=some (.ref f)) (ha:PE X a ta) (hdx:(x == ("__debug__" : Str))=false:=by decide) (hs:Vg [a] X.env = [(false,eval a X.env)]:=by rfl) :
 PE X (.Call (.Name "sorted" p) [a] [⟨some "key", .Name x px,kp⟩] pos) (ziw X.K sp ta):=by
 intro pins s σ H Q I h;refine Vz (zb6 I hg hm zdv ?_);refine callWith_kw ?_ (by rw[hs];rfl) (by rw[hs];rfl) rfl rfl;rw[hs];refine Calls.spliced_cons (thn (ha pins s σ H _ I h) λu s1 ⟨v,H1,I1,r1,q,xs,ev,hq,h64,go⟩=>?_);subst ev;obtain rfl:u=Value.ref q:=r1;refine Calls.spliced_nil ?_;refine kws_cons (zno I1 hgx hmx (kws_nil ?_) hdx);show wpAny (model X.prog X.w) X.A (call (.builtin "sorted") [.ref q] [(Str.ofString "key", .ref f)]) _ _ s1;obtain⟨hz,vs,n,rv,hlv,e1⟩:=I1.lstM hq;have hv64:vs.length<=1000000:=by omega
 refine call_function_entry_kw GE GA G9 (PyProof.Rows.ksk_s1 _ _) ?_;unfold Builtin.«sorted»;refine Va (m:=checkCount "sorted" 1 1 _) (Vd ?_);refine Va (collect_list ⟨_,e1,rfl,n,rfl⟩ ?_ (by rw[Vj];omega));refine Va (Uz ?_);generalize eh0:(s1.heap.push (seqObj "list" #[] 0)).update s1.heap.objs.size (Obj.mapSeq (· ++ vs.toArray))=h0;have sz0:h0.objs.size=s1.heap.objs.size+1:=by rw[<- eh0,Heap.size_update,Uh]
 have k0:∀ b u,s1.heap.get? b=some u->h0.get? b=some u:=λb u e=>by
  rw[<- eh0,Heap.get?_update_ne _ _ _ _ (Qm (Heap.lt_size e))];exact Heap.get?_push_of_some _ e
 have hoL:(h0.push (seqObj "list" vs.toArray 0)).get? h0.objs.size=some (seqObj "list" vs.toArray 0):=Heap.get?_push_size _ rfl;show wpAny (model X.prog X.w) X.A.in1 _ _ _ { s1 with heap:=h0.push (seqObj "list" vs.toArray 0) };refine Va (Vr (wpAny_call_entry_kw Gq ⟨_,hoL,rfl⟩ Gd ?_ (PyProof.Rows.ksk_l1 _ _)));rw[PyProof.Rows.ksk_t1];unfold PyProof.Rows.ksk_tree;refine Va (UU hoL rfl ?_);refine Va (VW hoL rfl ?_ (by rw[Vj];simp;omega));obtain⟨ea,ho1⟩:∃ ea,((h0.push (seqObj "list" vs.toArray 0)).update h0.objs.size (Obj.mapSeq λ_=>#[])).get? h0.objs.size=some (seqObj "list" #[] ea):=⟨_,Uf hoL (λ_=>#[])⟩;refine Va (Go ho1 rfl ?_);refine Va (UA ?_);refine Va (Uz ?_);refine Vr ?_;generalize eh2:(h0.push (seqObj "list" vs.toArray 0)).update h0.objs.size (Obj.mapSeq λ_=>#[])=h2 at ho1;have sz2:h2.objs.size=h0.objs.size+1:=by rw[<- eh2,Heap.size_update,Uh]
 have k2:∀ b u,s1.heap.get? b=some u->h2.get? b=some u:=λb u e=>by
  have:=k0 b u e;rw[<- eh2,Heap.get?_update_ne _ _ _ _ (Qm (Heap.lt_size this))];exact Heap.get?_push_of_some _ this
 -- the list that is sorted,the keys' list
 generalize eq2:h0.objs.size=q2 at ho1 hoL sz2 sz0;generalize eh3:h2.push (seqObj "tuple" vs.toArray 0)=h3;have sz3:h3.objs.size=q2+2:=by rw[<- eh3,Uh,sz2]
 have k3:∀ b u,h2.get? b=some u->(h3.push (seqObj "list" #[] 0)).get? b=some u:=λb u e=>by
  refine Heap.get?_push_of_some _ ?_;rw[<- eh3];exact Heap.get?_push_of_some _ e
 show wpAny (model X.prog X.w) X.A.in1.in1 (PyProof.Rows.ksk_rest q2 (.ref f) false vs.toArray ea (.ref h3.objs.size)) _ _ { s1 with heap:=h3.push (seqObj "list" #[] 0) };have fq:FpOk X pins H1 q2:=I1.fpOk (by omega) (I1.hok.fresh (by omega));have fk:FpOk X pins H1 h3.objs.size:=I1.fpOk (by omega) (I1.hok.fresh (by omega));have hne:h3.objs.size ≠ q2:=by omega
 have I2:Inv X pins σ H1 { s1 with heap:=h3.push (seqObj "list" #[] 0) }:=I1.kept (t':=s1.toks) λb u e=>k3 b u (k2 b u e);have oq:=k3 _ _ ho1;have ok:(h3.push (seqObj "list" #[] 0)).get? h3.objs.size=some (seqObj "list" #[] 0):=Heap.get?_push_size _ rfl;generalize h3.push (seqObj "list" #[] 0)=h4 at I2 oq ok ⊢;generalize h3.objs.size=kS at fk hne ok ⊢
 refine zrl (λi ks s'=>∃ (H':Hp) (kvs:List V) (e:Nat),Inv X pins σ H' s'/\H' q2=none/\H' kS=none/\s'.heap.get? q2=some (seqObj "list" #[] ea)/\s'.heap.get? kS=some (seqObj "list" ks.toArray e)/\Vals kvs ks /\
  zk0 sp (λks H2=>∃ (α:Type) (blt:α->α->Bool) (k:Nat->α),KeysV X.K H2 ks α blt k/\∀ ix l,Ord blt k xs.length ix->H2 l=none->Q (.ref l) (upd H2 l (.lst (zew .non xs ix)))) (xs.drop i) kvs H') hv64
  ⟨H1,[],0,I2,fq.1,fk.1,oq,ok,.nil,go⟩ (λi x ks s' hx hk ⟨H',kvs,e,I',n1,n2,o1,o2,rk,g⟩=>?_) λks s' hl ⟨H',kvs,e,I',n1,n2,o1,o2,rk,g⟩=>?_
 ·have hi:i<vs.length:=(Qi.mp hx).1;have hi':i<xs.length:=by omega
  obtain⟨u,hu,ru⟩:=Vals.get rv (Qa hi');rw[hx] at hu;cases hu;rw[QC hi'] at g
  have I3:Inv X (pins ++ [(q2,seqObj "list" #[] ea),(kS,seqObj "list" ks.toArray e)]) σ H' s':=I'.pins_of λp hp=>by
   rcases Qv.mp hp with hp|hp
   ·exact I'.pin p (Q2 _ hp)
   ·rcases Qs.mp hp with rfl|hp
    ·exact⟨o1,n1,fq.2.1,fq.2.2.1,λv z=>by cases z⟩
    ·rw[Qg.mp hp];exact⟨o2,n2,fk.2.1,fk.2.2.1,λv z=>by cases z⟩
  refine V0 (zyz F hr hb I3 (.cons ru .nil) g) (λkv s2 ⟨v,H'',I4,r4,g4⟩=>?_) λ_ _ z=>z;have p1:=I4.pin (q2,seqObj "list" #[] ea) (by simp);have p2:=I4.pin (kS,seqObj "list" ks.toArray e) (by simp);have I5:Inv X pins σ H'' s2:=I4.pins_of λp hp=>I4.pin p (by simp[hp])
  obtain⟨e',eu⟩:∃ e',(s2.heap.update kS (Obj.mapSeq (·.push kv))).get? kS=some (seqObj "list" (ks ++ [kv]).toArray e'):=by
   have z:=Uf p2.1 (λxs=>xs.push kv);have z2:ks.toArray.push kv=(ks ++ [kv]).toArray:=by simp
   exact⟨_,z.trans (Tb (λa=>some (seqObj "list" a _)) z2)⟩
  refine⟨⟨e,p2.1⟩,H'',kvs ++ [v],e',I5.turned (it:=kS) (t':=s2.toks) (λb o hb z=>by rw[Heap.get?_update_ne _ _ _ _ hb];exact z) p2.2.1 fk.2.1 fk.2.2.2.1 fk.2.2.2.2.1 fk.2.2.2.2.2,p1.2.1,p2.2.1,?_,eu,Vals.append rk (.cons r4 .nil),g4⟩;show(s2.heap.update kS _).get? q2=_;rw[Heap.get?_update_ne _ _ _ _ (Zj hne)];exact p1.1
 ·rw[<- hlv,QZ (Qc _)] at g;obtain⟨α,blt,k,kv,q⟩:=g;refine⟨α,blt,k,e,o2,o1,hne,zt5 I' kv rk hl,λix o=>⟨_,rfl,Vd ⟨_,rfl,?_⟩⟩⟩;have IA:=I'.turned (it:=kS) (t':=s'.toks) (h':=s'.heap.update kS (Obj.mapSeq λ_=>#[])) (λb o hb z=>by rw[Heap.get?_update_ne _ _ _ _ hb];exact z) n2 fk.2.1 fk.2.2.2.1 fk.2.2.2.2.1 fk.2.2.2.2.2
  have oA:(s'.heap.update kS (Obj.mapSeq λ_=>#[])).get? q2=some (seqObj "list" #[] ea):=by
   rw[Heap.get?_update_ne _ _ _ _ (Zj hne)];exact o1
  refine⟨.ref q2,upd H' q2 (.lst (zew .non xs ix)),IA.adopt (t':=s'.toks) ⟨n1,fq.2⟩ (λb u hb z=>by rw[Heap.get?_update_ne _ _ _ _ hb];exact z) ?_,rfl,q ix q2 (by rw[hlv];exact o) n1⟩;refine⟨by unfold zew;rw[Qe,QF];exact hz,zbj vs ix,_,Vals.pick rv o.bj,Uf oA _⟩
end
end L6
namespace L3
open PySem PySem.Spec
open PyProof.Rows hiding St
open L2 L6
section
variable {K : PySem.W.Frag} {O : Ob}
def znr(F:List Ve->(R->Prop)->Prop)(f:DE):DE:=λρ Q=>f ρ λr=>∃ (ds:List Ve) (kf:Ve->Int × Str),r.d = .list ds/\ds.length<=1000000/\(∀ d ∈ ds,F [d] λr=>r.d = .tuple [.int (kf d).1,.str (kf d).2])/\Q (.n (zel kf ds))
theorem zsc{φ:Ob->Prop}{F:List Ve->(R->Prop)->Prop}{te:TE}{f:DE}(hφ:φ O)(h:ED K O te f):ED K O (ziw K (spO K φ 1 F) te) (znr F f):=λσ H ρ Q Qd S hf k=>by
 refine h σ H ρ _ _ S hf λv H1 r s1 o1 ⟨ds,kf,e,hl,hF,q⟩=>?_;have i:=o1.is S.ok S.p;have p1:=s1.p S.p;rw[e] at i
 cases i with
 | list f1 a1 b1 =>
   rename_i a xs
   have hlx:=b1.length;refine⟨a,xs,rfl,a1,by rw[hlx];exact hl,?_⟩;refine zqr (kf:=kf) S.ok hφ ds xs [] [] H1 p1 b1 ⟨rfl,λi v p e1 _=>by simp at e1⟩ hF λks H2 st2 hk=>?_;refine⟨_,_,_,.pair (ds.map kf) ks hk.1 hk.2,λix l od hn=>?_⟩;have isAll2:IsAll K (unM O) H2 xs ds:=b1.stp st2 (λ_ f=>f) (λ_ f=>f);have hb:∀ i,i<xs.length->ix i<ds.length:=λi hi=>by rw[<- hlx];exact od.bj.lt i hi
   have pk:=zpt isAll2 (n:=xs.length) hb
   have es:((Qx xs.length).map λi=>ds.getD (ix i) .none)=zel kf ds:=by
    have up:Up plt (λi=>kfl kf (ds.getD i .none)) ix xs.length:=by
     intro i j hij hj;have:=od.up i j hij hj;have h1:=hb i (by omega);have h2:=hb j hj
     have key:∀ m,m<ds.length->kfl kf (ds.getD m .none)=(((ds.map kf).getD m (0,Str.empty)).1,((ds.map kf).getD m (0,Str.empty)).2.cps.toList):=λm hm=>by
      simp[kfl,Qq,hm]
     unfold Rk at this ⊢;dsimp only at this ⊢;rw[key _ h1,key _ h2];exact this
    have:=zpm (key:=kfl kf) (g:=λi=>ds.getD i .none) zri up od.bj;rw[this];unfold zel
    congr 1
    rw[hlx];refine ZB λi=>?_
    by_cases hi:i<ds.length
    ·simp[hi]
    ·rw[Qu (by simp;omega),Qu (by omega)]
   have e2:zew .non xs ix=(Qx xs.length).map λi=>xs.getD (ix i) .non:=rfl;rw[es] at pk;obtain⟨c1,c2⟩:=zbx (K:=K) S.ok hn pk;exact k _ _ _ ((s1.trans st2).trans c1) (c2.ahead S.ok S.p (s1.trans st2)) q
end
theorem zum{ι κ:Type}{P:Vf}{w:Vk}{K:PySem.W.Frag}{mg:Str->Option Vb}{base:Heap}{k:Nat}{X:ι->Cx}{O:κ->Ob}{a:Expr}{fa:DE}{pos p px kp:Pos}{k':Nat}{x y:Str}{φ:Ob->Prop}{F:List Ve->(R->Prop)->Prop}(C:Ctx3 P w K mg base k X)(B:Blt mg)(D:Def3 P w K mg base k' x [y] (spO K φ 1 F))(hφ:∀ j,φ (O j))(ha:E3 K X O a fa)(hk:k'+1<=k:=by decide)
 (hg:∀ i,Gl (X i) "sorted" := by intro i;rfl) (hgx:∀ i,Gl (X i) x:=by intro i;rfl) (hdx:(x == ("__debug__" : Str))=false:=by decide) (hs:∀ i,Vg [a] (X i).env = [(false,eval a (X i).env)]:=by intro i;rfl) :
 E3 K X O (.Call (.Name "sorted" p) [a] [⟨some "key", .Name x px,kp⟩] pos) (znr F fa):=by
 obtain⟨f,fd,G,m,kp',bn⟩:=D.ex;obtain⟨t,q,d⟩:=ha;refine⟨ziw K (spO K φ 1 F) t,λi=>?_,λj=>zsc (hφ j) (d j)⟩;obtain⟨j,rfl⟩:∃ j,k=j+1:=⟨k - 1,by omega⟩;have G':=G.mono (show k'<=j by omega);have h:=zso (X:=X i) (k:=j) (f:=f) (fd:=fd) (y:=y) (x:=x) (sp:=spO K φ 1 F) (ta:=t) (a:=a) (p:=p) (px:=px) (kp:=kp) (pos:=pos) (by rw[C.hP,C.hw,C.hK,C.hmg,C.hb];exact G') (C.room i) (by rw[C.hK];exact bn) (hg i) (by rw[C.hmg];exact B.sorted) (hgx i) (by rw[C.hmg];exact m) (q i) hdx (hs i);rw[C.hK] at h;exact h
end L3
namespace HK
open PySem PySem.Spec PyProof.Rows PySem.SetTable SX
noncomputable instance:DecidableEq Ve:=λa b=>Classical.propDecidable (a=b)
end HK
namespace L3
open PySem PySem.Spec
open PyProof.Rows hiding St
open L2
def ArgV(K:PySem.W.Frag)(O:Ob)(H:Hp)(v:V)(r:DV):Prop:=(∃ d,r = .im d/\Is K (unM O) H v d)\/(∃ f ds,r = .rd f ds/\SeenV K O H v (.rd f ds))\/(r = .ob/\v=O.v)\/∃ T,r = .thr T/\SeenV K O H v (.thr T)
def Args(K:PySem.W.Frag)(O:Ob)(H:Hp):List V->List DV->Prop
 | [],[]=>True
 | v::vs,r::rs=>ArgV K O H v r/\Args K O H vs rs
 | _,_=>False
theorem Args.length{K:PySem.W.Frag}{O:Ob}{H:Hp}:∀ {vs:List V} {rs:List DV},Args K O H vs rs->vs.length=rs.length
 | [],[],_=>rfl
 | _::_,_::_,h=>by rw[Qf,Qf,Args.length h.2]
theorem Args.get{K:PySem.W.Frag}{O:Ob}{H:Hp}:∀ {vs:List V} {rs:List DV} {i:Nat} {r:DV},Args K O H vs rs->rs[i]? = some r->∃ v,vs[i]? = some v/\ArgV K O H v r
 | [],[],_,_,_,e=>by simp at e
 | [],_::_,_,_,h,_=>h.elim
 | _::_,[],_,_,h,_=>h.elim
 | _::_,_::_,0,_,h,e=>by cases e;exact⟨_,rfl,h.1⟩
 | _::_,_::_,i+1,_,h,e=>by
   obtain⟨v,h1,h2⟩:=Args.get (i:=i) h.2 (by simpa using e);exact⟨v,by simpa using h1,h2⟩
def spG(K:PySem.W.Frag)(φ:Ob->Prop)(n:Nat)(f:List DV->(R->Prop)->Prop):Sp:=λvs H Q _ =>
 ∃ (O:Ob) (rs:List DV) (Qr:R->Prop),O.Ok/\φ O/\O.P H/\rs.length=n/\Args K O H vs rs/\f rs Qr/\∀ r,Qr r->∀ v H',Stp O H H'->Out K O H H' v r->Q v H'
theorem zyv{K:PySem.W.Frag}{φ:Ob->Prop}{n:Nat}{f:List DV->(R->Prop)->Prop}{ps:List Str}(hn:ps.length=n):∀ vs H Q E,spG K φ n f vs H Q E->vs.length=ps.length:=λvs H Q E zz=>by obtain⟨O,rs,_,_,_,_,h,is,_⟩:=zz;rw[is.length,h,hn]
abbrev DGA:=DSt->(List DV->Prop)->Prop
def AG(K:PySem.W.Frag)(O:Ob)(t:TA)(f:DGA):Prop :=
 ∀ (σ:St) (H:Hp) (ρ:DSt) (Q:List V->Hp->Prop) (Qd:List DV->Prop),Seen K O H σ ρ->f ρ Qd->(∀ vs H' rs,Stp O H H'->Args K O H' vs rs->Qd rs->Q vs H')->t σ H Q
def zwk:DGA:=λ_ Q=>Q []
def gImA(f:DE)(g:DGA):DGA:=λρ Q=>f ρ λr=>g ρ λrs=>Q (.im r.d::rs)
section
variable {K : PySem.W.Frag} {O : Ob}
theorem z1o:AG K O tNil zwk:=λσ H ρ Q Qd S h k=>k [] H [] (.refl _ _) trivial h
theorem z3c{t:TE}{u:TA}{f:DE}{g:DGA}(h:ED K O t f)(h':AG K O u g):AG K O (zaj t u) (gImA f g):=λσ H ρ Q Qd S hf k=>by
 refine h σ H ρ _ _ S hf λv H1 r s1 o1 q1=>?_;refine h' σ H1 ρ _ _ (S.stp s1) q1 λvs H2 rs s2 a2 q2=>?_;exact k (v::vs) H2 (.im r.d::rs) (s1.trans s2) ⟨.inl ⟨r.d,rfl,Is.stp s2 (λ_ f=>f) (λ_ f=>f) (o1.is S.ok S.p)⟩,a2⟩ q2
def calG(n:Nat)(f:List DV->(R->Prop)->Prop)(g:DGA):DE:=λρ Q=>g ρ λrs=>rs.length=n/\f rs Q
theorem zud{φ:Ob->Prop}{n:Nat}{f:List DV->(R->Prop)->Prop}{E:XK}{t:TA}{g:DGA}(hφ:φ O)(h:AG K O t g):ED K O (zcv (spG K φ n f) [] E t) (calG n f g):=λσ H ρ Q Qd S q k=>by
 refine h σ H ρ _ _ S q λvs H1 rs s1 is ⟨hn,q1⟩=>?_;rw[QD];exact⟨O,rs,Qd,S.ok,hφ,s1.p S.p,hn,is,q1,λr qr v H' s2 o2=>k v H' r (s1.trans s2) (o2.ahead S.ok S.p s1) qr⟩
theorem zpe{N:List Str}{H:Hp}{vs:List V}{rs:List DV}(ok:O.Ok)(p:O.P H)(h:Args K O H vs rs):Rep K O H (λ_ _=>False) H (L2.start N vs) (zbu N rs):=by
 have hl:=h.length;refine⟨ok,p,p,.refl _ _,λ_ _ _ z=>z.elim,λ_ _ z=>z.elim,λi r e=>?_,?_⟩
 ·unfold zbu at e
  by_cases hi:i<rs.length
  ·rw[Qz (by simpa using hi),Qk] at e
   cases q:rs[i]? with
   | none=>rw[q] at e;cases e
   | some r' =>
     rw[q] at e;have e':r'=r:=QS (QS e);subst e';obtain⟨v,hv,hh⟩:=h.get q;refine⟨v,?_,?_⟩
     ·unfold L2.start;rw[Qz (by rw[Qe,hl];exact hi),Qk,hv];rfl
     ·rcases hh with ⟨d,rfl,hd⟩|⟨f,ds,rfl,a,xs,e1,nm,q1,z⟩|⟨rfl,hd⟩|⟨T,rfl,W,hw,z⟩
      ·exact hd.weak λa u=>⟨u,λj z=>z⟩
      ·exact⟨a,xs,e1,⟨nm,λ_ z=>z⟩,q1,z.weak λa u=>⟨u,λj z=>z⟩⟩
      ·exact hd
      ·exact⟨W,λb w=>⟨⟨(hw b w).1,λ_ z=>z⟩,(hw b w).2⟩,T.to (λb u f q=>⟨⟨f,λ_ z=>z⟩,q⟩) (λb u w q=>⟨w,q⟩) (TupStay.refl _) z⟩
  ·rw[Q4 (by simpa using hi),QV] at e
   split at e <;> cases e
 ·unfold zbu L2.start;rw[Qj,Qj,Qe,Qe,QN,QN,hl]
theorem z3j{N:List Str}{t:TS}{g:DS}{H:Hp}{vs:List V}{rs:List DV}{Q:VK}{Qr:R->Prop}(h:SD K O t g)(ok:O.Ok)(p:O.P H)(ia:Args K O H vs rs)
 (hg:g { nx:=λ_=>Qr (.o .none),rt:=Qr } (zbu N rs)) (hQ:∀ r,Qr r->∀ v H',Stp O H H'->Out K O H H' v r->Q v H'):t { nx:=λ_ H'=>Q .non H',rt:=Q } (L2.start N vs) H :=
 h H _ _ H _ _ _ (zpe ok p ia) hg ⟨λA' σ' H' ρ' r' _ q=>hQ _ q .non H' r'.st Is.none,λA' σ' H' ρ' r' _ q=>q.elim,λA' σ' H' ρ' r' _ q=>q.elim,λH' v r s o q=>hQ r q v H' s o⟩
end
def AG3{ι κ:Type}(K:PySem.W.Frag)(X:ι->Cx)(O:κ->Ob)(es:List Expr)(f:DGA):Prop:=∃ t,(∀ i,PA (X i) es t)/\∀ j,AG K (O j) t f
section
variable {ι κ : Type} {P : Vf} {w : Vk} {K : PySem.W.Frag} {mg : Str → Option Vb} {base : Heap} {k : Nat} {X : ι → Cx} {O : κ → Ob} {a : Expr} {es : List Expr} {fa : DE} {ga : DGA} {pos p : Pos}
theorem z2x:AG3 K X O [] zwk:=⟨tNil,λi=>zaq,λj=>z1o⟩
theorem g_im(ha:E3 K X O a fa)(hs:AG3 K X O es ga)(he:∀ i,Vg (a::es) (X i).env=(false,eval a (X i).env)::Vg es (X i).env:=by intro i;rfl):AG3 K X O (a::es) (gImA fa ga):=let ⟨_,p1,d1⟩:=ha;let ⟨_,p2,d2⟩:=hs; ⟨_,λi=>zai (p1 i) (p2 i) (he i),λj=>z3c (d1 j) (d2 j)⟩
theorem zyq{k' n:Nat}{x:Str}{ps:List Str}{φ:Ob->Prop}{F:List DV->(R->Prop)->Prop}(C:Ctx3 P w K mg base k X)(D:Def3 P w K mg base k' x ps (spG K φ n F))(hφ:∀ j,φ (O j))(ha:AG3 K X O (a::es) ga)(hk:k'<=k:=by decide)(hg:∀ i,Gl (X i) x:=by intro i;rfl)
 (hdb:(x == ("__debug__" : Str))=false:=by decide) (he:∀ i,Vg (a::es) (X i).env=(false,eval a (X i).env)::Vg es (X i).env:=by intro i;rfl) (hpl:∀ i,(VU pos (Vg es (X i).env)).any (·.1)=false:=by intro i;rfl):E3 K X O (.Call (.Name x p) (a::es) [] pos) (calG n F ga):=by
 obtain⟨f,fd,G,m,kp,bn⟩:=D.ex;obtain⟨t,q,d⟩:=ha;refine⟨zcv (spG K φ n F) [] E0 t,λi=>?_,λj=>zud (hφ j) (d j)⟩;have G':FnOk (X i).prog (X i).w (X i).K (X i).mg (X i).base CX0 k f fd ps (spG K φ n F):=by rw[C.hP,C.hw,C.hK,C.hmg,C.hb];exact G.mono hk
 exact zd5 G' (C.room i) (hg i) (by rw[C.hmg];exact m) (by rw[C.hK];exact kp) (by rw[C.hK];exact bn) .nil zh1 (q i) hdb (he i) (hpl i)
end
section
variable {P : Vf} {w : Vk} {K : PySem.W.Frag} {mg : Str → Option Vb} {base : Heap} {k n : Nat} {x : Str} {st : Stmt} {N ps : List Str} {φ : Ob → Prop} {F : List DV → (R → Prop) → Prop}
theorem mk_G(T:Top3 K mg x st)(S:FnScope N ps (zaf st))(hb:∀ (kV doc pm:Vb) (an:Option Addr) (cdv ct:Vb) (us:List Vb),us.length=ps.length->Ue (PySem.W.fnOf x x (zbv st) (za2 st) (zaf st) .none kV doc pm an cdv ct) ⟨us,[]⟩=pure (ps.zip us))(hn:ps.length=n)
 (body:∀ (f:Addr) (cdv:Vb) (A:Vl) (outer:List Env) (s:Vc) (H:Hp) (E:XK) (O:Ob),φ O->Ctx3 P w K mg base k (zcj P w K mg base N x (zaf st) f cdv A outer s H E) ->
  ∃ g,Ss3 K (zcj P w K mg base N x (zaf st) f cdv A outer s H E) (λ_:Unit=>O) (za2 st) g/\∀ rs Qr,rs.length=n->F rs Qr->g { nx:=λ_=>Qr (.o .none),rt:=Qr } (zbu N rs)):Def3 P w K mg base (k+1) x ps (spG K φ n F):=by
 obtain⟨f,fd,Fu,m⟩:=T.ex;refine⟨f,fd,Fu.ok S (zyv hn) (λcdv A outer s H vs Q E hr h=>?_),m,Fu.kp,Fu.binds hb⟩;obtain⟨O,rs,Qr,ok,hφ,p,hl,is,q,kk⟩:=h;obtain⟨g,⟨t,h1,h2⟩,h3⟩:=body f cdv A outer s H E O hφ (zez hr);exact⟨t,h1 (),z3j (h2 ()) ok p is (h3 rs Qr hl q) kk⟩
end
end L3
namespace DI
open PySem PyProof.Rows
def Ent(h:Heap)(d:Addr)(es:Array GB)(ep:Nat):Prop:=∃ o,h.get? d=some o/\o.ExactDict/\o.data = .dict es ep
end DI
namespace L3
open PySem PySem.Spec
open PyProof.Rows hiding St
open L2
abbrev TK:=List (List Key × Addr × Vb)
def TObj(P:Vf)(w:Vk)(a:Addr)(o:Obj)(xs:TK):Prop :=
 xs.length<=sizeLine/\(a == V8)=false/\o.ExactDict/\∃ es ep,o.data = .dict es ep/\es.toList=xs.map (UR (tupleKind (mixKind P w)))/\(xs.map (·.1)).Nodup
def KLie(H:Hp)(xs:TK):Prop:=∀ q ∈ xs,H q.2.1=some (.tup (q.1.map kV))
theorem zhw{H:Hp}:∀ {kvs:List (List Key × V)} {xs:TK},KT H kvs xs->KLie H xs
 | _,_,.nil,q,hq=>nomatch hq
 | _,_,.cons r t,q,hq=>by
   rcases Qs.mp hq with rfl|hq
   ·rw[<- r.1];exact r.2.1
   ·exact zhw t q hq
theorem zwp{H H':Hp}:∀ {kvs:List (List Key × V)} {xs:TK},KT H kvs xs->KLie H' xs->KT H' kvs xs
 | _,_,.nil,_ => .nil
 | _,_,.cons (a:=p) (b:=q) r t,h => .cons ⟨r.1,by rw[r.1];exact h q (by simp),r.2.2⟩ (zwp t λz hz=>h z (by simp[hz]))
theorem znu{H:Hp}:∀ {kvs:List (List Key × V)} {xs:TK},KT H kvs xs->xs.map (·.1)=kvs.map (·.1)
 | _,_,.nil=>rfl
 | _,_,.cons r t=>by rw[Qn,Qn,znu t,r.1]
section
variable {X : Cx} {pins : List (Addr × Obj)} {σ : St} {H : Hp} {s : Vc}
theorem zqa{a:Addr}{kvs:List (List Key × V)}(I:Inv X pins σ H s)(ha:H a=some (.dT kvs)):∃ o xs,TObj X.prog X.w a o xs/\KT H kvs xs/\Inv X pins σ (upd H a (stl a o)) s:=by
 obtain⟨z,y,xs,r,o,es,ep,e,c,g1,g2,g3⟩:=I.hok a _ ha;refine⟨o,xs,⟨?_,y,c,es,ep,g1,g2,g3⟩,r,?_⟩
 ·rw[<- Paired.length r];exact z
 ·exact I.write (x:=a) (e:=a) (t':=s.toks) (h':=s.heap) (by rw[ha];exact ZY) (.inl rfl) (λ_ _ _ q=>q) ⟨o,e⟩ ⟨e,⟨o,e⟩,λh1 h2 p k=>k o p⟩
end
section
variable {K : PySem.W.Frag} {O : Ob} {H₀ H H' : Hp} {A : Nat → Addr → Prop} {σ : St} {ρ : DSt}
def reg(A:Nat->Addr->Prop)(i:Nat)(W:Addr->Prop):Nat->Addr->Prop:=λj b=>(j ≠ i/\A j b)\/(j=i/\W b)
theorem Rep.tstay{i:Nat}(r:Rep K O H₀ A H σ ρ)(stay:∀ b u,H b=some u->¬ A i b->H' b=some u):TupStay H H':=λb u hu hb=>stay b u hb λz=>by
 obtain⟨_,⟨o,q,ho⟩,_⟩:=r.own i b z;rw[hb] at q;cases q;obtain⟨us,e1|⟨o',e1⟩⟩:=hu
 ·exact(ho us).1 e1
 ·exact(ho us).2 o' e1
theorem Rep.setT{i:Nat}{v:V}{W:Addr->Prop}{T:Thg}{H1:Hp}(r:Rep K O H₀ A H σ ρ)(s:Stp O H H1)(stay1:∀ b u,H1 b=some u->¬ A i b->H' b=some u)(hW:∀ b,W b->(A i b\/H b=Zl)/\∃ o,H' b=some o/\OwnO o)
 (hR:T.R K (unO O (reg A i W)) W H' v):Rep K O H₀ (reg A i W) H' (σ.set i (some v)) (ρ.set i (some (.thg T))):=by
 have ts1:=(r.stp s).tstay stay1;have ts:TupStay H H':=λb u hu hb=>ts1 b u hu (s.t b u hu hb);have nA:∀ b,O.M b->¬ A i b:=λb m z=>(r.own i b z).2.2 m;have stay:∀ b u,H b=some u->¬ A i b->¬ O.M b->H' b=some u:=λb u e z m=>stay1 b u (s.s b u e m) z
 have sM:∀ b,O.M b->H' b=H1 b:=λb m=>by
  obtain⟨o,e⟩:=r.ok.here H1 b (s.p r.p) m;rw[e,stay1 b o e (nA b m)]
 have pp:O.P H':=r.ok.loc H1 _ sM (s.p r.p);have oth:∀ {j b},j ≠ i->A j b->¬ A i b:=λhj a z=>hj (r.dis _ _ _ a z)
 have un:∀ b u,H b=some u->unO O A b->unO O (reg A i W) b:=λb u e f=>⟨f.1,λj z=>by
  rcases z with z|z
  ·exact f.2 j z.2
  ·rcases(hW b z.2).1 with y|y
   ·exact f.2 i y
   ·rw[e] at y;cases y⟩
 have tF:∀ b u,unO O A b->H b=some u->unO O (reg A i W) b/\H' b=some u:=λb u f q=>⟨un b u q f,stay b u q (f.2 i) f.1⟩;have mv:∀ {v d},Is K (unO O A) H v d->Is K (unO O (reg A i W)) H' v d:=λz=>z.to (λb ys f q=>tF b _ f q) λb ys q=>SqT.stay (h:=q) ts;have mvs:∀ {v d},IsAll K (unO O A) H v d->IsAll K (unO O (reg A i W)) H' v d:=λz=>z.to (λb ys f q=>tF b _ f q) λb ys q=>SqT.stay (h:=q) ts
 have wm:∀ b,W b->H₀ b=Zl/\¬ O.M b:=λb w=>by
  rcases(hW b w).1 with z|z
  ·exact⟨(r.own i b z).1,(r.own i b z).2.2⟩
  ·have m:¬ O.M b:=λm=>by obtain⟨o,e⟩:=r.ok.here H b r.p m;rw[z] at e;cases e
   exact⟨r.st.s.free m z,m⟩
 refine⟨r.ok,pp,r.p0,⟨λb o hb n=>?_,λ_=>pp,λb u hu hb=>ts b u hu (r.st.t b u hu hb)⟩,λj k b x y=>?_,λj b x=>?_,λj x e=>?_,by rw[Zb,Zb];exact r.len⟩
 ·exact stay b o (r.st.s b o hb n) (λz=>by rw[(r.own i b z).1] at hb;cases hb) n
 ·rcases x with x|x <;> rcases y with y|y
  ·exact r.dis j k b x.2 y.2
  ·rcases(hW b y.2).1 with z|z
   ·exact absurd (r.dis j i b x.2 z) x.1
   ·obtain⟨_,⟨o,q,_⟩,_⟩:=r.own j b x.2;rw[z] at q;cases q
  ·rcases(hW b x.2).1 with z|z
   ·exact absurd (r.dis k i b y.2 z) y.1
   ·obtain⟨_,⟨o,q,_⟩,_⟩:=r.own k b y.2;rw[z] at q;cases q
  ·exact x.1.trans y.1.symm
 ·rcases x with x|x
  ·obtain⟨h0,⟨o,q,ho⟩,m⟩:=r.own j b x.2;exact⟨h0,⟨o,stay b o q (oth x.1 x.2) m,ho⟩,m⟩
  ·exact⟨(wm b x.2).1,(hW b x.2).2,(wm b x.2).2⟩
 ·by_cases hj:i=j
  ·subst hj
   have hi:i<ρ.length:=by
    rcases Zu i ρ.length with z|z
    ·exact z
    ·rw[Qu (by simpa using z)] at e;cases e
   rw[QB hi] at e;cases e;exact⟨v,QB (by have:=r.len;omega),T.to (λb u f q=>⟨f,q⟩) (λb u w q=>⟨.inr ⟨rfl,w⟩,q⟩) (TupStay.refl _) hR⟩
  ·rw[QL hj] at e;obtain⟨w,h1,h2⟩:=r.at_ j x e;have hj':j ≠ i:=λz=>hj z.symm;refine⟨w,by rw[QL hj];exact h1,?_⟩
   cases x with
   | im d=>exact mv h2
   | own es =>
     obtain⟨b,ys,rfl,hb,hlb,hs⟩:=h2;exact⟨b,ys,rfl,.inl ⟨hj',hb⟩,stay b _ hlb (oth hj' hb) (r.own j b hb).2.2,mvs hs⟩
   | ob=>exact h2
   | scr n=>exact IsS.to (λb u f q=>tF b u f q) h2
   | dct ks=>obtain⟨b,hb,h2⟩:=h2;exact⟨b,.inl ⟨hj',hb⟩,h2.to λu q=>stay b u q (oth hj' hb) (r.own j b hb).2.2⟩
   | gen f ds=>obtain⟨b,xs,e,hb,q,z⟩:=h2;exact⟨b,xs,e,.inl ⟨hj',hb⟩,stay b _ q (oth hj' hb) (r.own j b hb).2.2,mvs z⟩
   | rd f ds=>obtain⟨b,xs,e,hb,q,z⟩:=h2;exact⟨b,xs,e,un b _ q hb,stay b _ q (hb.2 i) hb.1,mvs z⟩
   | exc C ns ds=>obtain⟨xs,e,z⟩:=h2;exact⟨xs,e.to λb u f q=>tF b u f q,mvs z⟩
   | thg T=>exact T.to (λb u f q=>tF b u f q) (λb u w q=>⟨.inl ⟨hj',w⟩,stay b u q (oth hj' w) (r.own j b w).2.2⟩) ts h2
   | thr T=>obtain⟨W',hw,z⟩:=h2;exact⟨W',λb w=>let ⟨f,o,q⟩:=hw b w; ⟨un b o q f,o,stay b o q (f.2 i) f.1⟩,T.to (λb u f q=>tF b u f q) (λb u w q=>⟨w,stay b u q ((hw b w).1.2 i) (hw b w).1.1⟩) ts z⟩
theorem Frm.setT{i:Nat}{W:Addr->Prop}{H1:Hp}(s:Stp O H H1)(stay:∀ b u,H1 b=some u->¬ A i b->H' b=some u)(hW:∀ b,W b->(A i b\/H b=Zl)):Frm O A H (reg A i W) H':=λb o e u=>⟨stay b o (s.s b o e u.1) (u.2 i),u.1,λj z=>by
 rcases z with z|z
 ·exact u.2 j z.2
 ·rcases hW b z.2 with y|y
  ·exact u.2 i y
  ·rw[e] at y;cases y⟩
end
mutual
inductive Ow (K:PySem.W.Frag) (H:Hp):V->Ve->List Addr->Prop
 | leaf {v d}:flat d=true->Is K (λ_=>False) H v d->Ow K H v d []
 | list {a xs ds as}:H a=some (.lst xs)->OwAll K H xs ds as->Ow K H (.ref a) (.list ds) (a::as)
 | tuple {a xs ds as}:H a=some (.tup xs)->OwAll K H xs ds as->Ow K H (.ref a) (.tuple ds) as
inductive OwAll (K:PySem.W.Frag) (H:Hp):List V->List Ve->List Addr->Prop
 | nil:OwAll K H [] [] []
 | cons {v vs d ds as bs}:Ow K H v d as->OwAll K H vs ds bs->OwAll K H (v::vs) (d::ds) (as++bs)
end
section
variable {K : PySem.W.Frag} {O : Ob} {H₀ H H' : Hp} {A : Nat → Addr → Prop} {σ : St} {ρ : DSt}
theorem zg5{a:Addr}(ok:O.Ok)(p:O.P H)(h:H a=Zl):¬ O.M a:=λm=>by obtain⟨o,z⟩:=ok.here H a p m;rw[h] at z;cases z
end
def kD:Key->Ve
 | .inl i => .int i
 | .inr x => .str x
theorem zfa{β:Type}{l:List β}{i:Nat}{x:β}(h:l[i]? = some x):l.set i x=l:=by
 obtain⟨z,rfl⟩:=Qi.mp h;exact List.set_getElem_self z
theorem ownT{kvs:List (List Key × V)}:OwnO (.dT kvs):=λ_=>⟨λz=>(nomatch z),λ_ z=>(nomatch z)⟩
def zoh(tk tv:TE):TE:=λσ H Q=>∀ p,H p=none->tk σ (upd H p (.dT [])) λy H1=>tv σ H1 λv H2=>H2 p=some (.dT [])/\∃ k b,y = .ref b/\H2 b=some (.tup (k.map kV))/\Q (.ref p) (upd H2 p (.dT [(k,v)]))
theorem zrb{X:Cx}{pos:Pos}{e v:Expr}{tk tv:TE}(hu:X.A.units+1<cLine)(hk:PE X e tk)(hv:PE X v tv):PE X (.Dict [some e] [v] pos) (zoh tk tv):=by
 intro pins s σ H Q I q;have hn:=I.hok.fresh (Qc s.heap.objs.size);have I1:=I.laid (a:=s.heap.objs.size) (o := .dT []) (h':=s.heap.push { cls := .type "dict", data := .dict #[] }) (t':=s.toks) (λ_ _ q=>Heap.get?_push_of_some _ q) (Qc _) (zk4 s.heap I.big);refine wpAny_Dict_any rfl rfl (by simp) (by simp) ?_;refine pairTrees_cons_walk (thn (hk pins _ σ _ _ I1 (q _ hn)) λu s1 ⟨y,H1,I1,ry,q1⟩=>thn (hv pins s1 σ H1 _ I1 q1) λr s2 ⟨x,H2,I2,rx,e2,k,b,ey,eb,q2⟩=>pairTrees_nil_walk ?_);subst ey;cases (show u=Value.ref b from ry);unfold storeAll;rw[jl];obtain⟨z,hd,xs,rel,dd⟩:=zky I2.hok e2;cases rel;refine Va (Va (wpAny_dictSet_heap (knd:=tupleKind (mixKind X.prog X.w)) (show X.A.units<cLine by omega) (zdi I2.hok eb) dd λh' dd' hs=>Vd ?_));dsimp only;rw[jq];obtain⟨ob,es,ep,hq,h2,h3,h4,_,h5⟩:=dd'
 have new:ObjOk X.prog X.w (upd H2 s.heap.objs.size (.dT [(k,x)])) h' s.heap.objs.size (.dT [(k,x)]):=by
  refine⟨by show 1<=sizeLine;rw[Vj];omega,hd,[(k,b,r)],.cons ⟨rfl,?_,rx⟩ .nil,ob,es,ep,hq,h2,h3,h4,h5⟩;rw[zaa (zo7 eb e2 (λz=>nomatch z))];exact eb
 exact Vd ⟨.ref s.heap.objs.size,_,zd7 I2 (by rw[e2];exact ZY) hs ⟨ob,hq⟩ new,rfl,q2⟩
section
variable {K : PySem.W.Frag} {O : Ob}
theorem zcu{F:Addr->Prop}{H:Hp}{v:V}{k:Key}(h:Is K F H v (kD k)):v=kV k:=by
 cases k <;> (cases h;rfl)
end
theorem ownK{ws:List (Key × V)}:OwnO (.dK ws):=λ_=>⟨λz=>(nomatch z),λ_ z=>(nomatch z)⟩
section
variable {K : PySem.W.Frag} {O : Ob}
def zwd(n:Nat)(g:DGA):DGA:=λρ Q=>∃ T,(ρ[n]? = some (some (.thg T))\/ρ[n]? = some (some (.thr T)))/\g ρ λrs=>Q (.thr T::rs)
theorem z0i{n:Nat}{u:TA}{g:DGA}(h':AG K O u g):AG K O (zaj (tVar n) u) (zwd n g):=λσ H ρ Q Qd S hf k=>by
 obtain⟨T,e,q⟩:=hf
 have:∃ v,σ[n]? = some (some v)/\SeenV K O H v (.thr T):=by
  rcases e with e|e
  ·obtain⟨v,h1,h2⟩:=S.at_ n _ e;exact⟨v,h1,h2⟩
  ·obtain⟨v,h1,h2⟩:=S.at_ n _ e;exact⟨v,h1,h2⟩
 obtain⟨v,h1,h2⟩:=this;refine⟨v,h1,?_⟩;refine h' σ H ρ _ _ S q λvs H2 rs s2 a2 q2=>?_;exact k (v::vs) H2 (.thr T::rs) s2 ⟨.inr (.inr (.inr ⟨T,rfl,SeenV.stp s2 h2⟩)),a2⟩ q2
end
section
variable {ι κ : Type} {P : Vf} {w : Vk} {K : PySem.W.Frag} {mg : Str → Option Vb} {base : Heap} {k : Nat} {X : ι → Cx} {O : κ → Ob} {a b : Expr} {fa fb : DE} {pos p px py p1 p2 p3 : Pos} {x y : Str} {es : List Expr} {ga : DGA} {g1 : DS} {st : Stmt} {sts : List Stmt}
theorem z2n(n:Nat)(hs:AG3 K X O es ga)(hN:∀ i,(X i).N[n]? = some x:=by intro i;rfl)(hv:∀ i,Vis (X i).env.scope x:=by intro i;first|exact Or.inl rfl|exact Or.inr (Or.inl rfl)|exact Or.inr (Or.inr rfl))(hd:(x == ("__debug__" : Str))=false:=by decide)(hcd:(x == ("__classdict__" : Str))=false:=by decide)
 (he:∀ i,Vg (.Name x px::es) (X i).env=(false,eval (.Name x px) (X i).env)::Vg es (X i).env:=by intro i;rfl):AG3 K X O (.Name x px::es) (zwd n ga):=let ⟨_,p2,d2⟩:=hs; ⟨_,λi=>zai (zag (hN i) (hv i) hd hcd) (p2 i) (he i),λj=>z0i (d2 j)⟩
end
section
variable {X : Cx} {pins : List (Addr × Obj)} {σ : L2.St} {H : Hp} {s : Vc} {h' : Heap} {t' : Nat}
theorem zqp{fp:List Addr}(I:Inv X pins σ H s)(hf:∀ b ∈ fp,FpOk X pins H b)(k:∀ b o,b ∉ fp->s.heap.get? b=some o->h'.get? b=some o):Inv X pins σ H { s with heap:=h',toks:=t' }:=by
 have nit:∀ b u,H b=some u->b ∉ fp:=λb u e z=>by rw[(hf b z).1] at e;cases e
 refine I.step (g':=s.gens) (d':=s.drawn) (ch:=fp) (λb hb=>let ⟨_,a,_,b,c,d⟩:=hf b hb; ⟨b,a,c,d⟩) (λb o _ _ hc e _=>k b o hc e) (λb o _ _ hc e _=>⟨o.slots,k b o hc e⟩) (λ_ _ _ _ n=>n) (λb o hc e=>⟨o,k b o hc e⟩) (λ_ _ e=>e) (λ_ _ _ e=>e) (λb ps e=>⟨#[],by rw[e];simp⟩)
  (λm ⟨o,es,ep,ho,r⟩=>⟨o,es,ep,k _ o (λz=>(hf _ z).2.1 rfl) ho,r⟩) (λb u e=>(I.hok b u e).stay (λc v hc q=>k c v ?_ q) (λ_ q=>q) λ_ _ q=>q) I.bare
 rcases hc with z|z
 ·rw[z];exact nit b u e
 ·exact nit c _ z
theorem zqg{fp:List Addr}{a:Addr}{o:HO}(I:Inv X pins σ H s)(hf:∀ b ∈ fp,FpOk X pins H b)(k:∀ b o,b ∉ fp->s.heap.get? b=some o->h'.get? b=some o)(hp:s.heap.objs.size<=a)(new:ObjOk X.prog X.w (upd H a o) h' a o):Inv X pins σ (upd H a o) { s with heap:=h',toks:=t' }:=by
 have nit:∀ b u,H b=some u->b ∉ fp:=λb u e z=>by rw[(hf b z).1] at e;cases e
 have hn:=I.hok.fresh hp;have na:∀ b u,H b=some u->b ≠ a:=λb u e z=>by rw[z,hn] at e;cases e
 have nb:∀ b (o:Obj),s.heap.get? b=some o->b ≠ a:=λb o e z=>QQ _ (Q7 (Heap.lt_size e) (z ▸ hp))
 refine I.step (g':=s.gens) (d':=s.drawn) (ch:=fp) (λb hb=>let ⟨_,a,_,b,c,d⟩:=hf b hb; ⟨b,a,c,d⟩) (λb o _ _ hc e _=>k b o hc e) (λb o _ _ hc e _=>⟨o.slots,k b o hc e⟩) (λb o _ e n=>by rw[zaa (nb b o e)];exact n) (λb o hc e=>⟨o,k b o hc e⟩) (λb _ e=>by rw[zaa (na b _ e)];exact e) (λb _ _ e=>by rw[zaa (na b _ e)];exact e) (λb ps e=>⟨#[],by rw[zaa (na b _ e),e];simp⟩)
  (λm ⟨o,es,ep,ho,r⟩=>⟨o,es,ep,k _ o (λz=>(hf _ z).2.1 rfl) ho,r⟩) (λb u e=>?_) I.bare
 by_cases hb:b=a
 ·subst hb;rw[zad] at e;cases e;exact new
 ·rw[zaa hb] at e;refine(I.hok b u e).stay (λc v hc q=>k c v ?_ q) (λc q=>by rw[zaa (na c _ q)];exact q) λc xs q=>by rw[zaa (na c _ q)];exact q
  rcases hc with z|z
  ·rw[z];exact nit b u e
  ·exact nit c _ z
end
end L3
namespace L3
open PySem PySem.Spec
open PyProof.Rows hiding St
open SX
open L2
section
variable {P : Vf} {w : Vk} {A : Vl} {E : Vb → Vc → Prop} {s : Vc}
theorem zrj{d:Addr}{Q:Bool->Vc->Prop}(tS:s.TypeIs (.ref d) "dict")(q:Q false s):wpAny (model P w) A (Builtin.List.listLengthHint (.ref d)) Q E s:=by
 unfold Builtin.List.listLengthHint;refine Va (VL tS F.slot_dict_len.lookup ?_);generalize hid:("dict.__len__" : String)=id0
 (fail_if_success (clear hid id0))
 wp_delta
 rw[show splitId id0=some ("dict", "__len__") from by subst hid;decide +kernel];subst hid;refine Va (VN (b:=true) tS F.kt_sub_dict ?_);refine wp_f (by decide) ?_;refine wp_t (by decide +kernel) ?_;refine Va (V9 tS ?_);exact Vd q
theorem zma{K:Type}[DecidableEq K]{knd:PySem.KeyKind P w K}{d:Addr}{kvs:List (K × Vb)}{ep:Nat}{Q:Vb->Vc->Prop}(hh:A.handled=none)(hd:(d == V8)=false)(D:s.heap.DictAt knd d kvs ep)(hz:kvs.length<=sizeLine)
 (q:∀ (h':Heap) (tk:Nat) (vs:Array Vb) (c:Nat),(∀ b o,s.heap.get? b=some o->h'.get? b=some o)->h'.get? s.heap.objs.size=some { cls := .type "list", dict:=none,data := .seq vs c,slots:=#[] }->vs.size=kvs.length->(∀ (i:Nat) v,vs[i]? = some v->∃ p,kvs[i]? = some p/\knd.is p.1 v=true)->Q (.ref s.heap.objs.size) { s with heap:=h',toks:=tk }) :
 wpAny (model P w) A (call (.type "list") [.ref d]) Q E s:=by
 have hlt:=D.lt_size;refine Gk (Q₁:=λv s1=>v = .ref s.heap.objs.size/\s1 = { s with heap:=s.heap.push { cls := .type "list", data := .seq #[] } }) F.called_list (F.typeCall_list_1 _) F.entry_list_init (code_list_new _ ⟨rfl,rfl⟩) ?_;rintro _ _ ⟨rfl,rfl⟩;refine⟨⟨_,Heap.get?_push_size _ rfl,rfl⟩,F.args_list_init_2 _ _,?_⟩;have nI:s.heap.objs.size ≠ d:=Zs hlt;have same:Builtin.List.listSameRef (.ref s.heap.objs.size) (.ref d)=false:=by simp[Builtin.List.listSameRef,nI]
 have t1:Value.type "dict" ≠ Value.type "list" := by decide
 have eS:(s.heap.push { cls := .type "list", data := .seq #[] }).get? s.heap.objs.size=some { cls := .type "list", data := .seq #[] }:=Heap.get?_push_size _ rfl;obtain⟨hp,g,dr,tk,os⟩:=s
 have up:∀ c o,hp.get? c=some o->((hp.push { cls := .type "list", data := .seq #[] }).update hp.objs.size (Obj.mapSeq λ_=>(#[]:Array Vb))).get? c=some o:=λc o e=>by
  rw[Heap.get?_update_other _ _ (Zs (Heap.lt_size e))];exact Heap.get?_push_of_some _ e
 have eS2:=Heap.get?_update_self (Obj.mapSeq (λ_=>(#[]:Array Vb))) eS rfl
 have D2:((hp.push { cls := .type "list", data := .seq #[] }).update hp.objs.size (Obj.mapSeq λ_=>(#[]:Array Vb))).DictAt knd d kvs ep:=by
  obtain⟨o,es,ho,r⟩:=D;exact⟨o,es,up d o ho,r⟩
 have hT:Shared.TypeIs ⟨((hp.push { cls := .type "list", data := .seq #[] }).update hp.objs.size (Obj.mapSeq λ_=>(#[]:Array Vb))),g,dr,tk,os⟩ (.ref d) "dict" := D2.dictOf.typeIs (s:=⟨((hp.push { cls := .type "list", data := .seq #[] }).update hp.objs.size (Obj.mapSeq λ_=>(#[]:Array Vb))),g,dr,tk,os⟩);have D3:=D2.push { cls := .type "dict_keyiterator", data := .fields #[.ref d,.int 0 0,.int kvs.length 0,.int ep 0] };have hT3:Shared.TypeIs ⟨((hp.push { cls := .type "list", data := .seq #[] }).update hp.objs.size (Obj.mapSeq λ_=>(#[]:Array Vb))).push { cls := .type "dict_keyiterator", data := .fields #[.ref d,.int 0 0,.int kvs.length 0,.int ep 0] },g,dr,tk,os⟩ (.ref d) "dict" := D3.dictOf.typeIs (s:=⟨((hp.push { cls := .type "list", data := .seq #[] }).update hp.objs.size (Obj.mapSeq λ_=>(#[]:Array Vb))).push { cls := .type "dict_keyiterator", data := .fields #[.ref d,.int 0 0,.int kvs.length 0,.int ep 0] },g,dr,tk,os⟩);unfold Builtin.«list.__init__»
 wp_walk using wpAny_pyIter_dict hd D2,V9 hT,zrj hT3
 have hltp:d<hp.objs.size:=hlt;have sz1:((hp.push { cls := .type "list", data := .seq #[] }).update hp.objs.size (Obj.mapSeq λ_=>(#[]:Array Vb))).objs.size=hp.objs.size+1:=by rw[Heap.size_update,Heap.size_push]
 have eI3:(((hp.push { cls := .type "list", data := .seq #[] }).update hp.objs.size (Obj.mapSeq λ_=>(#[]:Array Vb))).push { cls := .type "dict_keyiterator", data := .fields #[.ref d,.int 0 0,.int kvs.length 0,.int ep 0] }).get? ((hp.push { cls := .type "list", data := .seq #[] }).update hp.objs.size (Obj.mapSeq λ_=>(#[]:Array Vb))).objs.size=some { cls := .type "dict_keyiterator", data := .fields #[.ref d,.int 0 0,.int kvs.length 0,.int ep 0] }:=Heap.get?_push_size _ rfl;have eS3:=Heap.get?_push_of_some { cls := .type "dict_keyiterator", data := .fields #[.ref d,.int 0 0,.int kvs.length 0,.int ep 0] } eS2;have upL:∀ c o,hp.get? c=some o->(((hp.push { cls := .type "list", data := .seq #[] }).update hp.objs.size (Obj.mapSeq λ_=>(#[]:Array Vb))).push { cls := .type "dict_keyiterator", data := .fields #[.ref d,.int 0 0,.int kvs.length 0,.int ep 0] }).get? c=some o:=λc o e=>Heap.get?_push_of_some _ (up c o e);generalize hh2:((hp.push { cls := .type "list", data := .seq #[] }).update hp.objs.size (Obj.mapSeq λ_=>(#[]:Array Vb))).push { cls := .type "dict_keyiterator", data := .fields #[.ref d,.int 0 0,.int kvs.length 0,.int ep 0] }=h2 at D3 eI3 eS3 upL ⊢;have eS4:=Heap.get?_update_self (Obj.mapSeq (·.push Value.none)) eS3 rfl;have eS5:=Heap.get?_update_self (Obj.mapSeq (·.pop)) eS4 rfl
 have keep:∀ b o,b ≠ hp.objs.size->h2.get? b=some o->((h2.update hp.objs.size (Obj.mapSeq (·.push Value.none))).update hp.objs.size (Obj.mapSeq (·.pop))).get? b=some o:=λb o nb e=>by
  rw[Heap.get?_update_other _ _ (Zj nb),Heap.get?_update_other _ _ (Zj nb)];exact e
 have nLI:hp.objs.size+1 ≠ hp.objs.size:=Nat.succ_ne_self _;have ndI:d ≠ hp.objs.size+1:=Qm (QI hltp);rw[sz1] at eI3
 have st4:((h2.update hp.objs.size (Obj.mapSeq (·.push Value.none))).update hp.objs.size (Obj.mapSeq (·.pop))).IsKeyIter (hp.objs.size+1) d 0 kvs.length ep/\((h2.update hp.objs.size (Obj.mapSeq (·.push Value.none))).update hp.objs.size (Obj.mapSeq (·.pop))).DictAt knd d kvs ep:=by
  refine⟨⟨_,keep _ _ nLI eI3,rfl,rfl⟩,?_⟩;obtain⟨o,es,ho,r⟩:=D3;exact⟨o,es,keep d o (Qm hltp) ho,r⟩
 have nLf:hp.objs.size ∉ [hp.objs.size+1,d]:=λz=>by
  simp only[Qs,Ze,or_false] at z;rcases z with z|z
  ·exact nLI z.symm
  ·exact Zs hltp z
 show _/\Uw _ _ (.builtin "list.extend.loop" ⟨[.ref hp.objs.size,.ref ((hp.push { cls := .type "list", data := .seq #[] }).update hp.objs.size (Obj.mapSeq λ_=>(#[]:Array Vb))).objs.size,.none],[]⟩) _ _;rw[sz1];refine⟨V6 F.plain_extend_loop _,VR (Walks.dictKeys (A:=A.in1.in1) (knd:=knd) hh (hp.objs.size+1) d ndI kvs ep).toS hz _ nLf _ kvs.length 0 _ _ _ rfl (Qw _) st4 eS5 (ItemsOf.nil _) λs' acc c mv eA hacc=>⟨rfl,?_⟩⟩;obtain⟨h5,g5,d5,tk5,os5⟩:=s';obtain rfl:g5=g:=mv.gens;obtain rfl:d5=dr:=mv.drawn;obtain rfl:os5=os:=mv.os;refine q h5 tk5 acc c (λb o e=>mv.heap b o (λz=>?_) ?_) eA (by have:=hacc.1;simpa using this) (λi v e=>?_)
 ·have hbl:=Heap.lt_size e;rcases Qs.mp z with z|z
  ·exact Qm hbl z
  ·exact Qm (QI hbl) (Qg.mp z)
 ·exact keep b o (Qm (Heap.lt_size e)) (upL b o e)
 ·obtain⟨k',x,h1,h2⟩:=hacc.2 i v e;exact⟨_,h1,h2⟩
end
end L3
namespace L3
open PySem PySem.Spec
open PyProof.Rows hiding St
open L2 L6
def addK(ks:List Str)(k:Str):List Str:=if ks.contains k then ks else ks ++ [k]
def DctS(ks:List Str):Thg:=⟨λ_ _ W H v=>∃ a ws,v = .ref a/\W a/\H a=some (.dK ws)/\ws.map (·.1)=ks.map .inr,λ_ hW _ ⟨a,ws,e,w,q,z⟩=>⟨a,ws,e,(hW a _ w q).1,(hW a _ w q).2,z⟩⟩
theorem zml{ws:List (Key × V)}{ks:List Str}(h:ws.map (·.1)=ks.map .inr)(k:Str):(valV ws (.inr k)).isSome=ks.contains k:=by
 rw[<- zds];apply ZI.mpr;rw[List.any_eq_true,Jw];constructor
 ·rintro⟨p,hp,e⟩;have e:=GV e;have:p.1 ∈ ks.map JA:=by rw[<- h];exact Qp.mpr ⟨p,hp,rfl⟩
  obtain⟨x,hx,e'⟩:=Qp.mp this;rw[e] at e';rw[<- Yt e'];exact hx
 ·intro hk;have:(JA k:Key) ∈ ws.map (·.1):=by rw[h];exact Qp.mpr ⟨k,hk,rfl⟩
  obtain⟨p,hp,e⟩:=Qp.mp this;exact⟨p,hp,GW e⟩
theorem zu9{ws:List (Key × V)}{ks:List Str}{k:Str}{v:V}(h:ws.map (·.1)=ks.map .inr):(putK ws (.inr k) v).map (·.1)=(addK ks k).map .inr:=by
 have e:=zml h k;rw[<- zds] at e;unfold putK addK;rw[e]
 by_cases c:ks.contains k=true
 ·rw[GQ c,GQ c,QG,<- h];refine Jg λp _=>?_;show(if p.1 = .inr k then(p.1,v) else p).1=p.1
  by_cases z:p.1 = .inr k
  ·rw[GQ z]
  ·rw[GT z]
 ·rw[GT c,GT c,Qy,Qy,h];rfl
section
variable {K : PySem.W.Frag} {O : Ob}
def zwj(i:Nat):DS:=λDd ρ=>Dd.nx (ρ.set i (some (.thg (DctS []))))
theorem zub{i:Nat}:SD K O (tAsg zs2 (zao i)) (zwj i):=λH₀ A σ H ρ D Dd r q P=>by
 intro p hp;have st:Stp O H (upd H p (.dK [])) := .new r.ok hp _;have hW:∀ b,b=p->(A i b\/H b=Zl)/\∃ o,upd H p (.dK []) b=some o/\OwnO o:=λb e=>by subst e;exact⟨.inr hp,_,zad,ownK⟩
 exact P.nx _ _ _ _ (r.setT (W:=λb=>b=p) (T:=DctS []) st (λb u e _=>e) hW ⟨p,[],rfl,rfl,zad,rfl⟩) (.setT st (λb u e _=>e) λb m=>(hW b m).1) q
theorem zoc{H:Hp}{σ:St}{ρ:DSt}{n:Nat}{ks:List Str}(S:Seen K O H σ ρ)(h:ρ[n]? = some (some (.thg (DctS ks)))):∃ a ws,σ[n]? = some (some (.ref a))/\¬ O.M a/\H a=some (.dK ws)/\ws.map (·.1)=ks.map .inr:=by
 obtain⟨v,h1,W,hw,a,ws,rfl,w,q,z⟩:=S.at_ n _ h;exact⟨a,ws,h1,(hw a w).1,q,z⟩
def zvl(n:Nat)(fk:DE):DE:=λρ Q=>∃ ks,ρ[n]? = some (some (.thg (DctS ks)))/\fk ρ λr=>∃ x:Str,r.d = .str x/\Q (.o (.bool (!ks.contains x)))
theorem ztm{n:Nat}{t:TE}{f:DE}(h:ED K O t f):ED K O (znf t (tVar n)) (zvl n f):=λσ H ρ Q Qd S q k=>by
 obtain⟨ks,hd,q⟩:=q;refine h σ H ρ _ _ S q λy H1 r s1 o1 ⟨i,er,q1⟩=>?_;have iy:=o1.is S.ok S.p;rw[er] at iy;cases iy;obtain⟨a,ws,h1,nm,e,z⟩:=zoc (S.stp s1) hd;refine⟨_,h1,a,_,rfl,.k (k := .inr i) e,?_⟩;rw[zml z];exact k _ H1 (.o _) s1 (Is.bool _) q1
def zv4(n:Nat)(fk:DE):DS:=λDd ρ=>∃ ks,ρ[n]? = some (some (.thg (DctS ks)))/\fk ρ λr=>∃ x:Str,r.d = .str x/\ks.length<sizeLine/\Dd.nx (ρ.set n (some (.thg (DctS (addK ks x)))))
theorem zt9{n:Nat}{tk:TE}{fk:DE}{b:Bool}(hk:ED K O tk fk):SD K O (zf8 (tVar n) tk (tC (.bl b))) (zv4 n fk):=λH₀ A σ H ρ D Dd r q P=>by
 obtain⟨ks,e,q⟩:=q;obtain⟨v,hv,a,ws,rfl,w,hH,z⟩:=r.at_ n _ e;refine⟨_,hv,?_⟩;refine hk σ H ρ _ _ r.seen q λy H2 r2 st o2 ⟨x,e2,ln,q2⟩=>?_;have iy:=o2.is r.ok r.p;rw[e2] at iy;cases iy;have m:=(r.own n a w).2.2;have hH2:H2 a=some (.dK ws):=st.s a _ hH m;have lw:ws.length=ks.length:=by have:=Tb Yu z;simpa using this
 refine⟨a,_,rfl,DPut.k (k := .inr x) hH2 (by omega),?_⟩;have hW:∀ c,c=a->(A n c\/H c=Zl)/\∃ o,upd H2 a (.dK (putK ws (.inr x) (.bl b))) c=some o/\OwnO o:=λc e=>by subst e;exact⟨.inl w,_,zad,ownK⟩
 have stay:∀ c u,H2 c=some u->¬ A n c->upd H2 a (.dK (putK ws (.inr x) (.bl b))) c=some u:=λc u e n=>by
  rw[zaa λz=>n (by rw[z];exact w)];exact e
 have rr:=r.setT (i:=n) (v := .ref a) (W:=λc=>c=a) (T:=DctS (addK ks x)) st stay hW ⟨a,_,rfl,rfl,zad,zu9 z⟩;rw[zfa hv] at rr;exact P.nx _ _ _ _ rr (.setT st stay λc m=>(hW c m).1) q2
def zr4:List V->Hp->VK->Prop:=λxs H Q=>∃ (p:Addr) (ws:List (Key × V)),xs = [.ref p]/\H p=some (.dK ws)/\∀ l,H l=none->Q (.ref l) (upd H l (.lst (ws.map λp=>kV p.1)))
theorem zpp{X:Cx}(hc:X.calm=true):CallR X (.type "list") zr4:=by
 intro pins s σ H xs us Q I r h;obtain⟨p,ws,rfl,hH,q⟩:=h;obtain⟨u,rfl,ru⟩:=Vals.one r;cases ru;obtain⟨hz,hsm,kv,rkv,D⟩:=I.hok p _ hH;obtain⟨ep,D⟩:=D.dictAt;have lkv:ws.length=kv.length:=Paired.length rkv;refine zma (knd:=mixKind X.prog X.w) (I.ok.hd hc) hsm D (by omega) λh' tk vs c ext e hl hvs=>?_;have rv:Vals (ws.map λp=>kV p.1) vs.toList:=zj0 rkv (by simpa using hl) λi u hu=>hvs i u (by rw[<- QA];exact hu);refine⟨.ref s.heap.objs.size,_,I.laid (a:=s.heap.objs.size) (o := .lst (ws.map λp=>kV p.1)) (t':=tk) ext (Qc _) ?_,rfl,q _ (I.hok.fresh (Qc _))⟩;exact⟨by rw[Qe];exact hz,vs.toList,c,rv,by simpa using e⟩
def zqh(n:Nat):DE:=λρ Q=>∃ ks,ρ[n]? = some (some (.thg (DctS ks)))/\Q (.n (ks.map .str))
theorem zcd{F:Addr->Prop}{H:Hp}:∀ ks:List Str,IsAll K F H (ks.map V.str) (ks.map .str)
 | [] => .nil
 | _::ks => .cons (.str _) (zcd ks)
theorem zta{n:Nat}:ED K O (tCB zr4 (zaj (tVar n) tNil)) (zqh n):=λσ H ρ Q Qd S q k=>by
 obtain⟨ks,hd,q⟩:=q;obtain⟨a,ws,h1,nm,e,z⟩:=zoc S hd;refine⟨_,h1,a,ws,rfl,e,λl hl=>?_⟩
 have ez:(ws.map λp=>kV p.1)=ks.map V.str:=by
  rw[show(ws.map λp=>kV p.1)=(ws.map (·.1)).map kV by rw[QG];rfl,z,QG];rfl
 rw[ez];exact k _ _ (.n (ks.map .str)) (.new S.ok hl _) ⟨l,_,rfl,hl,zad,zcd ks⟩ q
end
section
variable {ι κ : Type} {P : Vf} {w : Vk} {K : PySem.W.Frag} {mg : Str → Option Vb} {base : Heap} {k : Nat} {X : ι → Cx} {O : κ → Ob} {a b : Expr} {fa fb : DE} {pos px p1 p2 : Pos} {x : Str} {v : Bool} {j : Nat}
theorem zxw(n:Nat)(hN:∀ i,(X i).N.Nodup:=by intro i;exact GV (by kernel_rfl))(hi:∀ i,(X i).N[n]? = some x:=by intro i;rfl)(hx:∀ i,Loc (X i).env.scope x:=by intro i;first|exact Or.inl rfl|exact Or.inr rfl)
 (hs:∀ i,VH (.Dict [] [] p1) (some (.Name x px)) pos.line (X i).env=pure false:=by intro i;rfl) (hf:∀ i,(X i).fn x=true\/(X i).env.scope.names.lookup x=some .local:=by intro i;first|exact .inl rfl|exact .inr rfl) :
 S3 K X O (.Assign [.Name x px] (.Dict [] [] p1) pos) (zwj n):=⟨_,λi=>zbt (hN i) (hi i) (hx i) zu2 (hs i) (hf i),λj=>zub⟩
theorem zw4(n:Nat)(C:Ctx3 P w K mg base k X)(ha:E3 K X O a fa)(hN:∀ i,(X i).N[n]? = some x:=by intro i;rfl)(hv:∀ i,Vis (X i).env.scope x:=by intro i;first|exact Or.inl rfl|exact Or.inr (Or.inl rfl)|exact Or.inr (Or.inr rfl))(hd:(x == ("__debug__" : Str))=false:=by decide)(hcd:(x == ("__classdict__" : Str))=false:=by decide)(hm:VS .NotIn (.Name x px)=false:=by rfl) :
 T3 K X O (.Compare a [.NotIn] [.Name x px] pos) (bD (zvl n fa)):=let ⟨_,p1,d1⟩:=ha; ⟨_,λi=>z1n (zs4 (zbf (C.room i)) (p1 i) (zag (pos:=px) (hN i) (hv i) hd hcd)) hm,λj=>zn8 (ztm (d1 j))⟩
theorem zxe(n:Nat)(C:Ctx3 P w K mg base k X)(hi:E3 K X O b fb)(hN:∀ i,(X i).N[n]? = some x:=by intro i;rfl)(hvx:∀ i,Vis (X i).env.scope x:=by intro i;first|exact Or.inl rfl|exact Or.inr (Or.inl rfl)|exact Or.inr (Or.inr rfl))(hd:(x == ("__debug__" : Str))=false:=by decide)(hcd:(x == ("__classdict__" : Str))=false:=by decide)
 (hs:∀ i,VH (.Constant (.bool v) j p2) (some (.Subscript (.Name x px) b p1)) pos.line (X i).env=pure false:=by intro i;rfl) :
 S3 K X O (.Assign [.Subscript (.Name x px) b p1] (.Constant (.bool v) j p2) pos) (zv4 n fb):=let ⟨_,q2,d2⟩:=hi; ⟨_,λi=>zeg (zbf (C.room i)) (zag (pos:=px) (hN i) (hvx i) hd hcd) (q2 i) zwo (hs i),λj=>zt9 (d2 j)⟩
theorem zth(n:Nat)(C:Ctx3 P w K mg base k X)(B:Blt mg)(hN:∀ i,(X i).N[n]? = some x:=by intro i;rfl)(hv:∀ i,Vis (X i).env.scope x:=by intro i;first|exact Or.inl rfl|exact Or.inr (Or.inl rfl)|exact Or.inr (Or.inr rfl))(hd:(x == ("__debug__" : Str))=false:=by decide)(hcd:(x == ("__classdict__" : Str))=false:=by decide)(hg:∀ i,Gl (X i) "list" := by intro i;rfl)(he:∀ i,Vg [.Name x px] (X i).env = [(false,eval (.Name x px) (X i).env)]:=by intro i;rfl) :
 E3 K X O (.Call (.Name "list" p1) [.Name x px] [] pos) (zqh n) :=
 ⟨_,λi=>zd1 (X:=X i) (zpp (C.calm i)) (hg i) (by rw[C.hmg];exact B.list) zi5 (zai (zag (pos:=px) (hN i) (hv i) hd hcd) zaq (he i)) (by decide) (by decide) (he i),λj=>zta⟩
end
def keyD(k:List Key):Ve := .tuple (k.map kD)
def zk1(P:Vf)(w:Vk)(m:Nat)(t:TS):TS:=λD σ H=>∃ a kvs,σ[m]? = some (some (.ref a))/\H a=some (.dT kvs)/\∀ o xs,TObj P w a o xs->KT H kvs xs->t D σ (upd H a (stl a o))
theorem zu8{X:Cx}{st:Stmt}{t:TS}{m:Nat}(h:PS X st t):PS X st (zk1 X.prog X.w m t):=by
 intro pins s σ H D I hq;obtain⟨a,kvs,_,ha,hq⟩:=hq;obtain⟨o,xs,T,r,I1⟩:=zqa I ha;exact h pins s σ _ D I1 (hq o xs T r)
section
variable {K : PySem.W.Frag} {O : Ob} {H₀ H : Hp} {A : Nat → Addr → Prop} {σ : St} {ρ : DSt} {P : Vf} {w : Vk}
theorem zi4:∀ {F:Addr->Prop} {k:List Key},IsAll K F H (k.map kV) (k.map kD)
 | F,[] => .nil
 | F,.inl i::k => .cons (.int i) zi4
 | F,.inr x::k => .cons (.str x) zi4
end
abbrev DLs:=List (List Key × List Str)
def DLs.at_(es:DLs)(k:List Key):Option (List Str):=(es.find? λp=>decide (p.1=k)).map (·.2)
def LV(W:Addr->Prop)(H:Hp):List (List Key × V)->DLs->Prop
 | [],[]=>True
 | (k,v)::ws,(j,ss)::es=>k=j/\(∃ b,v = .ref b/\W b/\H b=some (.lst (ss.map V.str)))/\LV W H ws es
 | _,_=>False
theorem LV.toL{W W':Addr->Prop}{H H':Hp}(hW:∀ a us,W a->H a=some (.lst us)->W' a/\H' a=some (.lst us)):∀ {ws:List (List Key × V)} {es:DLs},LV W H ws es->LV W' H' ws es
 | [],[],_=>trivial
 | [],_::_,h=>h.elim
 | _::_,[],h=>h.elim
 | (_,_)::_,(_,_)::_,h=>by
   obtain⟨h1,⟨b,e,w,q⟩,h3⟩:=h;exact⟨h1,⟨b,e,hW b _ w q⟩,LV.toL hW h3⟩
theorem LV.to{W W':Addr->Prop}{H H':Hp}(hW:∀ a u,W a->H a=some u->W' a/\H' a=some u){ws:List (List Key × V)}{es:DLs}(h:LV W H ws es):LV W' H' ws es:=h.toL λa _=>hW a _
theorem LV.length{W:Addr->Prop}{H:Hp}:∀ {ws:List (List Key × V)} {es:DLs},LV W H ws es->ws.length=es.length
 | [],[],_=>rfl
 | [],_::_,h=>h.elim
 | _::_,[],h=>h.elim
 | (_,_)::ws,(_,_)::es,h=>by rw[Qf,Qf,LV.length h.2.2]
theorem LV.val{W:Addr->Prop}{H:Hp}{i:List Key}:∀ {ws:List (List Key × V)} {es:DLs},LV W H ws es->(valV ws i).isSome=(es.at_ i).isSome/\∀ ss,es.at_ i=some ss->∃ b,valV ws i=some (.ref b)/\W b/\H b=some (.lst (ss.map V.str))
 | [],[],_=>⟨rfl,λd h=>by cases h⟩
 | [],_::_,h=>h.elim
 | _::_,[],h=>h.elim
 | (k,v)::ws,(j,ss)::es,h=>by
   obtain⟨rfl,⟨b,rfl,wb,hb⟩,t⟩:=h;obtain⟨h1,h2⟩:=LV.val (i:=i) t
   by_cases z:k=i
   ·subst z;have e1:valV ((k,V.ref b)::ws) k=some (.ref b):=by unfold valV;rw[Za (by simp)];rfl
    have e2:DLs.at_ ((k,ss)::es) k=some ss:=by unfold DLs.at_;rw[Za (by simp)];rfl
    rw[e1,e2];exact⟨rfl,λd hd=>by cases hd;exact⟨b,rfl,wb,hb⟩⟩
   ·have e1:valV ((k,V.ref b)::ws) i=valV ws i:=by unfold valV;rw[ZE (by simpa using z)]
    have e2:DLs.at_ ((k,ss)::es) i=DLs.at_ es i:=by unfold DLs.at_;rw[ZE (by simpa using z)]
    rw[e1,e2];exact⟨h1,h2⟩
theorem LV.snoc{W:Addr->Prop}{H:Hp}{k:List Key}{b:Addr}{ss:List Str}(w:W b)(hb:H b=some (.lst (ss.map V.str))):∀ {ws:List (List Key × V)} {es:DLs},LV W H ws es->LV W H (ws ++ [(k,.ref b)]) (es ++ [(k,ss)])
 | [],[],_=>⟨rfl,⟨b,rfl,w,hb⟩,trivial⟩
 | [],_::_,h=>h.elim
 | _::_,[],h=>h.elim
 | (_,_)::_,(_,_)::_,h=>⟨h.1,h.2.1,LV.snoc w hb h.2.2⟩
theorem zmn{ws:List (List Key × V)}{k:List Key}{v:V}(h:valV ws k=none):putK ws k v=ws ++ [(k,v)]:=by
 unfold putK;rw[GT];intro z;rw[zds,h] at z;cases z
theorem LV.mem{W:Addr->Prop}{H:Hp}:∀ {ws:List (List Key × V)} {es:DLs},LV W H ws es->∀ v ∈ ws.map (·.2),∃ b o,v = .ref b/\W b/\H b=some o
 | [],[],_,v,hv=>by cases hv
 | [],_::_,h,_,_=>h.elim
 | _::_,[],h,_,_=>h.elim
 | (k,u)::ws,(j,ss)::es,h,v,hv=>by
   rcases Qs.mp hv with rfl|hv
   ·obtain⟨b,e,w,q⟩:=h.2.1;exact⟨b,_,e,w,q⟩
   ·exact LV.mem h.2.2 v hv
abbrev vls(ws:List (List Key × V)):List V:=ws.map (·.2)
def DctL(es:DLs):Thg:=⟨λ_ _ W H v=>∃ (a:Addr) (ws:List (List Key × V)),v = .ref a/\W a/\H a=some (.dT ws)/\LV W H ws es/\(vls ws).Nodup,λ_ hW _ ⟨a,ws,e,w,q,z,nd⟩=>⟨a,ws,e,(hW a _ w q).1,(hW a _ w q).2,z.to hW,nd⟩⟩
def dlIn(n:Nat)(ρ:DSt)(es:DLs):Prop:=ρ[n]? = some (some (.thg (DctL es)))\/ρ[n]? = some (some (.thr (DctL es)))
section
variable {K : PySem.W.Frag} {O : Ob}
theorem zw9{H:Hp}{σ:St}{ρ:DSt}{n:Nat}{es:DLs}(S:Seen K O H σ ρ)(h:dlIn n ρ es):∃ a ws,σ[n]? = some (some (.ref a))/\H a=some (.dT ws)/\LV (λb=>¬ O.M b) H ws es/\¬ O.M a:=by
 rcases h with e|e
 ·obtain⟨v,h1,W,hw,a,ws,rfl,w,q,z,_⟩:=S.at_ n _ e;exact⟨a,ws,h1,q,z.to λb u wb hb=>⟨(hw b wb).1,hb⟩,(hw a w).1⟩
 ·obtain⟨v,h1,W,hw,a,ws,rfl,w,q,z,_⟩:=S.at_ n _ e;exact⟨a,ws,h1,q,z.to λb u wb hb=>⟨(hw b wb).1,hb⟩,(hw a w).1⟩
def zwy(n:Nat)(fa fb:DE):DE:=λρ Q=>∃ es,dlIn n ρ es/\fa ρ λr1=>fb ρ λr2=>∃ (k1 k2:Key) (ss:List Str),r1.d=kD k1/\r2.d=kD k2/\es.at_ [k1,k2]=some ss/\Q (.o (.list (ss.map .str)))
theorem zu3{n:Nat}{ta tb:TE}{fa fb:DE}(ha:ED K O ta fa)(hb:ED K O tb fb):ED K O (zkz (tVar n) (tTup (zaj ta (zaj tb tNil)))) (zwy n fa fb):=λσ H ρ Q Qd S q k=>by
 obtain⟨es,hd,q⟩:=q;obtain⟨a,ws,h0,hH,z,nm⟩:=zw9 S hd;refine⟨_,h0,?_⟩;refine ha σ H ρ _ _ S q λx H1 r1 s1 o1 q1=>?_;refine hb σ H1 ρ _ _ (S.stp s1) q1 λy H2 r2 s2 o2 ⟨k1,k2,ss,d1,d2,at_,q2⟩=>?_;have ix:=o1.is S.ok S.p;have iy:=o2.is S.ok (s1.p S.p);rw[d1] at ix;rw[d2] at iy;obtain rfl:=zcu ix;obtain rfl:=zcu iy;refine⟨by show 2<=sizeLine;rw[Vj];omega,λp hp=>?_⟩;have st:Stp O H (upd H2 p (.tup [kV k1,kV k2])):=(s1.trans s2).trans (.new S.ok hp _);have hH2:=st.s a _ hH nm;obtain⟨b,hv,nb,hb'⟩:=z.val.2 ss at_;have g:DGet (upd H2 p (.tup [kV k1,kV k2])) a (.ref p) (some (.ref b)):=by rw[<- hv];exact .t (k := [k1,k2]) hH2 zad
 exact⟨a,.ref b,rfl,g,k _ _ (.o (.list (ss.map .str))) st (.list nb (st.s b _ hb' nb) (zcd ss)) q2⟩
def zwu(i:Nat):DS:=λDd ρ=>Dd.nx (ρ.set i (some (.thg (DctL []))))
theorem zt8{i:Nat}:SD K O (tAsg zr9 (zao i)) (zwu i):=λH₀ A σ H ρ D Dd r q P=>by
 intro p hp;have st:Stp O H (upd H p (.dT [])) := .new r.ok hp _;have hW:∀ b,b=p->(A i b\/H b=Zl)/\∃ o,upd H p (.dT []) b=some o/\OwnO o:=λb e=>by subst e;exact⟨.inr hp,_,zad,ownT⟩
 exact P.nx _ _ _ _ (r.setT (W:=λb=>b=p) (T:=DctL []) st (λb u e _=>e) hW ⟨p,[],rfl,rfl,zad,trivial,Jp⟩) (.setT st (λb u e _=>e) λb m=>(hW b m).1) q
def zv1(n:Nat)(fv fa fb:DE):DS:=λDd ρ=>∃ es,ρ[n]? = some (some (.thg (DctL es)))/\fv ρ λr=>fa ρ λr1=>fb ρ λr2=>∃ (ss:List Str) (k1 k2:Key),r = .n (ss.map .str)/\r1.d=kD k1/\r2.d=kD k2/\es.at_ [k1,k2]=none/\es.length<sizeLine/\Dd.nx (ρ.set n (some (.thg (DctL (es ++ [([k1,k2],ss)])))))
theorem zcy{F:Addr->Prop}{H:Hp}:∀ {ss:List Str} {xs:List V},IsAll K F H xs (ss.map .str)->xs=ss.map V.str
 | [],xs,h=>by cases h;rfl
 | s::ss,xs,h=>by
   rw[Qn] at h
   cases h with
   | cons a b=>cases a;rw[zcy b];rfl
theorem zli{H₀ H H4:Hp}{A:Nat->Addr->Prop}{σ:St}{ρ:DSt}{n:Nat}{a l:Addr}{ws:List (List Key × V)}{es:DLs}{ss:List Str}{k:List Key}(r:Rep K O H₀ A H σ ρ)(hv0:σ[n]? = some (some (.ref a)))(w:A n a)(hH:H a=some (.dT ws))(z:LV (A n) H ws es)(nd:(vls ws).Nodup)
 (st:Stp O H H4) (hn:H l=none) (hl4:H4 l=some (.lst (ss.map V.str))) (nw:es.at_ k=none) :
 Rep K O H₀ (reg A n λc=>A n c\/c=l) (upd H4 a (.dT (putK ws k (.ref l)))) σ (ρ.set n (some (.thg (DctL (es ++ [(k,ss)])))))/\Frm O A H (reg A n λc=>A n c\/c=l) (upd H4 a (.dT (putK ws k (.ref l)))):=by
 have vn:valV ws k=none:=by
  have:=(z.val (i:=k)).1;rw[nw] at this
  cases h:valV ws k with
  | none=>rfl
  | some v=>rw[h] at this;cases this
 rw[zmn vn];have la:l ≠ a:=λe=>by rw[e,hH] at hn;cases hn
 have hW:∀ c,(A n c\/c=l)->(A n c\/H c=Zl)/\∃ o,upd H4 a (.dT (ws ++ [(k,.ref l)])) c=some o/\OwnO o:=λc hc=>by
  rcases hc with hc|hc
  ·refine⟨.inl hc,?_⟩
   by_cases ca:c=a
   ·subst ca;exact⟨_,zad,ownT⟩
   ·obtain⟨_,⟨o,ho,oo⟩,nm⟩:=r.own n c hc;exact⟨o,by rw[zaa ca];exact st.s c o ho nm,oo⟩
  ·subst hc;exact⟨.inr hn,_,by rw[zaa la];exact hl4,.lst⟩
 have stay:∀ c u,H4 c=some u->¬ A n c->upd H4 a (.dT (ws ++ [(k,.ref l)])) c=some u:=λc u e n=>by
  rw[zaa λz=>n (by rw[z];exact w)];exact e
 have lv:LV (λc=>A n c\/c=l) (upd H4 a (.dT (ws ++ [(k,.ref l)]))) (ws ++ [(k,.ref l)]) (es ++ [(k,ss)]) :=
  LV.snoc (.inr rfl) (by rw[zaa la];exact hl4) (z.toL λb us wb q=>⟨.inl wb,by rw[zaa λz=>by rw[z,hH] at q;cases q];exact st.s b _ q (r.own n b wb).2.2⟩)
 have nd':(vls (ws ++ [(k,V.ref l)])).Nodup:=by
  show((ws ++ [(k,V.ref l)]).map (·.2)).Nodup;rw[Qy];refine Zx.mpr ⟨nd,by simp,λx hx y hy e=>?_⟩;obtain rfl:=Qg.mp hy;obtain⟨b,o,e1,_,e2⟩:=z.mem x hx;rw[e1] at e;cases e;rw[hn] at e2;cases e2
 have rr:=r.setT (i:=n) (v := .ref a) (W:=λc=>A n c\/c=l) (T:=DctL (es ++ [(k,ss)])) st stay hW ⟨a,_,rfl,.inl w,zad,lv,nd'⟩;rw[zfa hv0] at rr;exact⟨rr,.setT st stay λc m=>(hW c m).1⟩
theorem ztw{n:Nat}{tv ta tb:TE}{fv fa fb:DE}(hv:ED K O tv fv)(ha:ED K O ta fa)(hb:ED K O tb fb):SD K O (zf8 (tVar n) (tTup (zaj ta (zaj tb tNil))) tv) (zv1 n fv fa fb):=λH₀ A σ H ρ D Dd r q P=>by
 obtain⟨es,e,q⟩:=q;obtain⟨v0,hv0,a,ws,rfl,w,hH,z,nd⟩:=r.at_ n _ e;refine hv σ H ρ _ _ r.seen q λv H1 r0 s1 o1 q1=>?_;refine⟨_,hv0,?_⟩;refine ha σ H1 ρ _ _ (r.seen.stp s1) q1 λx H2 r1 s2 o2 q2=>?_;refine hb σ H2 ρ _ _ ((r.seen.stp s1).stp s2) q2 λy H3 r2 s3 o3 ⟨ss,k1,k2,er,d1,d2,nw,ln,q3⟩=>?_;subst er;obtain⟨l,xs,rfl,hn,hl,hs⟩:=o1;obtain rfl:=zcy hs;have ix:=o2.is r.ok (s1.p r.p);have iy:=o3.is r.ok ((s1.trans s2).p r.p);rw[d1] at ix;rw[d2] at iy;obtain rfl:=zcu ix;obtain rfl:=zcu iy;refine⟨by show 2<=sizeLine;rw[Vj];omega,λp hp=>?_⟩;have st23:Stp O H1 (upd H3 p (.tup [kV k1,kV k2])):=(s2.trans s3).trans (.new r.ok hp _);have st:Stp O H (upd H3 p (.tup [kV k1,kV k2])):=s1.trans st23;obtain⟨rr,ff⟩:=zli r hv0 w hH z nd st hn (st23.s l _ hl (zg5 r.ok r.p hn)) nw;exact⟨a,_,rfl,DPut.t (k := [k1,k2]) (st.s a _ hH (r.own n a w).2.2) zad (by rw[z.length];exact ln),P.nx _ _ _ _ rr ff q3⟩
end
section
variable {ι κ : Type} {P : Vf} {w : Vk} {K : PySem.W.Frag} {mg : Str → Option Vb} {base : Heap} {k : Nat} {X : ι → Cx} {O : κ → Ob} {a b e : Expr} {fa fb fe : DE} {pos px p1 p3 : Pos} {x : Str}
theorem zok(n:Nat)(hN:∀ i,(X i).N.Nodup:=by intro i;exact GV (by kernel_rfl))(hi:∀ i,(X i).N[n]? = some x:=by intro i;rfl)(hx:∀ i,Loc (X i).env.scope x:=by intro i;first|exact Or.inl rfl|exact Or.inr rfl)
 (hs:∀ i,VH (.Dict [] [] p1) (some (.Name x px)) pos.line (X i).env=pure false:=by intro i;rfl) (hf:∀ i,(X i).fn x=true\/(X i).env.scope.names.lookup x=some .local:=by intro i;first|exact .inl rfl|exact .inr rfl) :
 S3 K X O (.Assign [.Name x px] (.Dict [] [] p1) pos) (zwu n):=⟨_,λi=>zbt (hN i) (hi i) (hx i) ztz (hs i) (hf i),λj=>zt8⟩
theorem zgk(n:Nat){c:_}(C:Ctx3 P w K mg base k X)(ha:E3 K X O a fa)(hb:E3 K X O b fb)(hN:∀ i,(X i).N[n]? = some x:=by intro i;rfl)(hv:∀ i,Vis (X i).env.scope x:=by intro i;first|exact Or.inl rfl|exact Or.inr (Or.inl rfl)|exact Or.inr (Or.inr rfl))(hd:(x == ("__debug__" : Str))=false:=by decide)(hcd:(x == ("__classdict__" : Str))=false:=by decide)
 (h1:∀ i,Vg [a,b] (X i).env=(false,eval a (X i).env)::Vg [b] (X i).env:=by intro i;rfl) (h2:∀ i,Vg [b] (X i).env=(false,eval b (X i).env)::Vg [] (X i).env:=by intro i;rfl) (hs:NoSl (.Tuple [a,b] c p3):=by intro _ _;rfl) :
 E3 K X O (.Subscript (.Name x px) (.Tuple [a,b] c p3) pos) (zwy n fa fb):=let ⟨_,q1,d1⟩:=ha;let ⟨_,q2,d2⟩:=hb; ⟨_,λi=>zb1 (zbf (C.room i)) (zag (pos:=px) (hN i) (hv i) hd hcd) (zdj (zai (q1 i) (zai (q2 i) zaq (h2 i)) (h1 i))) hs,λj=>zu3 (d1 j) (d2 j)⟩
theorem zyn(n:Nat){c:_}(C:Ctx3 P w K mg base k X)(he:E3 K X O e fe)(ha:E3 K X O a fa)(hb:E3 K X O b fb)(hN:∀ i,(X i).N[n]? = some x:=by intro i;rfl)(hv:∀ i,Vis (X i).env.scope x:=by intro i;first|exact Or.inl rfl|exact Or.inr (Or.inl rfl)|exact Or.inr (Or.inr rfl))(hd:(x == ("__debug__" : Str))=false:=by decide)(hcd:(x == ("__classdict__" : Str))=false:=by decide)
 (hs:∀ i,VH e (some (.Subscript (.Name x px) (.Tuple [a,b] c p3) p1)) pos.line (X i).env=pure false:=by intro i;rfl)
 (h1:∀ i,Vg [a,b] (X i).env=(false,eval a (X i).env)::Vg [b] (X i).env:=by intro i;rfl) (h2:∀ i,Vg [b] (X i).env=(false,eval b (X i).env)::Vg [] (X i).env:=by intro i;rfl) :
 S3 K X O (.Assign [.Subscript (.Name x px) (.Tuple [a,b] c p3) p1] e pos) (zv1 n fe fa fb) :=
 let ⟨_,q0,d0⟩:=he;let ⟨_,q1,d1⟩:=ha;let ⟨_,q2,d2⟩:=hb; ⟨_,λi=>zeg (zbf (C.room i)) (zag (pos:=px) (hN i) (hv i) hd hcd) (zdj (zai (q1 i) (zai (q2 i) zaq (h2 i)) (h1 i))) (q0 i) (hs i),λj=>ztw (d0 j) (d1 j) (d2 j)⟩
end
def Itdn(lo:Int)(n:Nat):It:=⟨λi _=>i<n,λi H x H'=>H'=H/\x = .int (lo - i),λi _=>n<=i⟩
theorem zrc{P:Vf}{w:Vk}{K:PySem.W.Frag}{tg:Expr}(it:Addr)(lo:Int)(n:Nat):Turn P w K tg (Itdn lo n) [it] it (λi h=>Gj h it (lo+(i:Nat) * -1) ((n:Int) - (i:Nat)) (-1)) where
 mem:=by simp
 obj:=λi h st b hb=>by
  have e:b=it:=by simpa using hb
  subst e
  exact⟨_,st,λv z=>by
   have z':Data.fields _=Data.cell v:=z
   cases z'⟩
 keep:=λi h h' st k=>k it (by simp) _ st
 item:=by
  intro X hP hw hK hc i pins s σ H E I hf st hg;subst hP hw hK;obtain⟨f0,f1,f2,f3,f4,f5⟩:=hf it (by simp);have W:=Walks.range (prog:=X.prog) (w:=X.w) (I.ok.hd hc) it lo (-1) n;refine W.item i s _ _ hg st λv h' tk hv st' kk=>?_;obtain⟨t,rfl⟩:=hv;have I1:Inv X pins σ H { s with heap:=h',toks:=tk }:=I.turned (λb o hb e=>kk b o (by simpa using hb) e) f0 f1 f3 f4 f5;refine⟨_,rfl,zkr (s:={ s with heap:=h',toks:=tk }) (n := "range_iterator") st' rfl rfl (by decide) ⟨.int (lo - i),H,I1,⟨t,?_⟩,⟨rfl,rfl⟩,st',λb hb=>(hf b hb).1⟩⟩;have e:lo+(i:Int) * -1=lo - i:=by omega
  rw[e]
 done:=by
  intro X hP hw hK hc i pins s σ H E I hf st hg;subst hP hw hK;obtain⟨f0,f1,f2,f3,f4,f5⟩:=hf it (by simp);exact Gb (I.ok.hd hc) st (by have:n<=i:=hg;omega) λh' eb=>⟨rfl,I.turned (t':=s.toks) (λb o hb e=>eb b o hb e) f0 f1 f3 f4 f5⟩
 self:=λ_ _ _ _ _ st h=>Ga st h
theorem zkj(lo hi:Int):Builtin.Range.rangeSize lo hi (-1)=((lo - hi).toNat:Int):=by
 unfold Builtin.Range.rangeSize;rw[GT (by decide)]
 split
 ·have:(lo - hi - 1) / (- -1:Int)=lo - hi - 1:=by
   rw[show(- -1:Int)=1 from rfl,Int.ediv_one]
  rw[this];omega
 ·omega
theorem zp3{lo hi:Int}(h1:-(2 ^ 30)<=lo)(h2:lo<2 ^ 30)(h3:-(2 ^ 30)<=hi)(h4:hi<2 ^ 30):Builtin.Range.small lo hi (-1)=true:=by
 have e:=zkj lo hi;unfold Builtin.Range.small;rw[e];simp only[Builtin.Range.rangeFitsLong,Q5,jn,GY,Te,show ¬ (-1:Int) > 0 by decide,GX];omega
section
variable {X : Cx} {tg : Expr}
theorem zy8{pins:List (Addr × Obj)}{σ:St}{H:Hp}{s:Vc}{R:It->Hp->Prop}{E:Vb->Vc->Prop}{lo hi:Int}{t u v:Tok}{tk:Nat}(I:Inv X pins σ H s)(h1:-(2 ^ 30)<=lo)(h2:lo<2 ^ 30)(h3:-(2 ^ 30)<=hi)(h4:hi<2 ^ 30)
 (q:R (Itdn lo (lo - hi).toNat) H):wpAny (model X.prog X.w) X.A (U2 (.ref s.heap.objs.size)) (PIE X pins σ tg R) E { s with heap:=s.heap.push { cls := .type "range", data := .fields #[.int lo t,.int hi u,.int (-1) v] },toks:=tk }:=by
 refine wpAny_pyIter_range (IsRange.new ..) (zp3 h1 h2 h3 h4) ?_;have I1:Inv X pins σ H { s with heap:=s.heap.push { cls := .type "range", data := .fields #[.int lo t,.int hi u,.int (-1) v] },toks:=tk }:=I.kept λb o e=>Heap.get?_push_of_some _ e
 refine⟨(s.heap.push { cls := .type "range", data := .fields #[.int lo t,.int hi u,.int (-1) v] }).objs.size,[(s.heap.push { cls := .type "range", data := .fields #[.int lo t,.int hi u,.int (-1) v] }).objs.size],_,_,H,rfl,
  I1.kept (t':=tk) λb o e=>Heap.get?_push_of_some _ e,zrc _ lo (lo - hi).toNat,?_,λb hb=>?_,q⟩
 ·have e1:lo+((0:Nat):Int) * -1=lo:=by omega
  have e2:(((lo - hi).toNat:Nat):Int) - ((0:Nat):Int)=Builtin.Range.rangeSize lo hi (-1):=by rw[zkj];omega
  show Gj _ _ (lo+((0:Nat):Int) * -1) ((((lo - hi).toNat:Nat):Int) - ((0:Nat):Int)) (-1);rw[e1,e2];exact Heap.get?_push_size _ rfl
 ·have e:b=(s.heap.push { cls := .type "range", data := .fields #[.int lo t,.int hi u,.int (-1) v] }).objs.size:=by simpa using hb
  subst e;exact I1.fpOk (Qc _) (I1.hok.fresh (Qc _))
def zwa(ta:TA):TI:=λσ H R=>ta σ H λvs H1=>∃ i j:Int,vs = [.int i,.int j,.int (-1)]/\(-(2 ^ 30)<=i/\i<2 ^ 30/\-(2 ^ 30)<=j/\j<2 ^ 30)/\R (Itdn i (i - j).toNat) H1
theorem zrd{a b c:Expr}{ta:TA}{p pos:Pos}(hg:Gl X "range")(hm:X.mg "range" = none)(ha:PA X [a,b,c] ta)(hs:Vg [a,b,c] X.env = [(false,eval a X.env),(false,eval b X.env),(false,eval c X.env)]:=by rfl)(hs2:Vg [b,c] X.env = [(false,eval b X.env),(false,eval c X.env)]:=by rfl) :
 PI X tg (.Call (.Name "range" p) [a,b,c] [] pos) (zwa ta):=by
 intro pins s σ H R I h;refine Call_ (zb6 I hg hm boot_range (QT (thn (ha pos pins s σ H _ I h) λus s1 ⟨vs,H1,I1,r1,q1⟩=>?_) (by rw[hs,hs2]) (by rw[hs2];rfl)));obtain⟨i,j,e,⟨q1,q2,q3,q4⟩,q⟩:=q1;subst e
 cases r1 with
 | cons r rr =>
   cases rr with
   | cons r' rr =>
     cases rr with
     | cons r'' rr =>
       cases rr;obtain⟨t,rfl⟩:=r;obtain⟨t',rfl⟩:=r';obtain⟨t'',rfl⟩:=r'';exact call_range_3 (by decide) (zy8 I1 q1 q2 q3 q4 q) (.inl (Yf (by decide)))
end
def ze6(lo:Int)(n:Nat):List Ve:=(Qx n).map λk => .int (lo - (k:Nat))
theorem zfj{lo:Int}{n j:Nat}{d:Ve}(h:(ze6 lo n)[j]? = some d):j<n/\d = .int (lo - (j:Nat)):=by
 unfold ze6 at h;rw[Qk] at h;obtain⟨x,hx,rfl⟩:=Q0.mp h;obtain⟨h1,h2⟩:=Qi.mp hx;rw[Zo] at h2;rw[QF] at h1;exact⟨h1,by rw[h2]⟩
theorem zjn(lo:Int)(n:Nat):(ze6 lo n).length=n:=by simp[ze6]
section
variable {K : PySem.W.Frag} {O : Ob}
theorem zrp{H H1:Hp}(st:Stp O H H1)(lo:Int)(n:Nat):Walk K O H H1 (Itdn lo n) (ze6 lo n) (λ_=>False) :=
 ⟨st,λb hb=>hb.elim,λH2 i _ _ hi=>(show n<=i by simpa[ze6] using hi),λH2 i d _ t2 hd c=>by
  obtain⟨hi,rfl⟩:=zfj hd;refine⟨hi,λx H3 ⟨e3,y⟩=>?_⟩;subst e3 y
  exact⟨Same.refl _,.int _⟩⟩
def zwx(g:DA):DI:=λρ Q=>g ρ λds=>∃ i j:Int,ds = [.int i,.int j,.int (-1)]/\(-(2 ^ 30)<=i/\i<2 ^ 30/\-(2 ^ 30)<=j/\j<2 ^ 30)/\Q true (ze6 i (i - j).toNat)
theorem zuv{t:TA}{g:DA}(h:AD K O t g):SrcS K O (zwa t) (zwx g):=λσ H ρ R Qd S hf k=>by
 refine h σ H ρ _ _ S hf λvs H1 ds st is ⟨i,j,e,b,q⟩=>?_;subst e
 cases is with
 | cons i0 is =>
   cases is with
   | cons i1 is =>
     cases is with
     | cons i2 is =>
       cases is;cases i0;cases i1;cases i2;exact⟨i,j,rfl,b,k _ H1 _ _ true (zrp st i (i - j).toNat) (λ_ _ hb=>hb.elim) q⟩
end
theorem i_rD{ι κ:Type}{P:Vf}{w:Vk}{K:PySem.W.Frag}{mg:Str->Option Vb}{base:Heap}{k:Nat}{X:ι->Cx}{O:κ->Ob}{tg a b c:Expr}{pos p:Pos}{ga:DA}(C:Ctx3 P w K mg base k X)(B:Blt mg)(ha:A3 K X O [a,b,c] ga)(hg:∀ i,Gl (X i) "range" := by intro i;rfl)(hs:∀ i,Vg [a,b,c] (X i).env = [(false,eval a (X i).env),(false,eval b (X i).env),(false,eval c (X i).env)]:=by intro i;rfl)(hs2:∀ i,Vg [b,c] (X i).env = [(false,eval b (X i).env),(false,eval c (X i).env)]:=by intro i;rfl) :
 I3 K X O tg (.Call (.Name "range" p) [a,b,c] [] pos) (zwx ga):=let ⟨_,q,d⟩:=ha; ⟨_,λi=>zrd (hg i) (by rw[C.hmg];exact B.range) (q i) (hs i) (hs2 i),λj=>zuv (d j)⟩
end L3
namespace L3
open PySem PySem.Spec
open PyProof.Rows hiding St
open L2 SX HK L6
theorem znn{K:PySem.W.Frag}{F:Addr->Prop}{H:Hp}:∀ {vs:List V} {its:List Vb} {ps:List Ve},Vals vs its->IsAll K F H vs ps->(∀ d ∈ ps,∃ ds,d = .tuple ds)->∃ qs:List (Addr × Ve),its=qs.map (λq=>Value.ref q.1)/\ps=qs.map (·.2)/\∀ q ∈ qs,Is K F H (.ref q.1) q.2
 | [],_,_,rv,ia,_=>by
   cases rv;cases ia;exact⟨[],rfl,rfl,λq hq=>by cases hq⟩
 | v::vs,_,_,rv,ia,tu=>by
   cases rv with
   | cons r rv =>
   cases ia with
   | cons i ia =>
     obtain⟨qs,e1,e2,e3⟩:=znn rv ia λd hd=>tu d (Qb _ hd);obtain⟨ds,rfl⟩:=tu _ (Qt ..)
     cases i with
     | tuple q1 q2 =>
       cases r;refine⟨(_,.tuple ds)::qs,by rw[e1];rfl,by rw[e2];rfl,λq hq=>?_⟩;rcases Qs.mp hq with rfl|hq
       ·exact .tuple q1 q2
       ·exact e3 q hq
def znz(K:PySem.W.Frag):List V->Hp->VK->Prop:=λxs H Q=>∃ (p:Addr) (vs:List V) (ps:List Ve) (F:Addr->Prop) (τ:Sh) (d0:Ve),xs = [.ref p]/\SqL K H p vs/\IsAll K F H vs ps/\(∀ d ∈ ps,TupK d)/\zah τ d0/\(∀ d ∈ ps,zah τ d)/\ps.length<=1000000/\ps.Nodup /\
 ∀ (zs:List Ve) (ys:List V) l,zs.Perm ps->zs.Pairwise (λa b=>dlt a b=true)->IsAll K F H ys zs->H l=none->Q (.ref l) (upd H l (.lst ys))
theorem zmx{X:Cx}(hu:X.A.units+64<cLine):CallR X (.builtin "sorted") (znz X.K):=by
 intro pins s σ H xs us Q I r h;obtain⟨p,vs0,ps,F,τ,d0,rfl,hH,ia,tk,sh0,sh,hz,nd,q⟩:=h;obtain⟨u,rfl,ru⟩:=Vals.one r;cases ru;obtain⟨vs,rv,pl,hsz⟩:=I.list hH;obtain⟨o,e,c,n,dt⟩:=pl.isList;obtain⟨qs,q2,qp,qi⟩:=znn rv ia λd hd=>(tk d hd).tu;have vl:vs.length=qs.length:=by rw[q2,Qe]
 have pl':ps.length=qs.length:=by rw[qp,Qe]
 have sz:=Vj;refine Calls.call_function_entry GE GA G9 (args_sorted1 _) ?_;unfold Builtin.«sorted»;refine Va (m:=checkCount "sorted" 1 1 _) (Vd ?_);refine Va (wpAny_collect_seq p (.inl rfl) e c dt (λh' ex=>?_) (by simp;omega));show wpAny _ _ (newList vs >>= _) _ _ _;refine Va (Uz ?_ (by rw[Vj];omega));have eL:(h'.push (seqObj "list" vs.toArray 0)).get? h'.objs.size=some (seqObj "list" vs.toArray 0):=Heap.get?_push_size _ rfl;have sh':∀ d ∈ qs.map (·.2),zah τ d:=λd hd=>sh d (by rw[qp];exact hd);have kt':∀ d ∈ qs.map (·.2),TupK d:=λd hd=>tk d (by rw[qp];exact hd)
 have ke:zpx s.heap (zf5 (h'.push (seqObj "list" vs.toArray 0)) h'.objs.size vs):=λb o xs n e _=>by
  have eb:=ex b o e;have lb:=Heap.lt_size eb;have nb:b ≠ h'.objs.size:=Qm lb;have lb2:b<(h'.push (seqObj "list" vs.toArray 0)).objs.size:=by rw[Uh];exact QI lb
  rw[Heap.get?_push_ne _ _ _ (by rw[Uh,Heap.size_update];exact Qm (QI lb2)),Heap.get?_push_ne _ _ _ (by rw[Heap.size_update];exact Qm lb2),Heap.get?_update_ne _ _ _ _ nb];exact Heap.get?_push_of_some _ eb
 have KO:∀ A:Vl,A.units+12<cLine->KeysOk X.prog X.w A { s with heap:=zf5 (h'.push (seqObj "list" vs.toArray 0)) h'.objs.size vs } vs vs (λa b:{ d:Ve // zah τ d }=>dlt a.1 b.1) (λi=>⟨(qs.map (·.2)).getD i d0,zn6 sh0 sh' i⟩):=λA hA=>by
  refine zxk sh0 sh' (by rw[vl];simp) (λd hd=>(kt' d hd).la) (λd hd=>(kt' d hd).de) hA λi v d hv hd=>?_;rw[q2,Qk] at hv;rw[Qk] at hd
  cases hq:qs[i]? with
  | none=>rw[hq] at hv;cases hv
  | some q =>
    rw[hq] at hv hd;cases hv;cases hd;have mq:=Q6 hq;obtain⟨as,r⟩:=(qi q mq).reads I (u := .ref q.1) rfl;have tq:=kt' q.2 (Qp.mpr ⟨q,mq,rfl⟩);obtain⟨ds,eds⟩:=tq.tu;exact⟨q.1,ds,as,rfl,eds,tq.keep ke r⟩
 refine Va (Vr (Vn Gq ⟨_,eL,rfl⟩ Gd (zg7 (s:={ s with heap:=h'.push (seqObj "list" vs.toArray 0) }) eL (by omega) (KO _ (by show X.A.units+1+1+12<cLine;omega)) λix o=>⟨_,rfl,?_⟩) (args_list_sort _)));obtain⟨c',ec⟩:=sortedHeap_at (out:=(zbj vs ix).toArray) eL;have hb:∀ i,i<vs.length->ix i<qs.length:=λi hi=>by rw[<- vl];exact o.bj.lt i hi
 have gq:∀ i,i<vs.length->qs[ix i]? = some (qs.getD (ix i) (0,.none)):=λi hi=>by
  rw[Qq,Qa (hb i hi)];rfl
 have ep2:zbj vs ix=((Qx vs.length).map λi=>qs.getD (ix i) (0,.none)).map λq=>Value.ref q.1:=by
  unfold zbj;rw[QG];refine Jg λi hi=>?_;have hi':=QK.mp hi;show vs.getD (ix i) .none=Value.ref (qs.getD (ix i) (0,.none)).1;rw[Qq,q2,Qk,gq i hi'];rfl
 have pq:((Qx vs.length).map λi=>qs.getD (ix i) (0,.none)).Perm qs:=by
  have h1:=o.bj.perm.map (λi=>qs.getD i (0,PyData.none));rw[QG] at h1;refine h1.trans ?_
  have:(Qx vs.length).map (λi=>qs.getD i (0,PyData.none))=qs:=by
   rw[vl];refine ZB λi=>?_
   by_cases hi:i<qs.length
   ·simp[hi]
   ·rw[Qu (by simp;omega),Qu (by omega)]
  rw[this]
 have I':Inv X pins σ H { s with heap:=h' }:=I.kept (t':=s.toks) ex;have hn:H h'.objs.size=none:=I'.hok.fresh (Qc _);generalize hqs:(Qx vs.length).map (λi=>qs.getD (ix i) (0,PyData.none))=rs at ep2 pq;have zp:(rs.map (·.2)).Perm ps:=by rw[qp];exact pq.map _
 refine Vd ⟨_,rfl,.ref h'.objs.size,_,I'.laid (a:=h'.objs.size) (o := .lst (rs.map λq=>V.ref q.1)) (t':=s.toks) (λb o eb=>?_) (Qc _) ?_,rfl,q (rs.map (·.2)) _ _ zp ?_ (zl7 λz hz=>qi z (pq.mem_iff.mp hz)) hn⟩
 ·have eb:h'.get? b=some o:=eb;have nb:b ≠ h'.objs.size:=Qm (Heap.lt_size eb);show(G4 (h'.push (seqObj "list" vs.toArray 0)) h'.objs.size vs _).get? b=_;rw[sortedHeap_old nb (by rw[Uh];exact QI (Heap.lt_size eb))];exact Heap.get?_push_of_some _ eb
 ·refine⟨?_,_,c',zjy rs,by rw[<- ep2];exact ec⟩;rw[Qe,pq.length_eq];omega
 ·rw[<- hqs,QG,Zw,QR];intro i j hi hj hij;simp only[QF] at hi hj;simp only[Zo]
  have gd:∀ i,i<vs.length->(qs.map (·.2)).getD (ix i) d0=(qs.getD (ix i) (0,.none)).2:=λi hi=>by
   rw[Qq,Qk,gq i hi];rfl
  have up:=(o.up i j hij hj).le (zwz τ);dsimp only at up;rw[gd i hi,gd j hj] at up;have mi:(qs.getD (ix i) (0,.none)).2 ∈ qs.map (·.2):=Qp.mpr ⟨_,Q6 (gq i hi),rfl⟩;have mj:(qs.getD (ix j) (0,.none)).2 ∈ qs.map (·.2):=Qp.mpr ⟨_,Q6 (gq j hj),rfl⟩;rcases(zhm τ).tri _ _ (sh' _ mi) (sh' _ mj) with z|z|z
  ·exact z
  ·exfalso;have nd:(qs.map (·.2)).Nodup:=by rw[<- qp];exact nd
   have e1:(qs.map (·.2))[ix i]? = (qs.map (·.2))[ix j]?:=by
    rw[Qk,Qk,gq i hi,gq j hj];exact Tb some z
   have:=(List.getElem?_inj (by simpa using hb i hi) nd).mp e1;have:=o.bj.inj i j hi hj this;omega
  ·rw[z] at up;cases up
section
variable {K : PySem.W.Frag} {O : Ob}
def znd:List Ve->(R->Prop)->Prop:=λds Q=>∃ (ps:List Ve) (τ:Sh) (d0:Ve),ds = [.list ps]/\(∀ d ∈ ps,TupK d)/\zah τ d0/\(∀ d ∈ ps,zah τ d)/\ps.length<=1000000/\ps.Nodup/\∀ zs:List Ve,zs.Perm ps->zs.Pairwise (λa b=>dlt a b=true)->Q (.n zs)
theorem ztc:zdc K O (znz K) znd:=λH vs ds Q Qd ok p is ⟨ps,τ,d0,e,tk,s0,sh,hl,nd,q⟩ k=>by
 subst e;obtain⟨v,rfl,iv⟩:=zav is
 cases iv with
 | list f1 h1 s1 =>
   refine⟨_,_,ps,_,τ,d0,rfl,.of h1,s1,tk,s0,sh,hl,nd,λzs ys l h2 h3 h4 hn=>?_⟩;obtain⟨a1,a2⟩:=zbx (K:=K) ok hn h4;exact k _ _ _ a1 a2 (q zs h2 h3)
end
theorem zqb{ι κ:Type}{P:Vf}{w:Vk}{K:PySem.W.Frag}{mg:Str->Option Vb}{base:Heap}{k:Nat}{X:ι->Cx}{O:κ->Ob}{a:Expr}{ga:DA}{p pos:Pos}(C:Ctx3 P w K mg base k X)(B:Blt mg)(ha:A3 K X O [a] ga)(hg:∀ i,Gl (X i) "sorted" := by intro i;rfl)(he:∀ i,Vg [a] (X i).env=(false,eval a (X i).env)::Vg [] (X i).env:=by intro i;rfl):E3 K X O (.Call (.Name "sorted" p) [a] [] pos) (zba znd ga) :=
 zkt C (λi=>by have h:=zmx (X:=X i) (C.room i).units;rw[C.hK] at h;exact h) (λ_=>ztc) zdv B.sorted ha hg (by decide) (by decide) he
def zjm:List Ve->(R->Prop)->Prop:=λds Q=>∃ (c:Nat) (ws:List (List Nat)),ds = [tS [c],.list (ws.map tS)]/\ws.length<=1000000/\(∀ w ∈ ws,w.length<=50)/\Q (.n ((ws.map (c :: ·)).map tS))
def wnfF:List Ve->(R->Prop)->Prop:=λds Q=>∃ ws:List (List Nat),ds = [.list (ws.map tS)]/\ws.length<=1000000/\(∀ w ∈ ws,Sml w)/\Q (.n ((wnf (zbi ws)).map tS))
def zj9:List Ve->(R->Prop)->Prop:=λds Q=>∃ w:List Nat,ds = [tS w]/\w.length<=100/\Q (.n (((Qx w.length).map λi=>w.eraseIdx i).map tS))
def DLok(es:DLs)(a b:List Nat):Prop:=∀ a' b',a' <:+ a->b' <:+ b->a'.length+b'.length<a.length+b.length->∃ zs,es.at_ [.inr (tx a'),.inr (tx b')]=some (zs.map tx)/\AbvB a' b' zs
def zhz:List DV->(R->Prop)->Prop:=λrs Q=>∃ (a b:List Nat) (es:DLs),rs = [.im (tS a),.im (tS b),.thr (DctL es)]/\a.length<=8/\b.length<=8/\(∀ c,c ∈ a\/c ∈ b->c<128)/\DLok es a b/\∀ zs,AbvB a b zs->Q (.n (zs.map tS))
def zhs:List Ve->(R->Prop)->Prop:=λds Q=>∃ a b:List Nat,ds = [tS a,tS b]/\a.length<=8/\b.length<=8/\(∀ c,c ∈ a\/c ∈ b->c<128)/\∀ zs,AbvB a b zs->Q (.n (zs.map tS))
theorem zh3{a b:List Nat}{zs:List (List Nat)}(h:AbvB a b zs)(la:a.length<=8)(lb:b.length<=8)(lo:∀ c,c ∈ a\/c ∈ b->c<128):zs.length<=65536/\∀ w ∈ zs,w.length<=16/\Sml w:=by
 refine⟨QH h.2 (QH (Jb (by decide) (show a.length+b.length<=16 by omega)) (by decide)),λw hw=>?_⟩;obtain⟨h1,h2⟩:=zgy ((h.1.2 w).mp hw);exact⟨by omega,by omega,λc hc=>lo c (h2 c hc)⟩
theorem zdk{w:List Nat}(h:∀ c ∈ w,c<128):PyData.strOk (tx w)=true:=by
 unfold PyData.strOk tx;rw[YE];intro c hc;have:=h c (by simpa using hc);simp;omega
theorem eqW{a b:List Nat}(ha:∀ c ∈ a,c<128)(hb:∀ c ∈ b,c<128):eqF false (.str (tx a)) (.str (tx b))=some (.o (.bool (decide (a=b)))):=by
 rw[zdg (zdk ha) (zdk hb),zk6];rfl
theorem eqE{a:List Nat}(ha:∀ c ∈ a,c<128):eqF false (.str (tx a)) (.str (Str.ofString ""))=some (.o (.bool (decide (a = [])))):=by
 rw[show Str.ofString "" = tx [] by decide +kernel];exact eqW ha λc hc=>by cases hc
def ky(a b:List Nat)(i j:Nat):List Key := [.inr (tx (a.drop i)),.inr (tx (b.drop j))]
theorem zzu{a b:List Nat}{i j x y:Nat}(h:ky a b i j=ky a b x y)(hi:i<=a.length)(hj:j<=b.length)(hx:x<=a.length)(hy:y<=b.length):i=x/\j=y:=by
 unfold ky at h;injection h with h1 h2;injection h2 with h2 _;have e1:=Tb Yu (zc1 (Yt h1));have e2:=Tb Yu (zc1 (Yt h2));rw[Q9,Q9] at e1 e2;omega
def HasA(a b:List Nat)(es:DLs)(S:Nat->Nat->Prop):Prop:=(∀ i j,S i j->i<=a.length/\j<=b.length/\∃ zs,es.at_ (ky a b i j)=some (zs.map tx)/\AbvB (a.drop i) (b.drop j) zs)/\∀ p ∈ es,∃ i j,S i j/\p.1=ky a b i j
theorem HasA.same{a b:List Nat}{es:DLs}{S S':Nat->Nat->Prop}(h:HasA a b es S)(e:∀ i j,S' i j↔S i j):HasA a b es S' :=
 ⟨λi j z=>h.1 i j ((e i j).mp z),λp hp=>by
  obtain⟨i,j,z,w⟩:=h.2 p hp
  exact⟨i,j,(e i j).mpr z,w⟩⟩
theorem HasA.new{a b:List Nat}{es:DLs}{S:Nat->Nat->Prop}{i j:Nat}(h:HasA a b es S)(hi:i<=a.length)(hj:j<=b.length)(n:¬ S i j):es.at_ (ky a b i j)=none:=by
 unfold DLs.at_;rw[Zz,JJ];intro p hp e;obtain⟨x,y,z,w⟩:=h.2 p hp;obtain⟨h1,h2,_⟩:=h.1 x y z;have e:p.1=ky a b i j:=GV e;obtain⟨rfl,rfl⟩:=zzu (e.symm.trans w) hi hj h1 h2;exact n z
theorem zz4{es:DLs}{k:List Key}{p:List Key × List Str}{v:List Str}(h:es.at_ k=some v):DLs.at_ (es ++ [p]) k=some v:=by
 unfold DLs.at_ at h ⊢;rw[Jt];obtain⟨q,hq,e⟩:=Q0.mp h;rw[hq];exact Tb some e
theorem zz3{es:DLs}{k:List Key}{v:List Str}(h:es.at_ k=none):DLs.at_ (es ++ [(k,v)]) k=some v:=by
 unfold DLs.at_ at h ⊢;rw[Jt,Zz.mp h,Y0,Za (by simp)];rfl
theorem HasA.put{a b:List Nat}{es:DLs}{S S':Nat->Nat->Prop}{i j:Nat}{zs:List (List Nat)}(h:HasA a b es S)(hi:i<=a.length)(hj:j<=b.length)(n:¬ S i j)(z:AbvB (a.drop i) (b.drop j) zs)(e:∀ x y,S' x y↔S x y\/(x=i/\y=j)):HasA a b (es ++ [(ky a b i j,zs.map tx)]) S':=by
 refine⟨λx y w=>?_,λp hp=>?_⟩
 ·rcases(e x y).mp w with w|⟨rfl,rfl⟩
  ·obtain⟨h1,h2,us,h3,h4⟩:=h.1 x y w;exact⟨h1,h2,us,zz4 h3,h4⟩
  ·exact⟨hi,hj,zs,zz3 (h.new hi hj n),z⟩
 ·rcases Qv.mp hp with hp|hp
  ·obtain⟨x,y,w,u⟩:=h.2 p hp;exact⟨x,y,(e x y).mpr (.inl w),u⟩
  ·obtain rfl:=Qg.mp hp;exact⟨i,j,(e i j).mpr (.inr ⟨rfl,rfl⟩),rfl⟩
def SaA(n m a x y:Nat):Prop:=n<x+a/\x<=n/\y<=m
def SbA(n m a i b x y:Nat):Prop:=SaA n m a x y\/(x=i/\m<y+b/\y<=m)
theorem saA0{n m:Nat}:SaA n m (n+1) 0 0:=⟨by omega,Qw _,Qw _⟩
theorem sbA0{n m a i x y:Nat}:SbA n m a i 0 x y↔SaA n m a x y:=⟨λz=>z.elim id λz=>absurd z.2.1 (JF.mpr z.2.2),.inl⟩
theorem sbA1{n m a i x y:Nat}(h:i+a=n):SaA n m (a+1) x y↔SbA n m a i (m+1) x y:=by unfold SbA SaA;omega
theorem sbA2{n m a i b j x y:Nat}(h:j+b=m):SbA n m a i (b+1) x y↔SbA n m a i b x y\/(x=i/\y=j):=by
 unfold SbA;rw[or_assoc];refine Td YU ?_;omega
theorem sbA3{n m a i b j:Nat}(h:i+a=n)(h':j+b=m):¬ SbA n m a i b i j:=by unfold SbA SaA;omega
theorem HasA.ok{a b:List Nat}{es:DLs}{i j p r:Nat}(h:HasA a b es (SbA a.length b.length p i r))(hp:i+p=a.length)(hr:j+r=b.length):DLok es (a.drop i) (b.drop j):=λa' b' s1 s2 lt=>by
 have e1:=Ye.mp s1;have e2:=Ye.mp s2;have l1:=s1.length_le;have l2:=s2.length_le;rw[ZR,Q9] at e1 e2;rw[Q9] at l1 l2;rw[Q9,Q9] at lt;generalize ha:a'.length=la at *;generalize hb:b'.length=lb at *;subst e1 e2;obtain⟨_,_,zs,h3,h4⟩:=h.1 (i+(a.length - i - la)) (j+(b.length - j - lb)) (by unfold SbA SaA;omega);exact⟨zs,h3,h4⟩
theorem dnA{n a:Nat}(h:a<n+1):((n:Int) - (a:Nat))=((n - a:Nat):Int):=by omega
def zvy(a b:List Nat)(ws:List (List Nat)):Prop:=ws.Nodup/\ws.length<=100000/\(∀ w ∈ ws,CS a b w/\w.length<=a.length+b.length/\∀ c ∈ w,c ∈ a\/c ∈ b)/\∀ w,Mn a b w->w ∈ ws
def zra:List Ve->(R->Prop)->Prop:=λds Q=>∃ a b:List Nat,ds = [tS a,tS b]/\a.length<=5/\b.length<=5/\(∀ c,c ∈ a\/c ∈ b->c<128)/\∀ ws,zvy a b ws->Q (.n (ws.map tS))
def zv5:List Ve->(R->Prop)->Prop:=λds Q=>∃ a b:List Nat,ds = [tS a,tS b]/\a.length<=5/\b.length<=5/\(∀ c,c ∈ a\/c ∈ b->c<128)/\∀ zs,Abv a b zs->Q (.n (zs.map tS))
def zbq(a b w:List Nat):List (List Nat):=((Qx w.length).map λi=>w.eraseIdx i).filter λv=>under a v && under b v
theorem zj2{a b w:List Nat}(h:CS a b w):(zbq a b w).isEmpty=true↔Mn a b w:=by
 rw[List.isEmpty_iff];unfold zbq;rw[List.filter_eq_nil_iff];constructor
 ·refine λz=>⟨h,λi hi y=>z (w.eraseIdx i) (Qp.mpr ⟨i,QK.mpr hi,rfl⟩) ?_⟩;rw[under_iff.mpr y.1,under_iff.mpr y.2];rfl
 ·intro z v hv y;obtain⟨i,hi,rfl⟩:=Qp.mp hv;rw[Q5] at y;exact z.2 i (QK.mp hi) ⟨under_iff.mp y.1,under_iff.mp y.2⟩
theorem z1q{ws:List (List Nat)}(h:∀ w ∈ ws,∀ c ∈ w,c<128):eqF false (.list (ws.map tS)) (.list [])=some (.o (.bool ws.isEmpty)):=by
 unfold eqF;have h1:PyData.canLayAll0 (ws.map tS)=true:=zc4 λa ha=>zdk (h a ha);have h2:PyData.depthAll (ws.map tS)<=0:=zdu λa _=>Qc _
 have h3:okD (.list (ws.map tS))=true:=by
  unfold okD;simp[PyData.canLay0,PyData.depth,h1];omega
 rw[GQ (by rw[h3];rfl),GT Ql];cases ws <;> rfl
def plW(w:List Nat):Ve := .tuple [.int (w.length:Nat),tS w]
theorem zxv{w:List Nat}(h:∀ c ∈ w,c<128):TupK (plW w):=⟨⟨_,rfl⟩,rfl,by simp[plW,tS,PyData.canLay0,PyData.canLayAll0,zdk h],by simp[plW,tS,PyData.depth,PyData.depthAll],λz=>by cases z⟩
theorem zqt(w:List Nat):zah (.fcons .n (.fcons .t .fnil)) (plW w):=⟨_,_,rfl,⟨_,rfl⟩,_,_,rfl,⟨_,rfl⟩,rfl⟩
theorem zzl{x y:List Nat}(h:dlt (plW x) (plW y)=true):wlt x y=true:=by
 have h:dlts [.int (x.length:Nat),tS x] [.int (y.length:Nat),tS y]=true:=h;rw[wlt_iff];rw[dlts] at h
 split at h
 ·rename_i e
  have e:x.length=y.length:=by
   have e:decide (((x.length:Nat):Int)=((y.length:Nat):Int))=true:=e;have:=GV e;omega
  rw[dlts] at h
  split at h
  ·cases h
  ·have h:decide (x<y)=true:=h;exact .inr ⟨e,GV h⟩
 ·have h:decide (((x.length:Nat):Int)<((y.length:Nat):Int))=true:=h;have:=GV h;exact .inl (by omega)
theorem zyb{x y:List Nat}(h:plW x=plW y):x=y:=by
 unfold plW at h;injection h with h;injection h with _ h;injection h with h _;exact zc1 (by injection h)
theorem zvc(a:List Nat):Abv a a [a]:=⟨Jo _ _,λw=>by
 rw[Qg];constructor
 ·rintro rfl;refine⟨⟨.refl _,.refl _⟩,λi hi ⟨z,_⟩=>?_⟩;have:=z.length_le;rw[ZL,GQ hi] at this;omega
 ·rintro⟨⟨h,_⟩,z⟩
  by_cases e:a=w
  ·exact e.symm
  ·obtain⟨i,hi,h'⟩:=zi0 h e
   exact absurd ⟨h',h'⟩ (z i hi)⟩
def zow:List Ve->(R->Prop)->Prop:=λds Q=>∃ a b:List Nat,ds = [tS a,tS b]/\a.length<=5/\b.length<=5/\(∀ c,c ∈ a\/c ∈ b->c<128)/\Q (.o (.bool true))
section
variable {K : PySem.W.Frag} {O : Ob}
def zsx(i:Nat):DS:=λDd ρ=>∃ ds,ρ[i]? = some (some (.own ds))/\Dd.nx (ρ.set i (some (.own [])))
theorem zul{i:Nat}:SD K O (zev (tBM0 K "list" zih (tVar i))) (zsx i):=λH₀ A σ H ρ D Dd r q P=>by
 obtain⟨ds,e,q⟩:=q;obtain⟨v,hv,a,xs,rfl,ha,hl,hs⟩:=r.at_ i _ e;refine⟨_,hv,.inl ⟨rfl,xs,.of hl⟩,?_⟩;refine⟨a,xs,rfl,rfl,hl,?_⟩;exact P.nx A σ _ _ (r.change e hv ha .nil) (.change ha) q
end
section
variable {ι κ : Type} {P : Vf} {w : Vk} {K : PySem.W.Frag} {mg : Str → Option Vb} {base : Heap} {k : Nat} {X : ι → Cx} {O : κ → Ob} {pos p : Pos}
theorem ztd{X:Cx}:MtR X "list.clear" zih:=λpins s σ H x xs v us Q I rx rv h=>zu6 pins s σ H x xs v us Q I rx rv h
theorem zxq(n:Nat){x:Str}{px apos cpos:Pos}(C:Ctx3 P w K mg base k X)(hN:∀ i,(X i).N[n]? = some x:=by intro i;rfl)(hv:∀ i,Vis (X i).env.scope x:=by intro i;first|exact Or.inl rfl|exact Or.inr (Or.inl rfl)|exact Or.inr (Or.inr rfl))(hd:(x == ("__debug__" : Str))=false:=by decide)(hcd:(x == ("__classdict__" : Str))=false:=by decide)
 (hbase:∀ i,V3 (.Name x px) "clear" (X i).env (eval (.Name x px) (X i).env)=eval (.Name x px) (X i).env:=by intro i;rfl) (hline:(apos.endLine == cpos.line)=true:=by rfl) (hsw:∀ i,VH (.Call (.Attribute (.Name x px) "clear" apos) [] [] cpos) none pos.line (X i).env=pure false:=by intro i;rfl) :
 S3 K X O (.Expr (.Call (.Attribute (.Name x px) "clear" apos) [] [] cpos) pos) (zsx n) :=
 ⟨zev (tBM0 K "list" zih (tVar n)),λi=>by
  have h:=zr3 (apos:=apos) (cpos:=cpos) PySem.F.plainAttrs_list PySem.F.slot_list_clear PySem.F.type_list_clear (ztd (X:=X i)) (zag (pos:=px) (hN i) (hv i) hd hcd) (hbase i) hline;rw[C.hK] at h
  exact zjh h (hsw i),λj=>zul⟩
end
inductive Rch (a b:W):Nat->Nat->Nat->W->Prop
 | zero:Rch a b 0 0 0 []
 | both {t k j:Nat} {w:W} {c:Nat}:Rch a b t k j w->a[k]? = some c->b[j]? = some c->Rch a b (t+1) (k+1) (j+1) (w ++ [c])
 | left {t k j:Nat} {w:W} {c:Nat}:Rch a b t k j w->a[k]? = some c->b[j]? ≠ some c->Rch a b (t+1) (k+1) j (w ++ [c])
 | right {t k j:Nat} {w:W} {c:Nat}:Rch a b t k j w->b[j]? = some c->a[k]? ≠ some c->Rch a b (t+1) k (j+1) (w ++ [c])
 | stay {t:Nat} {w:W}:Rch a b t a.length b.length w->Rch a b (t+1) a.length b.length w
theorem zct{a:W}{k c:Nat}(h:a[k]? = some c):k<a.length/\a.take (k+1)=a.take k ++ [c]/\c ∈ a:=by
 have hk:=(Qi.mp h).1;refine⟨hk,?_,Q6 h⟩;rw[Zh,h];rfl
theorem Rch.ok{a b:W}{t k j:Nat}{w:W}(h:Rch a b t k j w):k<=a.length/\j<=b.length/\(a.take k).Sublist w/\(b.take j).Sublist w/\w.length<=k+j/\(∀ c ∈ w,c ∈ a\/c ∈ b)/\(t<=k+j\/(k=a.length/\j=b.length)):=by
 induction h with
 | zero=>exact⟨Qw _,Qw _,Zr _,Zr _,Qc _,λc hc=>absurd hc Ze,.inl (Qc _)⟩
 | both _ ha hb ih =>
   obtain⟨i1,i2,i3,i4,i5,i6,i7⟩:=ih;obtain⟨a1,a2,a3⟩:=zct ha;obtain⟨b1,b2,b3⟩:=zct hb;refine⟨a1,b1,by rw[a2];exact i3.append (.refl _),by rw[b2];exact i4.append (.refl _),by rw[Qj,QO];omega,λc hc=>?_,by omega⟩;rcases Qv.mp hc with hc|hc
   ·exact i6 c hc
   ·rw[Qg.mp hc];exact .inl a3
 | left _ ha hb ih =>
   obtain⟨i1,i2,i3,i4,i5,i6,i7⟩:=ih;obtain⟨a1,a2,a3⟩:=zct ha;refine⟨a1,i2,by rw[a2];exact i3.append (.refl _),i4.trans (JV _ _),by rw[Qj,QO];omega,λc hc=>?_,by omega⟩;rcases Qv.mp hc with hc|hc
   ·exact i6 c hc
   ·rw[Qg.mp hc];exact .inl a3
 | right _ hb ha ih =>
   obtain⟨i1,i2,i3,i4,i5,i6,i7⟩:=ih;obtain⟨b1,b2,b3⟩:=zct hb;refine⟨i1,b1,i3.trans (JV _ _),by rw[b2];exact i4.append (.refl _),by rw[Qj,QO];omega,λc hc=>?_,by omega⟩;rcases Qv.mp hc with hc|hc
   ·exact i6 c hc
   ·rw[Qg.mp hc];exact .inr b3
 | stay _ ih =>
   obtain⟨i1,i2,i3,i4,i5,i6,i7⟩:=ih;exact⟨i1,i2,i3,i4,i5,i6,.inr ⟨rfl,rfl⟩⟩
theorem Rch.last{a b:W}{k j:Nat}{w:W}(h:Rch a b (a.length+b.length) k j w):k=a.length/\j=b.length:=by
 obtain⟨i1,i2,_,_,_,_,i7⟩:=h.ok;omega
theorem Rch.cs{a b:W}{t:Nat}{w:W}(h:Rch a b t a.length b.length w):CS a b w/\w.length<=a.length+b.length/\∀ c ∈ w,c ∈ a\/c ∈ b:=by
 obtain⟨_,_,i3,i4,i5,i6,_⟩:=h.ok;rw[QP] at i3 i4;exact⟨⟨i3,i4⟩,i5,i6⟩
theorem Rch.wait{a b:W}{t:Nat}{w:W}(h:Rch a b t a.length b.length w):∀ n,Rch a b (t+n) a.length b.length w
 | 0=>h
 | n+1 => .stay (h.wait n)
theorem zit{a:W}{k c:Nat}{r:W}(h:a.drop k=c::r):a[k]? = some c/\a.drop (k+1)=r:=by
 have h1:(a.drop k)[0]? = some c:=by rw[h];rfl
 rw[QY] at h1;refine⟨h1,?_⟩;rw[<- ZR,h];rfl
theorem zjw{a:W}{k:Nat}(h:a.drop k = []):a[k]? = none:=by
 have h1:(a.drop k)[0]? = none:=by rw[h];rfl
 rwa [QY] at h1
theorem Rch.mn{a b:W}:∀ {v:W} {t k j:Nat} {u:W},Rch a b t k j u->Mn (a.drop k) (b.drop j) v->∃ t',t'<=t+(a.length - k)+(b.length - j)/\Rch a b t' a.length b.length (u++v)
 | [],t,k,j,u,h,m=>by
   obtain⟨i1,i2,_⟩:=h.ok;have e1:=jh.mp m.1.1;have e2:=jh.mp m.1.2;have h1:=J5.mp e1;have h2:=J5.mp e2;obtain rfl:k=a.length:=by omega
   obtain rfl:j=b.length:=by omega
   exact⟨t,by omega,by rw[QD];exact h⟩
 | x::v,t,k,j,u,h,m=>by
   obtain⟨i1,i2,_⟩:=h.ok
   have go:∀ {k' j':Nat},Rch a b (t+1) k' j' (u ++ [x])->Mn (a.drop k') (b.drop j') v->(a.length - k')+(b.length - j')+1<=(a.length - k)+(b.length - j)->∃ t',t'<=t+(a.length - k)+(b.length - j)/\Rch a b t' a.length b.length (u++x::v):=λ{k' j'} h' m' le=>by
    obtain⟨t',h1,h2⟩:=Rch.mn h' m';exact⟨t',by omega,by rwa [Q3] at h2⟩
   cases ea:a.drop k with
   | nil =>
     rw[ea,zd9] at m;obtain⟨b1,b2⟩:=zit m.symm;have:=(zct b1).1;refine go (.right h b1 (by rw[zjw ea];exact λz=>by cases z)) ?_ (by omega);rw[ea,zd9,b2]
   | cons c ra =>
     obtain⟨a1,a2⟩:=zit ea;have la:=(zct a1).1
     cases eb:b.drop j with
     | nil =>
       rw[eb,mn_swap,zd9,ea] at m;injection m with m1 m2;subst m1 m2;refine go (.left h a1 (by rw[zjw eb];exact λz=>by cases z)) ?_ (by omega);rw[eb,a2,mn_swap,zd9]
     | cons d rb =>
       obtain⟨b1,b2⟩:=zit eb;have lb:=(zct b1).1;rw[ea,eb] at m
       by_cases e:c=d
       ·subst e;obtain⟨v',e',m'⟩:=mn_same.mp m;injection e' with e1 e2;subst e1 e2;refine go (.both h a1 b1) ?_ (by omega);rw[a2,b2];exact m'
       ·rcases(znv e).mp m with ⟨v',e',m',_⟩|⟨v',e',m',_⟩
        ·injection e' with e1 e2;subst e1 e2;refine go (.left h a1 (by rw[b1];exact λz=>e (by injection z with z;exact z.symm))) ?_ (by omega);rw[a2,eb];exact m'
        ·injection e' with e1 e2;subst e1 e2;refine go (.right h b1 (by rw[a1];exact λz=>e (by injection z))) ?_ (by omega);rw[b2,ea];exact m'
theorem zz1{a b w:W}(m:Mn a b w):Rch a b (a.length+b.length) a.length b.length w:=by
 obtain⟨t,h1,h2⟩:=Rch.mn (a:=a) (b:=b) (v:=w) .zero m;rw[ZJ] at h2;have:=h2.wait (a.length+b.length - t);rwa [show t+(a.length+b.length - t)=a.length+b.length by omega] at this
theorem z0g{a b:W}{ws:List W}(nd:ws.Nodup)(hl:ws.length<=100000)(h:∀ w,w ∈ ws↔Rch a b (a.length+b.length) a.length b.length w):zvy a b ws :=
 ⟨nd,hl,λw hw=>((h w).mp hw).cs,λw m=>(h w).mpr (zz1 m)⟩
theorem zg2:U8 GP "dict_itemiterator.__iter__" = some Builtin.«dict_keyiterator.__iter__»:=by
 first
  | exact U9 (id (Eq.refl (fastTable "dict_itemiterator.__iter__"))) rfl (by decide) (id (Eq.refl (fastTable "dict_keyiterator.__iter__")))
  | kernel_rfl
theorem zp9{prog:Vf}{w:Vk}{A:Vl}{E:Vb->Vc->Prop}{s:Vc}{it d:Addr}{i n ep:Nat}{ok ov:Vb}{Q:Vb->Vc->Prop}(st:Ug s.heap it d i n ep ok ov)(h:Q (.ref it) s):wpAny (model prog w) A (U2 (.ref it)) Q E s:=by
 have T:s.TypeIs (.ref it) "dict_itemiterator" := ⟨_,st,rfl⟩;refine VX T F.slot_dict_itemiterator_iter (Vn F.slot_dict_itemiterator_iter T zg2 ?_ (F.args_dict_itemiterator_iter_1 _));unfold Builtin.«dict_keyiterator.__iter__»
 wp_walk
 exact⟨_,rfl, "dict_itemiterator", _,T,F.slot_dict_itemiterator_next.lookup,h⟩
end L3
namespace DI
open PySem PyProof.Rows
section
variable {prog : Vf} {w : Vk} {A : Vl} {E : Vb → Vc → Prop} {s : Vc} {d it : Addr} {es : Array GB} {ep i : Nat}
theorem ii_ent{v:Addr}{Q:Vb->Vc->Prop}(hv:s.heap.IsItemsView v d)(m:Ent s.heap d es ep)(q:Q (.ref s.heap.objs.size) { s with heap:=s.heap.push { cls := .type "dict_itemiterator", data := .fields #[.none,.bool false,.ref d,.int 0 0,.int es.size 0,.int ep 0,.none,.none] } }):wpAny (model prog w) A (U2 (.ref v)) Q E s:=by
 have T:=hv.typeIs;obtain⟨o,g1,g2,g3⟩:=m;obtain⟨ov,v1,v2,v3⟩:=hv;refine VX T F.slot_dict_items_iter (Vn F.slot_dict_items_iter T F.entry_dict_items_iter ?_ (F.args_dict_items_iter_1 _));unfold Builtin.«dict_items.__iter__» Builtin.Dict_items.dictOf Builtin.Dict_items.newIterator;refine Va (Vd (Va (Va (V5 v1 v3 (x := .ref d) rfl (Vd (Va (Va (UG g1 g3 (Va (wpAny_dictEpoch g1 g3 ?_))))))))));have ow:Builtin.Dict_items.ownsTuple "dict_itemiterator" = true:=by decide
 simp only[ow,Ta];refine Vm (Vd ⟨_,rfl, "dict_itemiterator", _,⟨_,Heap.get?_push_size _ rfl,rfl⟩,F.slot_dict_itemiterator_next.lookup,?_⟩) (by simp only[sizeOk,Builtin.Dict_items.ownedTupleFields,Qo,Qj,Qf,Zn,Vj];omega);simpa[Uv,Builtin.Dict_items.ownedTupleFields] using q
theorem ni_ent{ok ov:Vb}{Q:Option Vb->Vc->Prop}(hh:A.handled=none)(t:Ug s.heap it d i es.size ep ok ov)(m:Ent s.heap d es ep)
 (item:∀ (hi:i<es.size) (h':Heap),IsItemIterOut h' it d (i+1) es.size ep es[i].key es[i].val s.heap.objs.size->h'.get? s.heap.objs.size=some { cls := .type "tuple", data := .seq #[es[i].key,es[i].val] }->(∀ b o,b ≠ it->s.heap.get? b=some o->h'.get? b=some o)->Q (some (.ref s.heap.objs.size)) { s with heap:=h' })
 (fin:es.size<=i->∀ h',Heap.ExtBut it s.heap h'->Q none { s with heap:=h' }):wpAny (model prog w) A (U3 (.ref it)) Q E s:=by
 obtain⟨hp,g,dr,tk,os⟩:=s;have T:Shared.TypeIs ⟨hp,g,dr,tk,os⟩ (.ref it) "dict_itemiterator" := ⟨_,t,rfl⟩;obtain⟨u,g1,g2,g3⟩:=m;unfold U3;refine Va (VD (Vx (name:=Str.ofString "__next__") T F.slot_dict_itemiterator_next (Vn F.slot_dict_itemiterator_next T F.entry_dict_itemiterator_next ?_ (F.args_dict_itemiterator_next_1 _))));refine Va (Vd (Va (Va ?_)))
 first|refine Va (VT T (Vd ?_))|refine Va (Uc T (Vd ?_))
 refine Va (Gs t rfl ?_);simp only[show Builtin.Dict_items.ownsTuple "dict_itemiterator" = true by decide,Ta];show wpAny _ _ (ite ((Value.ref d == Value.none)=true) _ _) _ _ _;rw[GT (show ¬ (Value.ref d == Value.none)=true from Ql)];refine Va (Vd (Va (UG g1 g3 ?_)));rw[GT (by simp)];refine Va (Vd (Va (wpAny_dictEpoch g1 g3 ?_)));rw[GT (by simp)];refine Vd ?_;have ni:¬ ((i:Int)<0):=by omega
 rcases Zu i es.size with hi|hi
 ·simp only[ni,GX,Js,Q1 hi];refine Va ?_
  first|refine Va (VT T (Vd ?_))|refine Va (Uc T (Vd ?_))
  refine Va (Us T ?_);show wpAny _ _ (setField (.ref it) 3 (Uv ((i:Int)+1)) >>= _) _ _ ⟨hp,g,dr,tk,os⟩;refine Va (Vs t (by simp) λh1 e1 s1=>?_);have s1:Heap.SameBut it hp h1:=s1
  have e1:Ug h1 it d (i+1) es.size ep ok ov:=by
   unfold Ug;rw[show((i+1:Nat):Int)=(i:Int)+1 by omega];simpa[Uv] using e1
  have T1:Shared.TypeIs ⟨h1,g,dr,tk,os⟩ (.ref it) "dict_itemiterator" := ⟨_,e1,rfl⟩;refine Va (Vr (Va (Us T1 (Va (Us T1 ?_)))));show wpAny _ _ (Builtin.Dict_items.pairFromOwner (.ref it) 6 es[i].key es[i].val) _ _ ⟨h1,g,dr,tk,os⟩;unfold Builtin.Dict_items.pairFromOwner;refine Va (UA ?_);have lt:it<hp.objs.size:=Heap.lt_size t;have z1:h1.objs.size=hp.objs.size:=s1.1;have e2:Ug (h1.push { cls := .type "tuple", data := .seq #[es[i].key,es[i].val] }) it d (i+1) es.size ep ok ov:=Heap.get?_push_of_some _ e1;have t2:(h1.push { cls := .type "tuple", data := .seq #[es[i].key,es[i].val] }).get? hp.objs.size=some { cls := .type "tuple", data := .seq #[es[i].key,es[i].val] }:=by rw[<- z1];exact Heap.get?_push_size _ rfl
  have k2:∀ b o,b ≠ it->hp.get? b=some o->(h1.push { cls := .type "tuple", data := .seq #[es[i].key,es[i].val] }).get? b=some o:=λb o hb e=>Heap.get?_push_of_some _ (s1.extBut b o hb e);generalize h1.push { cls := .type "tuple", data := .seq #[es[i].key,es[i].val] }=h2 at e2 t2 k2;show wpAny _ _ (Builtin.Dict_items.ownedTupleIsFree (.ref it) >>= _) _ _ ⟨h2,g,dr,tk,os⟩;rw[z1];unfold Builtin.Dict_items.ownedTupleIsFree;refine Va (Va (V5 e2 rfl (x := .none) rfl (Vd ?_)));simp only[Ta];refine Va (V5 e2 rfl (x:=ok) rfl (Va (V5 e2 rfl (x:=ov) rfl ?_)));refine Va (Vs e2 (by simp) λh3 e3 s3=>?_);have s3:Heap.SameBut it h2 h3:=s3;have e3:Ug h3 it d (i+1) es.size ep es[i].key ov:=e3;refine Va (Vs e3 (by simp) λh4 e4 s4=>?_);have s4:Heap.SameBut it h3 h4:=s4;have e4:Ug h4 it d (i+1) es.size ep es[i].key es[i].val:=e4;refine Va (Vs e4 (by simp) λh5 e5 s5=>?_);have s5:Heap.SameBut it h4 h5:=s5;have e5:IsItemIterOut h5 it d (i+1) es.size ep es[i].key es[i].val hp.objs.size:=e5;refine Va (Vs e5 (by simp) λh6 e6 s6=>?_);have s6:Heap.SameBut it h5 h6:=s6;have up:∀ b o,b ≠ it->h2.get? b=some o->h6.get? b=some o:=λb o hb e=>s6.extBut b o hb (s5.extBut b o hb (s4.extBut b o hb (s3.extBut b o hb e)));exact Va (wpAny_letGo (Vd (Vd ⟨_,rfl,Vd (item hi h6 e6 (up _ _ (Zs lt) t2) λb o hb e=>up b o hb (k2 b o hb e))⟩)))
 ·simp only[ni,GX,Js,Zy hi];refine Va ?_
  first|refine Va (VT T (Vd ?_))|refine Va (Uc T (Vd ?_))
  show wpAny _ _ (setField (.ref it) 2 .none >>= _) _ _ _;refine Va (UB t rfl (by simp) (Va ?_));simp only[GM,newTuple];refine Va (Vm ?_ (by size_fits));refine Va (m:=VY _ _) (VZ (a:=Value.none) (by first|rfl|(simp only[VY];rfl)) (Vm ?_ (by size_fits)));simp only[GO];refine Va (G1 ?_);rw[show A.in1.handled=none from hh];refine Va (Vd (GF ?_));refine Va (VN (b:=true) (T := "StopIteration") ⟨_,Heap.get?_push_size _ rfl,rfl⟩ Gn ?_);exact Vd (fin hi _ (((Heap.SameBut.update ..).extBut.push _).push _))
end
end DI
namespace L3
open PySem PySem.Spec
open PyProof.Rows hiding St
open L2
def KR(kvs:List (List Key × V))(xs:TK):Prop:=G2 (λp q=>p.1=q.1/\RelV p.2 q.2.2) kvs xs
theorem zwr{H:Hp}:∀ {kvs:List (List Key × V)} {xs:TK},KT H kvs xs->KR kvs xs
 | _,_,.nil => .nil
 | _,_,.cons r t => .cons ⟨r.1,r.2.2⟩ (zwr t)
theorem zzz{kvs:List (List Key × V)}{xs:TK}(r:KR kvs xs):∀ {i:Nat} {q:List Key × Addr × Vb},xs[i]? = some q->∃ u,kvs[i]? = some (q.1,u)/\RelV u q.2.2:=by
 unfold KR at r
 induction r with
 | nil=>intro i q h;simp at h
 | @cons p p' ps qs h t ih =>
   intro i q hi
   cases i with
   | zero=>cases hi;exact⟨p.2,by rw[<- h.1];rfl,h.2⟩
   | succ i=>exact ih (by simpa using hi)
def Itq(a:Addr)(o:Obj)(kvs:List (List Key × V))(xs:TK):It :=
 ⟨λi H=>i<xs.length/\H a=some (stl a o),λi H x H'=>∃ p q u,H p=none/\xs[i]? = some q/\kvs[i]? = some (q.1,u)/\x = .ref p/\H'=upd H p (.tup [.ref q.2.1,u]),λi H=>xs.length<=i/\H a=some (stl a o)⟩
theorem zm9{P:Vf}{w:Vk}{K:PySem.W.Frag}{elts:List Expr}{x1:Nat}{pos:Pos}{a it:Addr}{o:Obj}{kvs:List (List Key × V)}{xs:TK}{es:Array GB}{ep:Nat}(ne:a ≠ it)(c:o.ExactDict)(d:o.data = .dict es ep)(el:es.toList=xs.map (UR (tupleKind (mixKind P w))))(r:KR kvs xs) :
 Turn P w K (.Tuple elts x1 pos) (Itq a o kvs xs) [it] it (λi h=>∃ ok ov,Ug h it a i es.size ep ok ov) where
 mem:=by simp
 obj:=λi h st b hb=>by
  have e:b=it:=by simpa using hb
  subst e;obtain⟨ok,ov,st⟩:=st;exact⟨_,st,λv z=>by cases z⟩
 keep:=λi h h' ⟨ok,ov,st⟩ k=>⟨ok,ov,k it (by simp) _ st⟩
 item:=by
  intro X hP hw hK hc i pins s σ H E I hf st hg;subst hP hw hK;obtain⟨hi,ha⟩:=hg;obtain⟨ok,ov,st⟩:=st;obtain⟨eo,_,_⟩:=I.hok a _ ha;have ln:es.size=xs.length:=by rw[<- QE,el,Qe]
  have hx:xs[i]? = some xs[i]:=Qa hi;obtain⟨u,hu,ru⟩:=zzz r hx;have lt:it ≠ s.heap.objs.size:=Qm (Heap.lt_size st);refine DI.ni_ent (I.ok.hd hc) st ⟨o,eo,c,d⟩ (λhi' h' out tp up=>⟨_,rfl,?_⟩) λz=>by omega
  have ek:es[i]=UR (tupleKind (mixKind X.prog X.w)) xs[i]:=by
   have h1:es.toList[i]? = some es[i]:=by rw[QA,Q1 hi']
   rw[el,Qk,hx] at h1;exact(QS h1).symm
  refine wpAny_letOwnedTupleGo_items out λh2 it2 sb=>?_
  have up2:∀ b u,b ∉ [it]->s.heap.get? b=some u->h2.get? b=some u:=λb u hb e=>by
   have nb:b ≠ it:=by simpa using hb
   exact(sb.2 b nb).trans (up b u nb e)
  have P2:h2.get? s.heap.objs.size=some { cls := .type "tuple", data := .seq #[.ref xs[i].2.1,xs[i].2.2] }:=by
   rw[ek] at tp;exact(sb.2 _ (Zj lt)).trans tp
  have sL:=Vj;refine⟨.ref s.heap.objs.size,_,zqg (s:=s) (t':=s.toks) I hf up2 (Qc _) (o := .tup [.ref xs[i].2.1,u]) ⟨by show 2<=sizeLine;omega,[.ref xs[i].2.1,xs[i].2.2],.cons rfl (.cons ru .nil),⟨_,P2,rfl,_,rfl⟩⟩,rfl,⟨_,xs[i],u,I.hok.fresh (Qc _),hx,hu,rfl,rfl⟩,⟨_,_,it2⟩,λb hb=>?_⟩;have e:b=it:=by simpa using hb
  subst e;rw[zaa lt];exact(hf _ hb).1
 done:=by
  intro X hP hw hK hc i pins s σ H E I hf st hg;subst hP hw hK;obtain⟨hi,ha⟩:=hg;obtain⟨ok,ov,st⟩:=st;obtain⟨eo,_,_⟩:=I.hok a _ ha;have ln:es.size=xs.length:=by rw[<- QE,el,Qe]
  exact DI.ni_ent (I.ok.hd hc) st ⟨o,eo,c,d⟩ (λhi'=>by omega) λ_ h' ex=>⟨rfl,zqp (t':=s.toks) I hf λb u hb e=>ex b u (by simpa using hb) e⟩
 self:=by
  intro _ _ _ _ _ ⟨_,_,st⟩ h;exact zp9 st h
def ziq(P:Vf)(w:Vk)(t:TE):TI:=λσ H R=>t σ H λv H1=>∃ a o kvs xs,v = .ref a/\H1 a=some (stl a o)/\TObj P w a o xs/\KR kvs xs/\R (Itq a o kvs xs) H1
theorem zj7{X:Cx}{elts:List Expr}{x1:Nat}{pos apos cpos:Pos}{o:Expr}{to:TE}(ho:PE X o to)(hbase:V3 o "items" X.env (eval o X.env)=eval o X.env)(hline:(apos.endLine == cpos.line)=true):PI X (.Tuple elts x1 pos) (.Call (.Attribute o "items" apos) [] [] cpos) (ziq X.prog X.w to):=by
 intro pins s σ H R I h;refine UL hbase hline (thn (ho pins s σ H _ I h) λv s1 ⟨y,H1,I1,r1,q1⟩=>?_);obtain⟨a,ob,kvs,xs,rfl,ha,⟨z,ns,c,es,ep,g1,g2,g3⟩,rel,q⟩:=q1;cases r1;obtain⟨eo,_,_⟩:=I1.hok a _ ha;have T:s1.TypeIs (.ref a) "dict" := ⟨_,eo,c.1⟩;refine⟨"dict", "dict.items", F.plainAttrs_dict,F.slot_dict_items,F.type_dict_items,T,λb e=>by cases e;exact⟨ob,eo,c.2.1⟩,Calls.callWith_builtin rfl (PySem.evalArgs_none ?_)⟩;refine Vn F.slot_dict_items T F.entry_dict_items ?_ (F.args_dict_items_1 _);unfold Builtin.«dict.items»
 wp_walk
 rw[c.1,GT (by decide)]
 wp_walk
 refine⟨_,rfl,?_⟩;have eo1:(s1.heap.push { cls := .type "dict_items", data := .fields #[.ref a] }).get? a=some ob:=Heap.get?_push_of_some _ eo;refine DI.ii_ent ⟨_,Heap.get?_push_size _ rfl,rfl,rfl⟩ ⟨ob,eo1,c,g1⟩ ?_;have sz:(s1.heap.push { cls := .type "dict_items", data := .fields #[.ref a] }).objs.size=s1.heap.objs.size+1:=Heap.size_push ..;have le:s1.heap.objs.size<=(s1.heap.push { cls := .type "dict_items", data := .fields #[.ref a] }).objs.size:=by rw[sz];exact Z8 _
 have ne:a ≠ (s1.heap.push { cls := .type "dict_items", data := .fields #[.ref a] }).objs.size:=by rw[sz];exact Qm (QI (Heap.lt_size eo))
 refine⟨_,[(s1.heap.push { cls := .type "dict_items", data := .fields #[.ref a] }).objs.size],_,Itq a ob kvs xs,H1,rfl,I1.kept (t':=s1.toks) λb u e=>Heap.get?_push_of_some _ (Heap.get?_push_of_some _ e),zm9 ne c g1 g2 rel,⟨_,_,Heap.get?_push_size _ rfl⟩,λb hb=>?_,q⟩;rw[Qg.mp hb];exact I1.fpOk le (I1.hok.fresh le)
section
variable {K : PySem.W.Frag} {O : Ob} {H₀ H : Hp} {A : Nat → Addr → Prop} {σ : St} {ρ : DSt} {P : Vf} {w : Vk}
theorem Rep.stillW{m:Nat}{a:Addr}{o0 u0:HO}{T0:Thg}(r:Rep K O H₀ A H σ ρ)(hv:σ[m]? = some (some (.ref a)))(w1:A m a)(ha:H a=some o0)(nt:∀ u,(∃ us,u = .tup us\/∃ o',u = .frz o' (.tup us))->u=o0->False)(hT:TupStay H (upd H a u0)->T0.R K (unO O (λj b=>j ≠ m/\A j b)) (A m) (upd H a u0) (.ref a)) :
 Rep K O H₀ (λj b=>j ≠ m/\A j b) (upd H a u0) σ (ρ.set m (some (.thr T0)))/\Frm O A H (λj b=>j ≠ m/\A j b) (upd H a u0):=by
 obtain⟨h0,_,nm⟩:=r.own m a w1;have ne:∀ b,unO O A b->b ≠ a:=λb f z=>f.2 m (by rw[z];exact w1);have un:∀ b,unO O A b->unO O (λj b=>j ≠ m/\A j b) b:=λb f=>⟨f.1,λj z=>f.2 j z.2⟩;have tF:∀ b u,unO O A b->H b=some u->unO O (λj b=>j ≠ m/\A j b) b/\upd H a (u0) b=some u:=λb u f q=>⟨un b f,by rw[zaa (ne b f)];exact q⟩
 have ts:TupStay H (upd H a (u0)):=λb u hu hb=>by
  rw[zaa λz=>?_]
  ·exact hb
  ·rw[z,ha] at hb;cases hb;exact nt _ hu rfl
 have oj:∀ j b,j ≠ m->A j b->b ≠ a:=λj b hj z e=>hj (r.dis j m b z (by rw[e];exact w1));have mv:∀ {v d},Is K (unO O A) H v d->Is K (unO O (λj b=>j ≠ m/\A j b)) (upd H a (u0)) v d:=λz=>z.to (λb ys f q=>tF b _ f q) λb ys q=>SqT.stay (h:=q) ts;have mvs:∀ {v d},IsAll K (unO O A) H v d->IsAll K (unO O (λj b=>j ≠ m/\A j b)) (upd H a (u0)) v d:=λz=>z.to (λb ys f q=>tF b _ f q) λb ys q=>SqT.stay (h:=q) ts;refine⟨⟨r.ok,r.ok.loc H _ (λb mb=>zaa λz=>nm (z ▸ mb)) r.p,r.p0,⟨λb u e n=>?_,λ_=>r.ok.loc H _ (λb mb=>zaa λz=>nm (z ▸ mb)) r.p,λb u hu hb=>ts b u hu (r.st.t b u hu hb)⟩,λj k b x y=>r.dis j k b x.2 y.2,λj b x=>?_,λj x e=>?_,by rw[Zb];exact r.len⟩,λb u e f=>⟨(tF b u f e).2,un b f⟩⟩
 ·rw[zaa λz=>by rw[z,h0] at e;cases e];exact r.st.s b u e n
 ·obtain⟨g1,⟨u,g2,g3⟩,g4⟩:=r.own j b x.2;exact⟨g1,⟨u,by rw[zaa (oj j b x.1 x.2)];exact g2,g3⟩,g4⟩
 ·by_cases hj:m=j
  ·subst hj
   have hi:m<ρ.length:=by
    rcases Zu m ρ.length with z|z
    ·exact z
    ·rw[Qu (by rw[Zb];exact z)] at e;cases e
   rw[QB hi] at e;cases e;refine⟨.ref a,hv,A m,λb wb=>?_,hT ts⟩;obtain⟨_,⟨o,ho,_⟩,nb⟩:=r.own m b wb;refine⟨⟨nb,λj z=>z.1 (r.dis j m _ z.2 wb)⟩,?_⟩
   by_cases e:b=a
   ·subst e;exact⟨_,zad⟩
   ·exact⟨o,by rw[zaa e];exact ho⟩
  ·rw[QL hj] at e;have hj':j ≠ m:=λz=>hj z.symm;obtain⟨v,h1,h2⟩:=r.at_ j x e;refine⟨v,h1,?_⟩
   cases x with
   | im d=>exact mv h2
   | own es=>obtain⟨b,ys,e,hb,hlb,hs⟩:=h2;exact⟨b,ys,e,⟨hj',hb⟩,by rw[zaa (oj j b hj' hb)];exact hlb,mvs hs⟩
   | ob=>exact h2
   | scr n=>exact IsS.to (λb u f q=>tF b u f q) h2
   | dct ks=>obtain⟨b,hb,h2⟩:=h2;exact⟨b,⟨hj',hb⟩,h2.to λu q=>by rw[zaa (oj j b hj' hb)];exact q⟩
   | gen f ds=>obtain⟨b,ys,e,hb,q,z⟩:=h2;exact⟨b,ys,e,⟨hj',hb⟩,by rw[zaa (oj j b hj' hb)];exact q,mvs z⟩
   | rd f ds=>obtain⟨b,ys,e,hb,q,z⟩:=h2;exact⟨b,ys,e,un b hb,(tF b _ hb q).2,mvs z⟩
   | exc C ns ds=>obtain⟨ys,e,z⟩:=h2;exact⟨ys,e.to λb u f q=>tF b u f q,mvs z⟩
   | thg T=>exact T.to (λb u f q=>tF b u f q) (λb u w q=>⟨⟨hj',w⟩,by rw[zaa (oj j b hj' w)];exact q⟩) ts h2
   | thr T=>obtain⟨W',hw,z⟩:=h2;exact⟨W',λb w=>let ⟨f,o,q⟩:=hw b w; ⟨un b f,o,(tF b _ f q).2⟩,T.to (λb u f q=>tF b u f q) (λb u w q=>⟨w,(tF b u (hw b w).1 q).2⟩) ts z⟩
def zb8(P:Vf)(w:Vk)(es:DLs):Thg:=⟨λ_ _ W H v=>∃ a o kvs xs,v = .ref a/\W a/\H a=some (stl a o)/\TObj P w a o xs/\KLie H xs/\KR kvs xs/\LV W H kvs es,
 λ_ hW ts ⟨a,o,kvs,xs,e,z,q,t,l,r,v⟩=>⟨a,o,kvs,xs,e,(hW a _ z q).1,(hW a _ z q).2,t,λp hp=>ts _ _ ⟨_,.inl rfl⟩ (l p hp),r,v.to hW⟩⟩
def zr5(P:Vf)(w:Vk)(m:Nat)(g:DS):DS:=λDd ρ=>∃ es,ρ[m]? = some (some (.thg (DctL es)))/\g Dd (ρ.set m (some (.thr (zb8 P w es))))
theorem zsw{m:Nat}{t:TS}{g:DS}(h:SD K O t g):SD K O (zk1 P w m t) (zr5 P w m g):=λH₀ A σ H ρ D Dd r q Po=>by
 obtain⟨es,e,q⟩:=q;obtain⟨v,hv,a,ws,rfl,w1,ha,z,_⟩:=r.at_ m _ e;refine⟨a,ws,hv,ha,λo xs T kt=>?_⟩
 obtain⟨r1,f1⟩:=r.stillW (u0:=stl a o) (T0:=zb8 P w es) hv w1 ha (λu hu e=>by subst e;obtain⟨us,e1|⟨o',e1⟩⟩:=hu <;> cases e1) λts=>by
  refine⟨a,o,ws,xs,rfl,w1,zad,T,λp hp=>ts _ _ ⟨_,.inl rfl⟩ (zhw kt p hp),zwr kt,?_⟩;exact z.toL λb us wb q=>⟨wb,by rw[zaa λz=>by rw[z,ha] at q;cases q];exact q⟩
 exact h H₀ _ σ _ _ D Dd r1 q (Po.frm f1)
def zvt(p:List Key × List Str):Ve := .tuple [keyD p.1,.list (p.2.map .str)]
theorem zmh{W:Addr->Prop}:∀ {ws:List (List Key × V)} {es:DLs} {i:Nat} {p:List Key × List Str},LV W H ws es->es[i]? = some p->∃ b,ws[i]? = some (p.1,.ref b)/\W b/\H b=some (.lst (p.2.map V.str))
 | [],[],_,_,_,e=>by simp at e
 | [],_::_,_,_,h,_=>h.elim
 | _::_,[],_,_,h,_=>h.elim
 | (k,v)::ws,(j,ss)::es,0,p,h,e=>by
   cases e;obtain⟨h1,⟨b,h2,h3,h4⟩,_⟩:=h;exact⟨b,by rw[h1,h2];rfl,h3,h4⟩
 | (k,v)::ws,(j,ss)::es,n+1,p,h,e=>by
   obtain⟨b,h1,h2⟩:=zmh (i:=n) h.2.2 (by simpa using e);exact⟨b,by simpa using h1,h2⟩
theorem z1p{W:Addr->Prop}{a:Addr}{o:Obj}{kvs:List (List Key × V)}{xs:TK}{es:DLs}{H2 H3:Hp}{i:Nat}{p:List Key × List Str}{x:V}(l:KLie H xs)(z:LV W H kvs es)(kb:∀ b u,W b->H b=some u->H2 b=some u)(t2:TupStay H H2)(hp:es[i]? = some p)(y:(Itq a o kvs xs).yld i H2 x H3):Same H2 H3/\Is K W H3 x (zvt p):=by
 obtain⟨p',q,u,hn,hq,hu,rfl,e3⟩:=y;obtain⟨b,h1,wb,hb⟩:=zmh z hp;rw[hu] at h1;injection h1 with h1;have e1:q.1=p.1:=Tb (·.1) h1;have e2:u = .ref b:=Tb (·.2) h1;have sm:Same H2 H3:=by rw[e3];exact L3.same_new hn _
 refine⟨sm,.tuple (xs := [.ref q.2.1,u]) (.inl (.inl (by rw[e3];exact zad))) (.cons ?_ (.cons ?_ .nil))⟩
 ·rw[<- e1];exact .tuple (.of (sm _ _ (t2 _ _ ⟨_,.inl rfl⟩ (l q (Q6 hq))))) zi4
 ·rw[e2];exact .list wb (sm _ _ (kb b _ wb hb)) (zcd p.2)
end
def goL(k j n:Nat)(gb:DS)(Dd:DEnds):DLs->DSt->Prop
 | [],ρ=>Dd.nx ρ
 | p::es,ρ=>∃ x y:Int,p.1 = [.inl x,.inl y]/\gb { Dd with nx:=goL k j n gb Dd es,ct:=goL k j n gb Dd es,bk:=Dd.nx } (((ρ.set k (some (.im (.int x)))).set j (some (.im (.int y)))).set n (some (.im (.list (p.2.map .str)))))
def zrx(P:Vf)(w:Vk)(m k j n:Nat)(gb:DS):DS:=λDd ρ=>∃ es,ρ[m]? = some (some (.thr (zb8 P w es)))/\goL k j n gb Dd es ρ
section
variable {K : PySem.W.Frag} {O : Ob} {P : Vf} {w : Vk}
theorem zst{m k j n:Nat}{tb:TS}{gb:DS}(hb:SD K O tb gb):SD K O (tFor (ziq P w (tVar m)) (gTup K 2 (zcl (gTup K 2 (zcl (zao k) (zcl (zao j) gNil))) (zcl (zao n) gNil))) tb) (zrx P w m k j n gb):=λH₀ A σ H ρ D Dd r q P=>by
 obtain⟨es,e,go⟩:=q;obtain⟨v,hv,W,hw,a,o,kvs,xs,rfl,wa,ha,T,l,kr,z⟩:=r.at_ m _ e;have ln:xs.length=es.length:=by rw[<- z.length];exact(Paired.length kr).symm
 refine⟨_,hv,a,o,kvs,xs,rfl,ha,T,kr,?_⟩;refine⟨λi m σ2 H2=>m=es.length - i/\i<=es.length/\∃ A2 ρ2,Rep K O H₀ A2 H2 σ2 ρ2/\Frm O A H A2 H2/\goL k j n gb Dd (es.drop i) ρ2,⟨es.length,rfl,Qw _,A,ρ,r,.refl,by simpa using go⟩,?_⟩;rintro i m σ2 H2 ⟨rfl,hi,A2,ρ2,r2,f2,go2⟩;have kb:∀ b u,W b->H b=some u->H2 b=some u:=λb u wb e=>(f2 b u e (hw b wb).1).1;have t2:TupStay H H2:=r.tupStay f2
 by_cases hlt:i<es.length
 ·right;have hd:es[i]? = some es[i]:=Qa hlt;rw[QC hlt] at go2;obtain⟨x,y,ek,go2⟩:=go2;refine⟨⟨by omega,kb a _ wa ha⟩,λσ' H'=>∃ A' ρ',Rep K O H₀ A' H' σ' ρ'/\Frm O A H A' H'/\goL k j n gb Dd (es.drop (i+1)) ρ',λσ' H' ⟨A',ρ',x1,x2,x3⟩=>⟨es.length - (i+1),by omega,rfl,hlt,A',ρ',x1,x2,x3⟩,λu H3 yy=>?_⟩;obtain⟨sm,ix⟩:=z1p (K:=K) l z kb t2 hd yy;have st3:Stp O H2 H3 := .same r2.ok sm;have r3:=r2.stp st3
  have uW:∀ b,W b->unO O A2 b:=λb wb=>by
   obtain⟨f,o,e⟩:=hw b wb;exact(f2 b o e f).2
  have ix:=ix.to (F':=unO O A2) (λb ys wb q=>⟨uW b wb,q⟩) λb ys q=>q;unfold zvt at ix;rw[ek] at ix
  cases ix with
  | tuple q1 i1 =>
  cases i1 with
  | cons i1 i2 =>
  cases i2 with
  | cons i2 i3 =>
  cases i3
  cases i1 with
  | tuple q2 k1 =>
  cases k1 with
  | cons k1 k2 =>
  cases k2 with
  | cons k2 k3 =>
  cases k3;have un:∀ {B:Nat->Addr->Prop} {c:Nat} {b:Addr},unO O B b->unO O (λj a=>j ≠ c/\B j a) b:=λh=>⟨h.1,λj z=>h.2 j z.2⟩;have r4:=r3.setIm (i:=k) k1;have r5:=r4.setIm (i:=j) (k2.to (λb ys f q=>⟨un f,q⟩) λb ys q=>q);have r6:=r5.setIm (i:=n) (i2.to (λb ys f q=>⟨un (un f),q⟩) λb ys q=>q);have f13:=(((f2.trans (.stp st3)).trans (.setIm (i:=k) (.refl _ _))).trans (.setIm (i:=j) (.refl _ _))).trans (.setIm (i:=n) (.refl _ _));refine⟨_,_,rfl,q1,rfl,_,_,rfl,_,_,rfl,q2,rfl,_,_,rfl,_,_,rfl,rfl,_,_,rfl,rfl,?_⟩;exact hb H₀ _ _ H3 _ _ _ r6 go2 ⟨λA' σ' H' ρ' r' f' q'=>⟨A',ρ',r',f13.trans f',q'⟩,λA' σ' H' ρ' r' f' q'=>P.nx A' σ' H' ρ' r' (f13.trans f') q',λA' σ' H' ρ' r' f' q'=>⟨A',ρ',r',f13.trans f',q'⟩,P.rt⟩
 ·left;have e:i=es.length:=by omega
  subst e;rw[Z6] at go2;exact⟨⟨by omega,kb a _ wa ha⟩,P.nx A2 σ2 H2 ρ2 r2 f2 go2⟩
end
section
variable {K : PySem.W.Frag} {O : Ob}
def zv3(n:Nat)(fa fb:DE):DS:=λDd ρ=>∃ es,ρ[n]? = some (some (.thg (DctL es)))/\fa ρ λr1=>fb ρ λr2=>∃ (k1 k2:Key) (ss:List Str),r1.d=kD k1/\r2.d=kD k2/\es.at_ [k1,k2]=some ss/\Dd.rt (.n (ss.map .str))
theorem zuy{n:Nat}{ta tb:TE}{fa fb:DE}(ha:ED K O ta fa)(hb:ED K O tb fb):SD K O (tRet (zkz (tVar n) (tTup (zaj ta (zaj tb tNil))))) (zv3 n fa fb):=λH₀ A σ H ρ D Dd r q P=>by
 obtain⟨es,e,q⟩:=q;obtain⟨v0,hv0,a,ws,rfl,w,hH,z,_⟩:=r.at_ n _ e;refine⟨_,hv0,?_⟩;refine ha σ H ρ _ _ r.seen q λx H1 r1 s1 o1 q1=>?_;refine hb σ H1 ρ _ _ (r.seen.stp s1) q1 λy H2 r2 s2 o2 ⟨k1,k2,ss,d1,d2,at_,q2⟩=>?_;have ix:=o1.is r.ok r.p;have iy:=o2.is r.ok (s1.p r.p);rw[d1] at ix;rw[d2] at iy;obtain rfl:=zcu ix;obtain rfl:=zcu iy;refine⟨by show 2<=sizeLine;rw[Vj];omega,λp hp=>?_⟩;have st:Stp O H (upd H2 p (.tup [kV k1,kV k2])):=(s1.trans s2).trans (.new r.ok hp _);have hH2:=st.s a _ hH (r.own n a w).2.2;obtain⟨b,hv,nb,hb'⟩:=z.val.2 ss at_;have g:DGet (upd H2 p (.tup [kV k1,kV k2])) a (.ref p) (some (.ref b)):=by rw[<- hv];exact .t (k := [k1,k2]) hH2 zad
 obtain⟨g1,_,g3⟩:=r.own n b nb;exact⟨a,.ref b,rfl,g,P.rt _ _ (.n (ss.map .str)) (r.st.trans st) ⟨b,_,rfl,g1,st.s b _ hb' g3,zcd ss⟩ q2⟩
def zvz(i:Nat)(fa fb fv:DE):DS:=λDd ρ=>fa ρ λr1=>fb ρ λr2=>fv ρ λr=>∃ (k1 k2:Key) (ss:List Str),r1.d=kD k1/\r2.d=kD k2/\r = .n (ss.map .str)/\Dd.nx (ρ.set i (some (.thg (DctL [([k1,k2],ss)]))))
theorem ztt{i:Nat}{ta tb tv:TE}{fa fb fv:DE}(ha:ED K O ta fa)(hb:ED K O tb fb)(hv:ED K O tv fv):SD K O (tAsg (zoh (tTup (zaj ta (zaj tb tNil))) tv) (zao i)) (zvz i fa fb fv):=λH₀ A σ H ρ D Dd r q P=>by
 intro c hc;have s0:Stp O H (upd H c (.dT [])) := .new r.ok hc _;have m:¬ O.M c:=zg5 r.ok r.p hc;refine ha σ _ ρ _ _ (r.seen.stp s0) q λx H1 r1 s1 o1 q1=>?_;refine hb σ H1 ρ _ _ ((r.seen.stp s0).stp s1) q1 λy H2 r2 s2 o2 q2=>?_;have sz:2<=sizeLine:=by rw[Vj];omega
 refine⟨sz,λp hp=>?_⟩;have s3:Stp O H2 (upd H2 p (.tup [x,y])) := .new r.ok hp _;refine hv σ _ ρ _ _ (((r.seen.stp s0).stp s1).stp s2 |>.stp s3) q2 λv H4 r4 s4 o4 ⟨k1,k2,ss,d1,d2,er,q3⟩=>?_;subst er;obtain⟨l,xs,rfl,hn,hl,hs⟩:=o4;obtain rfl:=zcy hs;have ix:=o1.is r.ok (s0.p r.p);have iy:=o2.is r.ok (s1.p (s0.p r.p));rw[d1] at ix;rw[d2] at iy;obtain rfl:=zcu ix;obtain rfl:=zcu iy;have st':Stp O (upd H c (.dT [])) H4:=((s1.trans s2).trans s3).trans s4;have st:Stp O H H4:=s0.trans st';have hH4:H4 c=some (.dT []):=st'.s c _ zad m
 have hnH:H l=none:=by
  cases h:H l with
  | none=>rfl
  | some u =>
    by_cases ml:O.M l
    ·obtain⟨o,w⟩:=r.ok.here _ l (s3.p (s2.p (s1.p (s0.p r.p)))) ml;rw[hn] at w;cases w
    ·have:=(((s0.trans s1).trans s2).trans s3).s l u h ml;rw[hn] at this;cases this
 have lc:l ≠ c:=λe=>by
  subst e;have:=((s1.trans s2).trans s3).s l _ zad m;rw[hn] at this;cases this
 refine⟨hH4,[k1,k2],p,rfl,s4.t _ _ ⟨_,.inl rfl⟩ zad,?_⟩
 have hW:∀ z,(z=c\/z=l)->(A i z\/H z=Zl)/\∃ o,upd H4 c (.dT [([k1,k2],.ref l)]) z=some o/\OwnO o:=λz e=>by
  rcases e with rfl|rfl
  ·exact⟨.inr hc,_,zad,ownT⟩
  ·exact⟨.inr hnH,_,by rw[zaa lc];exact hl,.lst⟩
 have stF:Stp O H (upd H4 c (.dT [([k1,k2],.ref l)])):=by
  refine⟨λz o e n=>?_,λpp=>r.ok.loc _ _ (λz mz=>zaa λe=>m (e ▸ mz)) (st.p pp),λz u hu hz=>?_⟩
  ·rw[zaa λe'=>by rw[e',hc] at e;cases e];exact st.s z o e n
  ·rw[zaa λe'=>by rw[e',hc] at hz;cases hz];exact st.t z u hu hz
 exact P.nx _ _ _ _ (r.setT (W:=λz=>z=c\/z=l) (T:=DctL [([k1,k2],ss)]) stF (λ_ _ e _=>e) hW ⟨c,_,rfl,.inl rfl,zad,⟨rfl,⟨l,rfl,.inr rfl,by rw[zaa lc];exact hl⟩,trivial⟩,Jo _ _⟩) (.setT stF (λ_ _ e _=>e) λz m=>(hW z m).1) q3
end
section
variable {ι κ : Type} {P : Vf} {w : Vk} {K : PySem.W.Frag} {mg : Str → Option Vb} {base : Heap} {k : Nat} {X : ι → Cx} {O : κ → Ob} {st : Stmt} {g : DS} {body : List Stmt} {pos px apos cpos q1 q2 q3 p1 p2 : Pos} {x y1 y2 y3 : Str} {c1 c2 : Nat}
theorem zlm(m:Nat)(C:Ctx3 P w K mg base k X)(h:S3 K X O st g):S3 K X O st (zr5 P w m g) :=
 let ⟨t,q,d⟩:=h; ⟨zk1 P w m t,λi=>by have z:=zu8 (m:=m) (q i);rw[C.hP,C.hw] at z;exact z,λj=>zsw (d j)⟩
theorem zu5(m k' j' n:Nat)(C:Ctx3 P w K mg base k X)(hb:Ss3 K X O body g)(hN:∀ i,(X i).N.Nodup:=by intro i;exact GV (by kernel_rfl))(hi1:∀ i,(X i).N[k']? = some y1:=by intro i;rfl)(hx1:∀ i,Loc (X i).env.scope y1:=by intro i;first|exact Or.inl rfl|exact Or.inr rfl)(hf1:∀ i,(X i).fn y1=true\/(X i).env.scope.names.lookup y1=some .local:=by intro i;first|exact .inl rfl|exact .inr rfl)(hi2:∀ i,(X i).N[j']? = some y2:=by intro i;rfl)(hx2:∀ i,Loc (X i).env.scope y2:=by intro i;first|exact Or.inl rfl|exact Or.inr rfl)(hf2:∀ i,(X i).fn y2=true\/(X i).env.scope.names.lookup y2=some .local:=by intro i;first|exact .inl rfl|exact .inr rfl)(hi3:∀ i,(X i).N[n]? = some y3:=by intro i;rfl)(hx3:∀ i,Loc (X i).env.scope y3:=by intro i;first|exact Or.inl rfl|exact Or.inr rfl)(hf3:∀ i,(X i).fn y3=true\/(X i).env.scope.names.lookup y3=some .local:=by intro i;first|exact .inl rfl|exact .inr rfl)
 (hm:∀ i,(X i).N[m]? = some x:=by intro i;rfl) (hv:∀ i,Vis (X i).env.scope x:=by intro i;first|exact Or.inl rfl|exact Or.inr (Or.inl rfl)|exact Or.inr (Or.inr rfl)) (hd:(x == ("__debug__" : Str))=false:=by decide) (hcd:(x == ("__classdict__" : Str))=false:=by decide)
 (hbase:∀ i,V3 (.Name x px) "items" (X i).env (eval (.Name x px) (X i).env)=eval (.Name x px) (X i).env:=by intro i;rfl) (hline:(apos.endLine == cpos.line)=true:=by rfl)
 (a1:∀ i,(Vp [.Name y1 q1,.Name y2 q2] (X i).env).map (·.2)=Uo (.Name y1 q1) (X i).env::(Vp [.Name y2 q2] (X i).env).map (·.2):=by intro i;rfl) (a2:∀ i,(Vp [.Name y2 q2] (X i).env).map (·.2)=Uo (.Name y2 q2) (X i).env::(Vp [] (X i).env).map (·.2):=by intro i;rfl)
 (a3:∀ i,(Vp [.Name y1 q1,.Name y2 q2] (X i).env).length=2:=by intro i;rfl) (a4:∀ i,(Vp [.Name y1 q1,.Name y2 q2] (X i).env).findIdx? (·.1)=none:=by intro i;rfl)
 (b1:∀ i,(Vp [.Tuple [.Name y1 q1,.Name y2 q2] c1 p1,.Name y3 q3] (X i).env).map (·.2)=Uo (.Tuple [.Name y1 q1,.Name y2 q2] c1 p1) (X i).env::(Vp [.Name y3 q3] (X i).env).map (·.2):=by intro i;rfl) (b2:∀ i,(Vp [.Name y3 q3] (X i).env).map (·.2)=Uo (.Name y3 q3) (X i).env::(Vp [] (X i).env).map (·.2):=by intro i;rfl)
 (b3:∀ i,(Vp [.Tuple [.Name y1 q1,.Name y2 q2] c1 p1,.Name y3 q3] (X i).env).length=2:=by intro i;rfl) (b4:∀ i,(Vp [.Tuple [.Name y1 q1,.Name y2 q2] c1 p1,.Name y3 q3] (X i).env).findIdx? (·.1)=none:=by intro i;rfl)
 (hs:∀ i y,V7 (.Call (.Attribute (.Name x px) "items" apos) [] [] cpos) (X i).env y=pure y:=by intro _ _;rfl) :
 S3 K X O (.For (.Tuple [.Tuple [.Name y1 q1,.Name y2 q2] c1 p1,.Name y3 q3] c2 p2) (.Call (.Attribute (.Name x px) "items" apos) [] [] cpos) body [] pos) (zrx P w m k' j' n g):=by
 obtain⟨tb,p3,d3⟩:=hb;refine⟨_,λi=>?_,λj=>zst (d3 j)⟩;have z1:=zg9 (pos:=p1) (k:=c1) (C.calm i) (zca (zbm (pos:=q1) (hN i) (hi1 i) (hx1 i) (hf1 i)) (zca (zbm (pos:=q2) (hN i) (hi2 i) (hx2 i) (hf2 i)) zf0 (a2 i)) (a1 i)) (a3 i) (a4 i);have z2:=zg9 (pos:=p2) (k:=c2) (C.calm i) (zca z1 (zca (zbm (pos:=q3) (hN i) (hi3 i) (hx3 i) (hf3 i)) zf0 (b2 i)) (b1 i)) (b3 i) (b4 i);rw[C.hK] at z2;have h:=zj7 (X:=X i) (elts := [.Tuple [.Name y1 q1,.Name y2 q2] c1 p1,.Name y3 q3]) (x1:=c2) (pos:=p2) (apos:=apos) (cpos:=cpos) (zag (pos:=px) (hm i) (hv i) hd hcd) (hbase i) hline;rw[C.hP,C.hw] at h;exact zla (zfp (C.xe i)) (C.calm i) h z2 (p3 i) (hs i)
theorem zxy(n:Nat){a b:Expr}{fa fb:DE}{c:_}{p3:Pos}(C:Ctx3 P w K mg base k X)(ha:E3 K X O a fa)(hb:E3 K X O b fb)(hN:∀ i,(X i).N[n]? = some x:=by intro i;rfl)(hv:∀ i,Vis (X i).env.scope x:=by intro i;first|exact Or.inl rfl|exact Or.inr (Or.inl rfl)|exact Or.inr (Or.inr rfl))(hd:(x == ("__debug__" : Str))=false:=by decide)(hcd:(x == ("__classdict__" : Str))=false:=by decide)
 (h1:∀ i,Vg [a,b] (X i).env=(false,eval a (X i).env)::Vg [b] (X i).env:=by intro i;rfl) (h2:∀ i,Vg [b] (X i).env=(false,eval b (X i).env)::Vg [] (X i).env:=by intro i;rfl) (hs:NoSl (.Tuple [a,b] c p3):=by intro _ _;rfl) :
 S3 K X O (.Return (some (.Subscript (.Name x px) (.Tuple [a,b] c p3) p1)) pos) (zv3 n fa fb):=let ⟨_,q1,d1⟩:=ha;let ⟨_,q2,d2⟩:=hb; ⟨_,λi=>zei (zb1 (zbf (C.room i)) (zag (pos:=px) (hN i) (hv i) hd hcd) (zdj (zai (q1 i) (zai (q2 i) zaq (h2 i)) (h1 i))) hs),λj=>zuy (d1 j) (d2 j)⟩
theorem zzc(n:Nat){a b e:Expr}{fa fb fe:DE}{c:_}{p3:Pos}(C:Ctx3 P w K mg base k X)(ha:E3 K X O a fa)(hb:E3 K X O b fb)(he:E3 K X O e fe)(hN:∀ i,(X i).N.Nodup:=by intro i;exact GV (by kernel_rfl))(hi:∀ i,(X i).N[n]? = some x:=by intro i;rfl)(hx:∀ i,Loc (X i).env.scope x:=by intro i;first|exact Or.inl rfl|exact Or.inr rfl)
 (hs:∀ i,VH (.Dict [some (.Tuple [a,b] c p3)] [e] p1) (some (.Name x px)) pos.line (X i).env=pure false:=by intro i;rfl) (hf:∀ i,(X i).fn x=true\/(X i).env.scope.names.lookup x=some .local:=by intro i;first|exact .inl rfl|exact .inr rfl)
 (h1:∀ i,Vg [a,b] (X i).env=(false,eval a (X i).env)::Vg [b] (X i).env:=by intro i;rfl) (h2:∀ i,Vg [b] (X i).env=(false,eval b (X i).env)::Vg [] (X i).env:=by intro i;rfl) :
 S3 K X O (.Assign [.Name x px] (.Dict [some (.Tuple [a,b] c p3)] [e] p1) pos) (zvz n fa fb fe) :=
 let ⟨_,q1,d1⟩:=ha;let ⟨_,q2,d2⟩:=hb;let ⟨_,q3,d3⟩:=he; ⟨_,λi=>zbt (hN i) (hi i) (hx i) (zrb (zbf (C.room i)) (zdj (zai (q1 i) (zai (q2 i) zaq (h2 i)) (h1 i))) (q3 i)) (hs i) (hf i),λj=>ztt (d1 j) (d2 j) (d3 j)⟩
end
end L3
namespace PySem
section
variable {prog : Vf} {w : Vk} {K : Type} [DecidableEq K] {knd : HeapKind prog w K} {A : Vl} {E : Vb → Vc → Prop} {s : Vc}
theorem ztx{d a:Addr}{xs:List (K × Addr × Vb)}{k:K}{v:Vb}{Q:Vb->Vc->Prop}(hu:knd.room A)(hkey:knd.is s.heap k a)(hm:s.heap.DictOfH knd d xs)
 (old:∀ u,(Gc xs k).map (·.2)=some u->Q u { s with toks:=s.toks+knd.draws k })
 (new:Gc xs k=none->∀ h',h'.DictOfH knd d (storedH xs k a v)->Heap.SameBut d s.heap h'->Q v { s with heap:=h',toks:=s.toks+knd.draws k })
 (hsz:xs.length<=sizeLine):wpAny (model prog w) A (U7 d (.ref a) v) Q E s:=by
 obtain⟨o,es,ep,ho,hc,hd,he,his,hn⟩:=hm;unfold U7
 try with_reducible refine Vr ?_
 refine Va (knd.pyHash hu hkey ?_);refine Va (wpAny_dictFind_heap (s:={ s with toks:=s.toks+knd.draws k }) hu hkey ho hd he his hn (λhno=>?_) λj p hj=>?_)
 ·have an:=atKey_none_of_get hno;have hnot:k ∉ xs.map (·.1):=not_mem_keys_of_get hno;refine Va (V1 (Va (wpAny_updateDictKeys (hz:=by have e:=size_of_entries he;omega) (s:={ s with toks:=s.toks+knd.draws k }) ho hd (Vd (new an _ ⟨_,_,ep+1,Heap.get?_update_self _ ho (Obj.isFreed_of_dict (Obj.data_mapDictKeys hd _)),hc.mapDictKeys _,Obj.data_mapDictKeys hd _,?_,?_,?_⟩ (Heap.SameBut.update ..))))))
  ·rw[Gr an];simp[he,UR]
  ·rw[Gr an];intro x hx;rcases Qv.mp hx with hx|hx
   ·exact knd.keeps (his x hx) ho hd (Heap.SameBut.update ..)
   ·obtain rfl:=Qg.mp hx;exact knd.keeps hkey ho hd (Heap.SameBut.update ..)
  ·rw[Gr an,Qy,Zx];refine⟨hn,by simp,λx hx y hy e=>?_⟩;obtain rfl:=Qg.mp hy;exact hnot (e ▸ hx)
 ·refine Va (UG (s:={ s with toks:=s.toks+knd.draws k }) ho hd ?_);rw[entry_at he j,hj];exact Va (V1 (Vd (old _ (by rw[atKey_of_get hn hj];rfl))))
end
end PySem
namespace L3
open PySem PySem.Spec
open PyProof.Rows hiding St
open L2
section
variable {X : Cx} {pins : List (Addr × Obj)} {σ : St} {H : Hp} {s : Vc} {A : Vl} {E : Vb → Vc → Prop}
theorem zty{a b:Addr}{kvs:List (List Key × V)}{k:List Key}{v:V}{r:Vb}{Q:Vb->Vc->Prop}(hu:(tupleKind (mixKind X.prog X.w)).room A)(I:Inv X pins σ H s)(e:H a=some (.dT kvs))(eb:H b=some (.tup (k.map kV)))(l:kvs.length<sizeLine)(rv:RelV v r)
 (old:∀ u u' s',valV kvs k=some u->RelV u u'->Inv X pins σ H s'->Q u' s') (new:∀ s',valV kvs k=none->Inv X pins σ (upd H a (.dT (putK kvs k v))) s'->Q r s') :
 wpAny (model X.prog X.w) A (U7 a (.ref b) r) Q E s:=by
 obtain⟨z,hd,xs,rel,dd⟩:=zky I.hok e;have hz:xs.length<=sizeLine:=by rw[<- Paired.length rel];exact z
 have hl:(putK kvs k v).length<=sizeLine:=by have:=zcx kvs k v;omega
 have vl:=rel.val k;refine ztx hu (zdi I.hok eb) dd (λu hu'=>?_) (λhn h' dd' hs=>?_) hz
 ·rw[hu'] at vl
  cases hv:valV kvs k with
  | none=>rw[hv] at vl;exact vl.elim
  | some u0 =>
    rw[hv] at vl;exact old u0 u _ hv vl (I.kept λ_ _ q=>q)
 ·rw[hn] at vl
  cases hv:valV kvs k with
  | some u0=>rw[hv] at vl;exact vl.elim
  | none =>
    refine new _ hv ?_;obtain⟨q,es,ep,hq,h2,h3,h4,_,h5⟩:=dd';refine zd7 I (by rw[e];exact ZY) hs ⟨q,hq⟩ ⟨hl,hd,_,(rel.put k eb rv).keeps λc ys ec=>?_,q,es,ep,hq,h2,h3,h4,h5⟩;rw[zaa (zo7 ec e (λz=>nomatch z))];exact ec
end
def zpi(td ty tx:TE):TE:=λσ H Q=>td σ H λx H1=>∃ a,x = .ref a/\IsD H1 a/\ty σ H1 λy H2=>tx σ H2 λz H3=>∃ kvs k b,H3 a=some (.dT kvs)/\y = .ref b/\H3 b=some (.tup (k.map kV))/\kvs.length<sizeLine /\
 (∀ v,valV kvs k=some v->Q v H3)/\(valV kvs k=none->Q z (upd H3 a (.dT (putK kvs k z))))
section
variable {X : Cx} {o e f : Expr} {apos cpos : Pos} {td ty tx : TE}
theorem zxm(hu:X.A.units+1<cLine)(ho:PE X o td)(he:PE X e ty)(hf:PE X f tx)(m:M2 X o "setdefault" apos e f cpos):PE X (.Call (.Attribute o "setdefault" apos) [e,f] [] cpos) (zpi td ty tx):=by
 intro pins s σ H Q I h;refine wpAny_Call_method m.base m.few m.line PySem.F.plainAttrs_dict PySem.F.slot_dict_setdefault PySem.F.type_dict_setdefault (thn (ho pins s σ H _ I h) λu s1 ⟨x,H1,I1,rx,a,ex,d,q1⟩=>?_);subst ex;obtain rfl:u=Value.ref a:=rx;obtain⟨t1,t2,_⟩:=zzn I1 d;refine⟨t1,t2,?_⟩;rw[m.trees]
 refine Calls.callWith_builtin rfl (Calls.evalArgs_plain (Calls.spliced_cons (thn (he pins s1 σ H1 _ I1 q1) λiv s2 ⟨y,H2,I2,ry,q2⟩ =>
  Calls.spliced_cons (thn (hf pins s2 σ H2 _ I2 q2) λfv s3 ⟨z,H3,I3,rz,kvs,k,b,e3,ey,eb,l,q3,q4⟩=>Calls.spliced_nil ?_))))
 subst ey;obtain rfl:iv=Value.ref b:=ry;obtain⟨_,hd,xs,rel,dd⟩:=zky I3.hok e3;have T:s3.TypeIs (.ref a) "dict" := dd.typeIs;refine Vn PySem.F.slot_dict_setdefault T PySem.F.entry_dict_setdefault ?_ (PySem.F.args_dict_setdefault_3 _ _ _);unfold Builtin.«dict.setdefault» Builtin.Dict.keyAndDefault;refine Va (Va (Gh T ?_));show wpAny _ _ (pure (a,Value.ref b,some fv)) _ _ s3;refine Vd ?_;show wpAny _ _ (if(a == V8)=true then _ else(U7 a (.ref b) fv >>= _)) _ _ s3;rw[GT (by rw[hd];exact Ql)];exact Va (zty (Ui hu) I3 e3 eb l rz (λu u' s' hv ru I'=>Vd ⟨_,rfl,_,H3,I',ru,q3 u hv⟩) λs' hv I'=>Vd ⟨_,rfl,_,_,I',rz,q4 hv⟩)
end
def DLs.sdf(es:DLs)(k:List Key):DLs:=if(es.at_ k).isSome then es else es ++ [(k,[])]
def DLs.add:DLs->List Key->List Str->DLs
 | [],_,_ => []
 | (j,ss)::es,k,ts=>if j=k then(j,ss++ts)::es else(j,ss)::DLs.add es k ts
theorem LV.add{W:Addr->Prop}{H H':Hp}{k:List Key}{b:Addr}{ss ts:List Str}(h':∀ c us,c ≠ b->H c=some (.lst us)->H' c=some (.lst us))(hb':H' b=some (.lst ((ss++ts).map V.str)))(hb:H b=some (.lst (ss.map V.str))) :
 ∀ {ws:List (List Key × V)} {es:DLs},LV W H ws es->(vls ws).Nodup->valV ws k=some (.ref b)->es.at_ k=some ss->LV W H' ws (es.add k ts)
 | [],[],_,_,hv,_=>by cases hv
 | [],_::_,h,_,_,_=>h.elim
 | _::_,[],h,_,_,_=>h.elim
 | (i,v)::ws,(j,s0)::es,h,nd,hv,ha=>by
   obtain⟨rfl,⟨c,rfl,wc,hc⟩,t⟩:=h;obtain⟨nd1,nd2⟩:=Zi.mp nd;unfold DLs.add
   by_cases e:i=k
   ·subst e;have e1:valV ((i,V.ref c)::ws) i=some (.ref c):=by unfold valV;rw[Za (by simp)];rfl
    have e2:DLs.at_ ((i,s0)::es) i=some s0:=by unfold DLs.at_;rw[Za (by simp)];rfl
    rw[e1] at hv;rw[e2] at ha;cases hv;cases ha;rw[GQ rfl];refine⟨rfl,⟨b,rfl,wc,hb'⟩,?_⟩
    have go:∀ {ws:List (List Key × V)} {es:DLs},LV W H ws es->(∀ v ∈ vls ws,v ≠ V.ref b)->LV W H' ws es:=by
     intro ws
     induction ws with
     | nil=>intro es h _;cases es with
       | nil=>trivial
       | cons _ _=>exact h.elim
     | cons x ws ih =>
       intro es h nb
       cases es with
       | nil=>exact h.elim
       | cons y es =>
         obtain⟨h1,⟨d,e,wd,q⟩,h3⟩:=h;exact⟨h1,⟨d,e,wd,h' d _ (λz=>nb x.2 (by simp) (by rw[e,z])) q⟩,ih h3 λv hv=>nb v (Qb _ hv)⟩
    exact go t λv hv e=>nd1 (by rw[<- e];exact hv)
   ·have e1:valV ((i,V.ref c)::ws) k=valV ws k:=by unfold valV;rw[ZE (by simpa using e)]
    have e2:DLs.at_ ((i,s0)::es) k=DLs.at_ es k:=by unfold DLs.at_;rw[ZE (by simpa using e)]
    rw[e1] at hv;rw[e2] at ha;rw[GT e];refine⟨rfl,⟨c,rfl,wc,h' c _ (λz=>nd1 ?_) hc⟩,LV.add h' hb' hb t nd2 hv ha⟩;subst z;obtain⟨p,hp,e⟩:=Q0.mp (show(ws.find? λp=>decide (p.1=k)).map (·.2)=some (V.ref c) from hv);exact Qp.mpr ⟨p,JL hp,e⟩
section
variable {K : PySem.W.Frag} {O : Ob}
def zgh(n:Nat)(fa fb fe:DE):DS:=λDd ρ=>∃ es,ρ[n]? = some (some (.thg (DctL es)))/\fa ρ λr1=>fb ρ λr2=>∃ k1 k2:Key,r1.d=kD k1/\r2.d=kD k2/\es.length<sizeLine /\
 fe (ρ.set n (some (.thg (DctL (es.sdf [k1,k2]))))) λr=>∃ ts:List Str,r.d = .list (ts.map .str)/\(∀ ss,(es.sdf [k1,k2]).at_ [k1,k2]=some ss->ss.length+ts.length<=sizeLine)/\Dd.nx (ρ.set n (some (.thg (DctL ((es.sdf [k1,k2]).add [k1,k2] ts)))))
theorem znl{es:DLs}{k:List Key}{v:List Str}(h:es.at_ k=none):DLs.at_ (es ++ [(k,v)]) k=some v:=by
 unfold DLs.at_ at h ⊢;rw[Jt,Zz.mp h,Y0,Za (by simp)];rfl
theorem zmo{H₀ H:Hp}{A:Nat->Addr->Prop}{σ:St}{ρ:DSt}{n:Nat}{a b:Addr}{ws:List (List Key × V)}{es:DLs}{ss:List Str}{k:List Key}{te:TE}{fe:DE}{D:Ends}{Dd:DEnds}(he:ED K O te fe)(r:Rep K O H₀ A H σ (ρ.set n (some (.thg (DctL es)))))(hv0:σ[n]? = some (some (.ref a)))(w:A n a)(hH:H a=some (.dT ws))(z:LV (A n) H ws es)(nd:(vls ws).Nodup)
 (hv:valV ws k=some (.ref b)) (wb:A n b) (hb:H b=some (.lst (ss.map V.str))) (at_:es.at_ k=some ss) (q:fe (ρ.set n (some (.thg (DctL es)))) λr=>∃ ts:List Str,r.d = .list (ts.map .str)/\(∀ ss,es.at_ k=some ss->ss.length+ts.length<=sizeLine)/\Dd.nx (ρ.set n (some (.thg (DctL (es.add k ts)))))) (P:Post K O H₀ A H D Dd) :
 tyV K "list" (.ref b) H/\zaj te tNil σ H λxs H2=>zem (.ref b) xs H2 λ_ H'=>D.nx σ H':=by
 refine⟨.inl ⟨rfl,_,.of hb⟩,?_⟩;refine he σ H _ _ _ r.seen q λv H1 r1 s1 o1 ⟨ts,ed,hz,q1⟩=>?_;have iw:=o1.is r.ok r.p;rw[ed] at iw;have nb:=(r.own n b wb).2.2;have hb1:=s1.s b _ hb nb;have hH1:=s1.s a _ hH (r.own n a w).2.2
 cases iw with
 | list f1 h1 s2 =>
   obtain rfl:=zcy s2;refine⟨b,_,_,_,rfl,rfl,hb1,h1,by rw[Qe,Qe];exact hz ss at_,?_⟩;rw[<- Qy];have ba:a ≠ b:=λe=>by rw[e,hb] at hH;cases hH
   have hW:∀ c,A n c->(A n c\/H c=Zl)/\∃ o,upd H1 b (.lst ((ss++ts).map V.str)) c=some o/\OwnO o:=λc hc=>by
    refine⟨.inl hc,?_⟩
    by_cases ca:c=b
    ·subst ca;exact⟨_,zad,.lst⟩
    ·obtain⟨_,⟨o,ho,oo⟩,nm⟩:=r.own n c hc;exact⟨o,by rw[zaa ca];exact s1.s c o ho nm,oo⟩
   have stay:∀ c u,H1 c=some u->¬ A n c->upd H1 b (.lst ((ss++ts).map V.str)) c=some u:=λc u e n=>by
    rw[zaa λz=>n (by rw[z];exact wb)];exact e
   have lv:LV (A n) (upd H1 b (.lst ((ss++ts).map V.str))) ws (es.add k ts):=LV.add (H:=H1) (λc us e q=>by rw[zaa e];exact q) zad hb1 (z.to λc u wc q=>⟨wc,s1.s c u q (r.own n c wc).2.2⟩) nd hv at_;have rr:=r.setT (i:=n) (v := .ref a) (W:=A n) (T:=DctL (es.add k ts)) s1 stay hW ⟨a,ws,rfl,w,by rw[zaa ba];exact hH1,lv,nd⟩;rw[zfa hv0,List.set_set] at rr;exact P.nx _ _ _ _ rr (.setT s1 stay λc m=>(hW c m).1) q1
theorem zu1{n:Nat}{ta tb te:TE}{fa fb fe:DE}(ha:ED K O ta fa)(hb:ED K O tb fb)(he:ED K O te fe):SD K O (zev (tBM K "list" zem (zpi (tVar n) (tTup (zaj ta (zaj tb tNil))) (tLst tNil)) (zaj te tNil))) (zgh n fa fb fe):=λH₀ A σ H ρ D Dd r q P=>by
 obtain⟨es,e,q⟩:=q;obtain⟨v0,hv0,a,ws,rfl,w,hH,z,nd⟩:=r.at_ n _ e;refine⟨_,hv0,a,rfl,.inr ⟨ws,.inl hH⟩,?_⟩;refine ha σ H ρ _ _ r.seen q λx H1 r1 s1 o1 q1=>?_;refine hb σ H1 ρ _ _ (r.seen.stp s1) q1 λy H2 r2 s2 o2 ⟨k1,k2,d1,d2,ln,q2⟩=>?_;have ix:=o1.is r.ok r.p;have iy:=o2.is r.ok (s1.p r.p);rw[d1] at ix;rw[d2] at iy;obtain rfl:=zcu ix;obtain rfl:=zcu iy;refine⟨by show 2<=sizeLine;rw[Vj];omega,λp hp=>⟨Qw _,λl hl=>?_⟩⟩;have s3:Stp O H (upd H2 p (.tup [kV k1,kV k2])):=(s1.trans s2).trans (.new r.ok hp _);have st:Stp O H (upd (upd H2 p (.tup [kV k1,kV k2])) l (.lst [])):=s3.trans (.new r.ok hl _);have nl:¬ O.M l:=zg5 r.ok (s3.p r.p) hl
 have hn:H l=none:=by
  cases h:H l with
  | none=>rfl
  | some u=>rw[s3.s l u h nl] at hl;cases hl
 have lp:p ≠ l:=λe=>by subst e;rw[zad] at hl;cases hl
 have hH4:=st.s a _ hH (r.own n a w).2.2;refine⟨ws,[k1,k2],p,hH4,rfl,by rw[zaa lp];exact zad,by rw[z.length];exact ln,λv hv=>?_,λhv=>?_⟩
 ·have hat:=(z.val (i := [k1,k2])).1
  rw[hv] at hat
  obtain⟨ss,hss⟩:=Z7.mp (show(es.at_ [k1,k2]).isSome=true from hat.symm);obtain⟨b,e1,wb,hb'⟩:=z.val.2 ss hss;rw[hv] at e1;cases e1;have e3:es.sdf [k1,k2]=es:=by unfold DLs.sdf;rw[GQ (by rw[hss];rfl)]
  rw[e3] at q2;have r4:=r.stp st;have eρ:ρ.set n (some (.thg (DctL es)))=ρ:=zfa e;exact zmo he (by rw[eρ];exact r4) hv0 w hH4 (z.to λc u wc q=>⟨wc,st.s c u q (r.own n c wc).2.2⟩) nd hv wb (st.s b _ hb' (r.own n b wb).2.2) hss q2 (P.frm (.stp st))
 ·have hat:=(z.val (i := [k1,k2])).1
  rw[hv] at hat
  have an:es.at_ [k1,k2]=none:=by
   cases h:es.at_ [k1,k2] with
   | none=>rfl
   | some v=>rw[h] at hat;cases hat
  have e3:es.sdf [k1,k2]=es ++ [([k1,k2],[])]:=by unfold DLs.sdf;rw[an,GT (by simp)]
  rw[e3] at q2;obtain⟨rr,ff⟩:=zli (ss := []) r hv0 w hH z nd st hn zad an;obtain⟨v1,hv1,a1,ws1,e1,w1,hH1,z1,nd1⟩:=rr.at_ n _ (QB (Qi.mp e).1);rw[hv0] at hv1;cases hv1;cases e1;obtain⟨b,hv',wb,hb'⟩:=z1.val.2 [] (znl an);have e5:ws1=putK ws [k1,k2] (.ref l):=by rw[zad] at hH1;cases hH1;rfl
  have hbl:b=l:=by
   rw[e5,zmn hv] at hv';unfold valV at hv hv';rw[Jt,Zz.mp hv,Y0,Za (by simp)] at hv';cases hv';rfl
  subst hbl;exact zmo he rr hv0 w1 hH1 z1 nd1 hv' wb hb' (znl an) q2 (P.frm ff)
end
section
variable {ι κ : Type} {P : Vf} {w : Vk} {K : PySem.W.Frag} {mg : Str → Option Vb} {base : Heap} {k : Nat} {X : ι → Cx} {O : κ → Ob} {a b e : Expr} {fa fb fe : DE} {pos px p1 p3 p4 apos cpos apos2 cpos2 : Pos} {x : Str}
theorem znp(n:Nat){c:_}(C:Ctx3 P w K mg base k X)(ha:E3 K X O a fa)(hb:E3 K X O b fb)(he:E3 K X O e fe)(hN:∀ i,(X i).N[n]? = some x:=by intro i;rfl)(hv:∀ i,Vis (X i).env.scope x:=by intro i;first|exact Or.inl rfl|exact Or.inr (Or.inl rfl)|exact Or.inr (Or.inr rfl))(hd:(x == ("__debug__" : Str))=false:=by decide)(hcd:(x == ("__classdict__" : Str))=false:=by decide)
 (h1:∀ i,Vg [a,b] (X i).env=(false,eval a (X i).env)::Vg [b] (X i).env:=by intro i;rfl) (h2:∀ i,Vg [b] (X i).env=(false,eval b (X i).env)::Vg [] (X i).env:=by intro i;rfl)
 (m:∀ i,M2 (X i) (.Name x px) "setdefault" apos2 (.Tuple [a,b] c p3) (.List [] p4) cpos2:=by intro i;exact⟨rfl,rfl,rfl,rfl⟩)
 (hbase:∀ i,V3 (.Call (.Attribute (.Name x px) "setdefault" apos2) [.Tuple [a,b] c p3,.List [] p4] [] cpos2) "extend" (X i).env (eval (.Call (.Attribute (.Name x px) "setdefault" apos2) [.Tuple [a,b] c p3,.List [] p4] [] cpos2) (X i).env)=eval (.Call (.Attribute (.Name x px) "setdefault" apos2) [.Tuple [a,b] c p3,.List [] p4] [] cpos2) (X i).env:=by intro i;rfl)
 (hfew:∀ i,((VU cpos (Vg [e] (X i).env)).all (λx=>!x.1) && (UI cpos (Uk [] (X i).env)).all (λx=>x.1.isSome) && decide (([e]:List Expr).length+([]:List Ua).length+(if([]:List Ua).isEmpty then 0 else 1)<30))=true:=by intro i;rfl)
 (hline:(apos.endLine == cpos.line)=true:=by rfl) (hs:∀ i,Vg [e] (X i).env = [(false,eval e (X i).env)]:=by intro i;rfl)
 (hsw:∀ i,VH (.Call (.Attribute (.Call (.Attribute (.Name x px) "setdefault" apos2) [.Tuple [a,b] c p3,.List [] p4] [] cpos2) "extend" apos) [e] [] cpos) none pos.line (X i).env=pure false:=by intro i;rfl) :
 S3 K X O (.Expr (.Call (.Attribute (.Call (.Attribute (.Name x px) "setdefault" apos2) [.Tuple [a,b] c p3,.List [] p4] [] cpos2) "extend" apos) [e] [] cpos) pos) (zgh n fa fb fe) :=
 let ⟨_,q1,d1⟩:=ha;let ⟨_,q2,d2⟩:=hb;let ⟨_,q3,d3⟩:=he
 ⟨zev (tBM K "list" zem (zpi (tVar n) (tTup (zaj _ (zaj _ tNil))) (tLst tNil)) (zaj _ tNil)),λi=>by
  have g:=zxm (apos:=apos2) (cpos:=cpos2) (zbf (C.room i)) (zag (pos:=px) (hN i) (hv i) hd hcd) (zdj (pos:=p3) (x1:=c) (zai (q1 i) (zai (q2 i) zaq (h2 i)) (h1 i))) (zrh (pos:=p4) zaq) (m i);have h:=zh4 (apos:=apos) (cpos:=cpos) PySem.F.plainAttrs_list PySem.F.slot_list_extend PySem.F.type_list_extend (zpz (X:=X i)) g (zai (q3 i) zaq (hs i)) (hbase i) (hfew i) hline (hs i);rw[C.hK] at h
  exact zjh h (hsw i),λj=>zu1 (d1 j) (d2 j) (d3 j)⟩
end
end L3
namespace DU
open PySem PySem.Spec PyProof.Rows
abbrev TKd(P:Vf)(w:Vk):=tupleKind (L2.mixKind P w)
abbrev Ent3:=List L2.Key × Addr × Vb
theorem zqw{P:Vf}{w:Vk}{h h':Heap}{k:List L2.Key}{a:Addr}(x:(TKd P w).is h k a)(e:∀ o,h.get? a=some o->h'.get? a=some o):(TKd P w).is h' k a:=by
 obtain⟨o,its,n,h1,r⟩:=x;exact⟨o,its,n,e o h1,r⟩
section
variable {P : Vf} {w : Vk} {A : Vl} {R : Result → Vc → Prop} {I : Addr} {fp wr : List Addr} {G : Array Gi → Array Gi → Prop} {n : Nat} {Pv : Nat → Vb → Prop} {St : Nat → Vc → Prop}
theorem z2j(W:WalksS P w A.in1 I fp wr G n Pv St)(hu:A.units+1<cLine)(d:Addr)(hd:d ∉ fp)(h0:Heap)(xs:List Ent3)(res:Vb)(hl:xs.length=n)(hz:n<=sizeLine)(hn:(xs.map (·.1)).Nodup)
 (hk:∀ q ∈ xs,(TKd P w).is h0 q.1 q.2.1/\q.2.1 ∉ wr/\q.2.1 ≠ d)
 (hval:∀ i v,Pv i v->∃ T o c q,v = .ref T/\xs[i]? = some q/\T ∉ wr/\T ≠ d/\h0.get? T=some o/\o.cls = .type "tuple" /\ o.data = .seq #[.ref q.2.1,q.2.2] c) :
 ∀ (m i:Nat) (s:Vc),n - i=m->i<=n->St i s->s.heap.DictOfH (TKd P w) d (xs.take i)->(∀ T o,T ∉ wr->T ≠ d->h0.get? T=some o->s.heap.get? T=some o) ->
   (∀ s',Moved (d::wr) G s s'->s'.heap.DictOfH (TKd P w) d xs->R (.ok (.ret res)) s') ->
   Uw (model P w) A (.builtin "dict.update.loop" ⟨[.ref d,.ref I,.int i 0,res],[]⟩) R s:=by
 have nw:d ∉ wr:=λz=>hd (W.sub _ z);have up:∀ b ∈ wr,b ∈ d::wr:=λb z=>Qb _ z
 have keepD:∀ {h h':Heap} {i:Nat},h.DictOfH (TKd P w) d (xs.take i)->(∀ T o,T ∉ wr->h.get? T=some o->h'.get? T=some o)->h'.DictOfH (TKd P w) d (xs.take i):=λ{h h' i} x e=>by
  obtain⟨o,es,ep,ho,c,g1,g2,g3,g4⟩:=x;exact⟨o,es,ep,e d o nw ho,c,g1,g2,λq hq=>zqw (g3 q hq) λo'=>e _ o' (hk q (ZA hq)).2.1,g4⟩
 intro m
 induction m with
 | zero =>
   intro i s hm hi st D keep k;obtain rfl:i=n:=by omega
   refine V4 zw0 ?_;rw[Around.under_plainId plain _];refine Va (W.done s _ _ st λs' mv=>?_);refine Va (m:=Builtin.Dict.addKeywords d []) (Vd (Vd ?_));refine k s' (mv.mono up) ?_;have:=keepD D λT o t e=>mv.heap T o t e;rwa [<- hl,QP] at this
 | succ m ih =>
   intro i s hm hi st D keep k;have hlt:i<n:=by omega
   refine V4 zw0 ?_;rw[Around.under_plainId plain _];refine Va (W.item i s _ _ hlt st λv s' pv st' mv=>?_);obtain⟨T,o,c,q,rfl,hq,t1,t2,t3,oc,od⟩:=hval i v pv;have hT:s'.heap.get? T=some o:=mv.heap T _ t1 (keep T _ t1 t2 t3);have D1:=keepD D λT o t e=>mv.heap T o t e;obtain⟨k1,k2,k3⟩:=hk q (Q6 hq);have K1:(TKd P w).is s'.heap q.1 q.2.1:=zqw k1 λo' e=>mv.heap _ o' k2 (keep _ o' k2 k3 e);refine Va (Vr (Va (wpAny_tryCatch ?_)));unfold Builtin.Dict.pairItems;refine Va (V9 (T := "tuple") ⟨_,hT,oc⟩ ?_);rw[GQ (by decide)];refine Va (wpAny_seqItems hT od (Vd ?_));refine Vr ?_;have tk:xs.take (i+1)=xs.take i ++ [q]:=by rw[Zh,hq];rfl
   have an:Gc (xs.take i) q.1=none:=by
    unfold Gc;rw[Zz,JJ];intro x hx e;have e:x.1=q.1:=GV e;have h1:((xs.take (i+1)).map (·.1)).Nodup:=hn.sublist ((YJ _ _).map _);rw[tk,Qy,Zx] at h1;exact h1.2.2 _ (Qp.mpr ⟨x,hx,rfl⟩) _ (Qg.mpr rfl) e
   refine wpAny_dictSet_heap (knd:=TKd P w) (show A.units+1<cLine from hu) K1 D1 (λh' D2 sb=>?_) (by rw[QJ];omega);rw[Gr an,<- tk] at D2;refine Vd ⟨V6 plain _,ih (i+1) _ (by omega) hlt (W.frame _ s' _ _ st' (J0 _ _) λb hb o e=>?_) D2 (λT' o t1' t2' e=>?_) λs'' mv2 D3=>?_⟩
   ·rw[sb.2 b (λz:b=d=>hd (z ▸ hb))];exact e
   ·exact(sb.2 T' t2').trans (mv.heap T' o t1' (keep T' o t1' t2' e))
   ·refine k s'' (.trans W.gtrans ((mv.mono up).then_heap (J0 _ _) λb o hb e=>?_) mv2) D3;rw[sb.2 b (λz:b=d=>hb (z ▸ Qt))];exact e
end
section
variable {P : Vf} {w : Vk} {A : Vl} {E : Vb → Vc → Prop} {s : Vc}
theorem call_pairsT{l:Addr}{o:Obj}{items:Array Vb}{c:Nat}{xs:List Ent3}{Q:Vb->Vc->Prop}(hh:A.handled=none)(hu:A.units+4<cLine)(hl:s.heap.get? l=some o)(hc:o.cls = .type "list")(hdt:o.data = .seq items c)(hdd:o.dict=none)
 (hn:(xs.map (·.1)).Nodup) (hlen:xs.length=items.size) (hk:∀ q ∈ xs,(TKd P w).is s.heap q.1 q.2.1)
 (hval:∀ (i:Nat) (v:Vb),items[i]? = some v->∃ (T:Addr) (o:Obj) (c:Nat) (q:Ent3),v = .ref T/\xs[i]? = some q/\s.heap.get? T=some o/\o.cls = .type "tuple" /\ o.data = .seq #[.ref q.2.1,q.2.2] c) (hz:items.size<=sizeLine)
 (k:∀ h' tk,SX.Ext s.heap h'->h'.DictOfH (TKd P w) s.heap.objs.size xs->Q (.ref s.heap.objs.size) { s with heap:=h',toks:=tk }) :
 wpAny (model P w) A (call (.type "dict") [.ref l]) Q E s:=by
 refine Gk (Q₁:=λr s₁=>r = .ref s.heap.objs.size/\s₁ = { s with heap:=s.heap.push { cls := .type "dict", data := .dict #[] } }) F.kt_called_dict (F.kt_typeCall_dict_1 _) F.entry_dict_init (kt_code_dict_new _ ⟨rfl,rfl⟩) ?_;rintro obj s₁ ⟨rfl,rfl⟩;have new:(s.heap.push { cls := .type "dict", data := .dict #[] }).DictOfH (TKd P w) s.heap.objs.size []:=Heap.DictOfH.new s.heap;refine⟨new.typeIs,F.args_dict_init_2 _ _,?_⟩;unfold Builtin.«dict.__init__»;refine Va ?_;unfold Builtin.Dict.selfAndRest;refine Va (Gh new.typeIs (Vd ?_));show wpAny _ _ (Builtin.Dict.updateFrom "dict.__init__" s.heap.objs.size (.ref l) [] .none) _ _ _;unfold Builtin.Dict.updateFrom;have hl1:(s.heap.push { cls := .type "dict", data := .dict #[] }).get? l=some o:=Heap.get?_push_of_some _ hl;refine Va (V9 (T := "list") ⟨_,hl1,hc⟩ ?_);rw[GQ (by decide)];refine Va (zry (s:={ s with heap:=s.heap.push { cls := .type "dict", data := .dict #[] } }) hl1 hc hdt hdd (by simpa using hh) λh2 tk2 ex2=>?_);refine SX.wp_t rfl ?_;refine Va (V1 ?_);have hl2:h2.IsList l items:=⟨_,ex2 _ _ hl1,hc,c,hdt⟩;have ex1:SX.Ext s.heap h2:=λb o e=>ex2 b o (Heap.get?_push_of_some _ e);have ll:l<s.heap.objs.size:=Heap.lt_size hl;have D2:h2.DictOfH (TKd P w) s.heap.objs.size []:=let ⟨o,es,ep,ho,c,g1,g2,_,g4⟩:=new; ⟨o,es,ep,ex2 _ o ho,c,g1,g2,λ_ h=>absurd h Ze,g4⟩
 have dlt:s.heap.objs.size<h2.objs.size:=by obtain⟨o,es,ep,ho,_⟩:=D2;exact Heap.lt_size ho
 refine Va (Ut hl2 ?_);have ne:l ≠ h2.objs.size:=Qm (ZT ll dlt);refine Vd ⟨V6 plain _,z2j (Walks.list (A:=A.in1.in1) (by simpa using hh) h2.objs.size l ne items).toS (show A.units+1+1<cLine by omega) s.heap.objs.size ?_ s.heap xs .none hlen hz hn (λq hq=>?_) (λi v hv=>?_) items.size 0 _ rfl (Qw _) ⟨⟨_,Heap.get?_push_size _ rfl,rfl,rfl⟩,hl2.push _⟩ ?_ (λT o _ _ e=>Heap.get?_push_of_some _ (ex1 T o e)) λs' mv D3=>?_⟩
 ·intro z;simp at z;rcases z with z|z
  ·exact Qm dlt z
  ·exact Zs ll z
 ·have h1:=hk q hq;obtain⟨o',its,n,e,_⟩:=id h1;have lt:=Heap.lt_size e;exact⟨h1,λz=>Qm (ZT lt dlt) (by simpa using z),Qm lt⟩
 ·obtain⟨T,o',c',q,rfl,hq,e,e1,e2⟩:=hval i v hv;have lt:=Heap.lt_size e;exact⟨T,o',c',q,rfl,hq,λz=>Qm (ZT lt dlt) (by simpa using z),Qm lt,e,e1,e2⟩
 ·rw[ZS];obtain⟨o,es,ep,ho,c,g1,g2,_,g4⟩:=D2;exact⟨o,es,ep,Heap.get?_push_of_some _ ho,c,g1,g2,λ_ h=>absurd h Ze,g4⟩
 ·obtain⟨h5,g5,d5,tk5,os5⟩:=s';obtain rfl:g5=s.gens:=mv.gens;obtain rfl:d5=s.drawn:=mv.drawn;obtain rfl:os5=s.os:=mv.os;refine⟨rfl,k h5 tk5 (λb o e=>mv.heap b o (λz=>?_) (Heap.get?_push_of_some _ (ex1 b o e))) D3⟩;have lt:=Heap.lt_size e;rcases Qs.mp z with z|z
  ·exact Qm lt z
  ·exact Qm (ZT lt dlt) (Qg.mp z)
end
end DU
namespace L3
open PySem PySem.Spec
open PyProof.Rows hiding St
open L2
theorem zoa{H:Hp}{p:List Key × V}{q:List Key × Addr × Vb}(g:p.1=q.1/\H q.2.1=some (.tup (p.1.map kV))/\RelV p.2 q.2.2):∀ {kvs:List (List Key × V)} {xs:TK},KT H kvs xs->KT H (kvs ++ [p]) (xs ++ [q])
 | _,_,.nil => .cons g .nil
 | _,_,.cons r t => .cons r (zoa g t)
def zn1(K:PySem.W.Frag):List V->Hp->VK->Prop:=λxs H Q=>∃ l ps,∃ kvs:List (List Key × V),xs = [.ref l]/\SqL K H l ps/\kvs.length=ps.length/\(kvs.map (·.1)).Nodup/\(∀ (i:Nat) v,ps[i]? = some v->∃ T b p,v = .ref T/\kvs[i]? = some p/\SqT K H T [.ref b,p.2]/\H b=some (.tup (p.1.map kV))) /\
 ∀ p,H p=none->Q (.ref p) (upd H p (.dT kvs))
theorem zna{X:Cx}(hc:X.calm=true)(hu:X.A.units+4<cLine):CallR X (.type "dict") (zn1 X.K):=by
 intro pins s σ H xs us Q I r h;obtain⟨l,ps,kvs,rfl,hq,hl,hn,hp,q⟩:=h;obtain⟨u,rfl,ru⟩:=Vals.one r;cases ru;obtain⟨its,rv,⟨o,n,e,c,dd,dt⟩,hz⟩:=I.list hq;have ln:=rv.length
 have ex:∀ i,i<kvs.length->∃ q:List Key × Addr × Vb,∃ p:List Key × V,kvs[i]? = some p/\p.1=q.1/\H q.2.1=some (.tup (p.1.map kV))/\RelV p.2 q.2.2/\∀ v,its[i]? = some v->∃ T o c,v = .ref T/\s.heap.get? T=some o/\o.cls = .type "tuple" /\ o.data = .seq #[.ref q.2.1,q.2.2] c:=by
  intro i hi;have hip:i<ps.length:=by omega
  obtain⟨w,hw,rw'⟩:=rv.get (i:=i) (x:=ps[i]) (Qa hip);obtain⟨T,b,p,e1,e2,sq,e3⟩:=hp i _ (Qa hip);rw[e1] at rw';cases rw';obtain⟨its2,rv2,⟨o2,g1,g2,n2,dt2⟩,_⟩:=I.tuple sq
  cases rv2 with
  | cons r1 r2 =>
    cases r2 with
    | cons r2 r3 =>
      cases r3;cases r1;refine⟨(p.1,b,_),p,e2,rfl,e3,r2,λv hv=>?_⟩;rw[hw] at hv;cases hv;exact⟨T,o2,n2,rfl,g1,g2,by simpa using dt2⟩
 have build:∀ m,m<=kvs.length->∃ xs:List DU.Ent3,xs.length=m/\KT H (kvs.take m) xs/\∀ (i:Nat) v,i<m->its[i]? = some v->∃ T o c q,v = .ref T/\xs[i]? = some q/\s.heap.get? T=some o/\o.cls = .type "tuple" /\ o.data = .seq #[.ref q.2.1,q.2.2] c:=by
  intro m
  induction m with
  | zero=>exact λ_=>⟨[],rfl,by rw[ZS];exact .nil,λi v hi=>absurd hi (Ym _)⟩
  | succ m ih =>
    intro hm;obtain⟨xs,h1,h2,h3⟩:=ih (by omega);obtain⟨q,p,g1,g2,g3,g4,g5⟩:=ex m (by omega);refine⟨xs ++ [q],by rw[Qj,h1];rfl,?_,λi v hi hv=>?_⟩
    ·rw[Zh,g1];exact zoa ⟨g2,g3,g4⟩ h2
    ·by_cases e:i=m
     ·subst e;obtain⟨T,o,c,z1,z2⟩:=g5 v hv;exact⟨T,o,c,q,z1,by rw[Q4 (by omega),h1,JC];rfl,z2⟩
     ·obtain⟨T,o,c,q',z1,z2,z3⟩:=h3 i v (by omega) hv;exact⟨T,o,c,q',z1,by rw[Qz (by omega)];exact z2,z3⟩
 obtain⟨xs,x1,x2,x3⟩:=build kvs.length (Qc _);rw[QP] at x2;refine DU.call_pairsT (P:=X.prog) (w:=X.w) (xs:=xs) (I.ok.hd hc) hu e c dt dd (by rw[znu x2];exact hn) (by simp;omega) (λq hq=>?_) (λi v hv=>?_) (by simp;omega) λh' tk ex D=>?_
 ·exact zdi I.hok (zhw x2 q hq)
 ·have hv':its[i]? = some v:=by simpa using hv
  exact x3 i v (by have:=(Qi.mp hv').1;omega) hv'
 ·have hd:(s.heap.objs.size == V8)=false:=beq_eq_false_iff_ne.mpr (Zs I.big);have fr:=I.hok.fresh (Qc s.heap.objs.size);obtain⟨o',es,ep,ho,c',g1,g2,_,g4⟩:=D;refine⟨.ref s.heap.objs.size,_,I.laid (a:=s.heap.objs.size) (o := .dT kvs) (t':=tk) ex (Qc _) ⟨by omega,hd,xs,zwp x2 λq hq=>?_,o',es,ep,ho,c',g1,g2,g4⟩,rfl,q _ fr⟩;have:=zhw x2 q hq;rw[zaa λz=>by rw[z,fr] at this;cases this];exact this
end L3
namespace L3
open PySem PySem.Spec
open PyProof.Rows hiding St
open L2 L6
def Srt1:DLs->DLs->Prop
 | [],[]=>True
 | (k,ss)::es,(j,zs)::fs=>k=j/\(zs.Nodup/\(∀ x,x ∈ zs↔x ∈ ss)/\UV zs=true)/\Srt1 es fs
 | _,_=>False
theorem Srt1.snoc{k:List Key}{ss zs:List Str}(h0:zs.Nodup/\(∀ x,x ∈ zs↔x ∈ ss)/\UV zs=true):∀ {es fs:DLs},Srt1 es fs->Srt1 (es ++ [(k,ss)]) (fs ++ [(k,zs)])
 | [],[],_=>⟨rfl,h0,trivial⟩
 | [],_::_,h=>h.elim
 | _::_,[],h=>h.elim
 | (_,_)::_,(_,_)::_,h=>⟨h.1,h.2.1,Srt1.snoc h0 h.2.2⟩
def zwv(P:Vf)(w:Vk)(m n:Nat):DS:=λDd ρ=>∃ es,ρ[m]? = some (some (.thr (zb8 P w es)))/\(es.map (·.1)).Nodup/\es.length<=sizeLine/\(∀ p ∈ es,p.2.length<=4090)/\∀ fs,Srt1 es fs->Dd.nx (ρ.set n (some (.thg (DctL fs))))
theorem LV.keys{W:Addr->Prop}{H:Hp}:∀ {ws:List (List Key × V)} {es:DLs},LV W H ws es->ws.map (·.1)=es.map (·.1)
 | [],[],_=>rfl
 | [],_::_,h=>h.elim
 | _::_,[],h=>h.elim
 | (_,_)::_,(_,_)::_,h=>by rw[Qn,Qn,LV.keys h.2.2,h.1]
theorem Srt1.keys:∀ {es fs:DLs},Srt1 es fs->fs.map (·.1)=es.map (·.1)
 | [],[],_=>rfl
 | [],_::_,h=>h.elim
 | _::_,[],h=>h.elim
 | (_,_)::_,(_,_)::_,h=>by rw[Qn,Qn,Srt1.keys h.2.2,h.1]
def zq6(P:Vf)(w:Vk)(K:PySem.W.Frag)(m:Nat):TE:=tCB (zn1 K) (zaj (ze7 2 (ziq P w (tVar m)) (gTup K 2 (zcl (zao 0) (zcl (zao 1) gNil))) tYes (tTup (zaj (tVar 0) (zaj (tSSA K (tVar 1)) tNil)))) tNil)
section
variable {K : PySem.W.Frag} {O : Ob} {P : Vf} {w : Vk}
theorem ztl{m n:Nat}:SD K O (tAsg (zq6 P w K m) (zao n)) (zwv P w m n):=λH₀ A σ H ρ D Dd r q Po=>by
 obtain⟨es,e,kn,el,e4,q⟩:=q;obtain⟨v,hv,W,hw,a,o,kvs,xs,rfl,wa,ha,T,l,kr,z⟩:=r.at_ m _ e;have ln:xs.length=es.length:=by rw[<- z.length];exact(Paired.length kr).symm
 refine⟨_,hv,a,o,kvs,xs,rfl,ha,T,kr,λL hL=>?_⟩;have aL:∀ b u,H b=some u->b ≠ L:=λb u e z=>by rw[z,hL] at e;cases e
 refine⟨λi mm ys H2=>mm=es.length - i/\i<=es.length/\H2 L=some (.lst ys)/\Same H H2/\ys.length=i/\∃ (ws:List (List Key × V)) (fs:DLs),Srt1 (es.take i) fs/\ws.length=i/\LV (λb=>H b=none/\b ≠ L) H2 ws fs/\(vls ws).Nodup/\∀ (j:Nat) v,ys[j]? = some v->∃ T b p,v = .ref T/\ws[j]? = some p/\H2 T=some (.tup [.ref b,p.2])/\H2 b=some (.tup (p.1.map kV)),⟨es.length,rfl,Qw _,zad,λb u e=>by rw[zaa (aL b u e)];exact e,rfl,[],[],trivial,rfl,trivial,Jp,λj v h=>by simp at h⟩,?_⟩;rintro i mm ys H2 ⟨rfl,hi,hLy,sm,yl,ws,fs,s1,wl,lv,nd,hy⟩;refine⟨hLy,?_⟩
 by_cases hlt:i<es.length
 ·right;refine⟨⟨by omega,sm a _ ha⟩,λx H3 yy=>?_⟩;obtain⟨p',kq,u,hn,hq,hu,rfl,e3⟩:=yy;have hp:es[i]? = some es[i]:=Qa hlt;obtain⟨b,h1,wb,hb⟩:=zmh z hp;rw[hu] at h1;injection h1 with h1;have e1:kq.1=es[i].1:=Tb (·.1) h1;have e2:u = .ref b:=Tb (·.2) h1;subst e2;have sm3:Same H2 H3:=by rw[e3];exact L3.same_new hn _
  refine⟨p',_,rfl,.of (by rw[e3];exact zad),rfl,_,_,rfl,_,_,rfl,rfl,?_⟩;simp only[tYes,↓reduceIte];refine⟨_,rfl,_,rfl,es[i].2,.inr ⟨b,rfl,.of (sm3 _ _ (sm _ _ hb))⟩,e4 _ (Zc hlt),λzs lz n1 n2 n3 hz=>⟨by show 2<=sizeLine;rw[Vj];omega,λT hT=>?_⟩⟩;have sm4:Same H3 (upd H3 lz (.lst (zs.map V.str))):=L3.same_new hz _;have sm5:Same (upd H3 lz (.lst (zs.map V.str))) (upd (upd H3 lz (.lst (zs.map V.str))) T (.tup [.ref kq.2.1,.ref lz])):=L3.same_new hT _;generalize hH4:upd (upd H3 lz (.lst (zs.map V.str))) T (.tup [.ref kq.2.1,.ref lz])=H4 at sm5;have s24:Same H2 H4:=λb u e=>sm5 b u (sm4 b u (sm3 b u e))
  have z2:H2 lz=none:=by
   cases h:H2 lz with
   | none=>rfl
   | some u=>rw[sm3 _ _ h] at hz;cases hz
  have z0:H lz=none:=by
   cases h:H lz with
   | none=>rfl
   | some u=>rw[sm _ _ h] at z2;cases z2
  have zL:lz ≠ L:=λe=>by rw[e,hLy] at z2;cases z2
  have hz4:H4 lz=some (.lst (zs.map V.str)):=sm5 _ _ zad;have hT4:H4 T=some (.tup [.ref kq.2.1,.ref lz]):=by rw[<- hH4];exact zad
  have hL4:=s24 _ _ hLy;have tL:∀ {b us},H4 b=some (.tup us)->upd H4 L (.lst (ys ++ [.ref T])) b=some (.tup us):=λ{b us} e=>by rw[zaa λz=>by rw[z,hL4] at e;cases e];exact e
  have k4:H4 kq.2.1=some (.tup (kq.1.map kV)):=s24 _ _ (sm _ _ (l kq (Q6 hq)));have sL:=Vj;refine⟨hL4,by omega,es.length - (i+1),by omega,rfl,hlt,zad,λb u e=>by rw[zaa (aL b u e)];exact s24 _ _ (sm _ _ e),by rw[Qj,yl];rfl,ws ++ [(es[i].1,.ref lz)],fs ++ [(es[i].1,zs)],?_,by rw[Qj,wl];rfl,?_,?_,λj v hj=>?_⟩
  ·rw[Zh,hp];exact s1.snoc ⟨n1,n2,n3⟩
  ·refine LV.snoc ⟨z0,zL⟩ (by rw[zaa zL];exact hz4) (lv.toL λb us wb e=>⟨wb,by rw[zaa wb.2];exact s24 _ _ e⟩)
  ·show((ws ++ [(es[i].1,V.ref lz)]).map (·.2)).Nodup;rw[Qy];refine Zx.mpr ⟨nd,by simp,λx hx y hy' e=>?_⟩;obtain rfl:=Qg.mp hy';obtain⟨b',o',e1,_,e2⟩:=lv.mem x hx;rw[e1] at e;cases e;rw[z2] at e2;cases e2
  ·by_cases e:j=i
   ·subst e;rw[Q4 (by omega),yl,JC] at hj;cases hj;exact⟨T,kq.2.1,(es[j].1,.ref lz),rfl,by rw[Q4 (by omega),wl,JC];rfl,tL hT4,tL (by rw[<- e1];exact k4)⟩
   ·have hj':j<ys.length:=by
     have:=(Qi.mp hj).1;rw[Qj] at this;simp at this;omega
    rw[Qz hj'] at hj;obtain⟨T',b',p,h1,h2,h3,h4⟩:=hy j v hj;exact⟨T',b',p,h1,by rw[Qz (by omega)];exact h2,tL (s24 _ _ h3),tL (s24 _ _ h4)⟩
 ·left;have e:i=es.length:=by omega
  subst e;rw[QP] at s1;refine⟨⟨by omega,sm a _ ha⟩,L,ys,ws,rfl,.of hLy,by omega,by rw[lv.keys,s1.keys];exact kn,λj v hj=>?_,λp hp=>?_⟩
  ·obtain⟨T',b',p,h1,h2,h3,h4⟩:=hy j v hj;exact⟨T',b',p,h1,h2,.of h3,h4⟩
  ·have smF:Same H (upd H2 p (.dT ws)):=λb u e=>L3.same_new hp _ b u (sm b u e)
   have p0:H p=none:=by
    cases h:H p with
    | none=>rfl
    | some u=>rw[sm _ _ h] at hp;cases hp
   have hW:∀ c,(c=p\/(H c=none/\∃ us,H2 c=some (.lst us)))->(A n c\/H c=Zl)/\∃ o,upd H2 p (.dT ws) c=some o/\OwnO o:=λc hc=>by
    rcases hc with rfl|⟨h1,us,h2⟩
    ·exact⟨.inr p0,_,zad,ownT⟩
    ·exact⟨.inr h1,_,L3.same_new hp _ c _ h2,.lst⟩
   exact Po.nx _ _ _ _ (r.setT (W:=λc=>c=p\/(H c=none/\∃ us,H2 c=some (.lst us))) (T:=DctL fs) (.same r.ok smF) (λ_ _ e _=>e) hW ⟨p,ws,rfl,.inl rfl,zad,lv.toL λb us wb e=>⟨.inr ⟨wb.1,us,e⟩,L3.same_new hp _ b _ e⟩,nd⟩) (.setT (.same r.ok smF) (λ_ _ e _=>e) λc hc=>(hW c hc).1) (q fs s1)
end
section
variable {ι κ : Type} {P : Vf} {w : Vk} {K : PySem.W.Frag} {mg : Str → Option Vb} {base : Heap} {k : Nat} {X : ι → Cx} {O : κ → Ob}
theorem zx1(n m:Nat){x y s v:Str}{scope:VP}{c1 c2:Nat}{px p1 py apos cpos q1 q2 q3 q4 q5 q6 q7 r1 r2 r3 p0 p2 pos:Pos}(N':List Str)(C:Ctx3 P w K mg base k X)(B:Blt mg)(S:∀ i,ScopeOk 2 N' (X i).N scope (X i).env.scope)(hN:∀ i,(X i).N.Nodup:=by intro i;exact GV (by kernel_rfl))(hi:∀ i,(X i).N[n]? = some x:=by intro i;rfl)(hx:∀ i,Loc (X i).env.scope x:=by intro i;first|exact Or.inl rfl|exact Or.inr rfl)(hf:∀ i,(X i).fn x=true\/(X i).env.scope.names.lookup x=some .local:=by intro i;first|exact .inl rfl|exact .inr rfl)
 (hm:∀ i,(X i).N[m]? = some y:=by intro i;rfl) (hv:∀ i,Vis (X i).env.scope y:=by intro i;first|exact Or.inl rfl|exact Or.inr (Or.inl rfl)|exact Or.inr (Or.inr rfl)) (hd:(y == ("__debug__" : Str))=false:=by decide) (hcd:(y == ("__classdict__" : Str))=false:=by decide)
 (hN1:∀ i,(zal X scope N' i).N.Nodup:=by intro i;exact GV (by kernel_rfl)) (hi1:∀ i,(zal X scope N' i).N[0]? = some s:=by intro i;rfl) (hx1:∀ i,Loc (zal X scope N' i).env.scope s:=by intro i;first|exact Or.inl rfl|exact Or.inr rfl) (hf1:∀ i,(zal X scope N' i).fn s=true\/(zal X scope N' i).env.scope.names.lookup s=some .local:=by intro i;first|exact .inl rfl|exact .inr rfl) (hv1:∀ i,Vis (zal X scope N' i).env.scope s:=by intro i;first|exact Or.inl rfl|exact Or.inr (Or.inl rfl)|exact Or.inr (Or.inr rfl)) (hd1:(s == ("__debug__" : Str))=false:=by decide) (hcd1:(s == ("__classdict__" : Str))=false:=by decide)
 (hi2:∀ i,(zal X scope N' i).N[1]? = some v:=by intro i;rfl) (hx2:∀ i,Loc (zal X scope N' i).env.scope v:=by intro i;first|exact Or.inl rfl|exact Or.inr rfl) (hf2:∀ i,(zal X scope N' i).fn v=true\/(zal X scope N' i).env.scope.names.lookup v=some .local:=by intro i;first|exact .inl rfl|exact .inr rfl) (hv2:∀ i,Vis (zal X scope N' i).env.scope v:=by intro i;first|exact Or.inl rfl|exact Or.inr (Or.inl rfl)|exact Or.inr (Or.inr rfl)) (hd2:(v == ("__debug__" : Str))=false:=by decide) (hcd2:(v == ("__classdict__" : Str))=false:=by decide)
 (g0:∀ i,Gl (X i) "dict" := by intro i;rfl) (g1:∀ i,Gl (zal X scope N' i) "sorted" := by intro i;rfl) (g2:∀ i,Gl (zal X scope N' i) "set" := by intro i;rfl)
 (hbase:∀ i,V3 (.Name y py) "items" (X i).env (eval (.Name y py) (X i).env)=eval (.Name y py) (X i).env:=by intro i;rfl) (hline:(apos.endLine == cpos.line)=true:=by rfl)
 (a1:∀ i,(Vp [.Name s r1,.Name v r2] (zal X scope N' i).env).map (·.2)=Uo (.Name s r1) (zal X scope N' i).env::(Vp [.Name v r2] (zal X scope N' i).env).map (·.2):=by intro i;rfl) (a2:∀ i,(Vp [.Name v r2] (zal X scope N' i).env).map (·.2)=Uo (.Name v r2) (zal X scope N' i).env::(Vp [] (zal X scope N' i).env).map (·.2):=by intro i;rfl)
 (a3:∀ i,(Vp [.Name s r1,.Name v r2] (zal X scope N' i).env).length=2:=by intro i;rfl) (a4:∀ i,(Vp [.Name s r1,.Name v r2] (zal X scope N' i).env).findIdx? (·.1)=none:=by intro i;rfl)
 (b1:∀ i,Vg [.Name s q1,.Call (.Name "sorted" q2) [.Call (.Name "set" q3) [.Name v q4] [] q5] [] q6] (zal X scope N' i).env=(false,eval (.Name s q1) (zal X scope N' i).env)::Vg [.Call (.Name "sorted" q2) [.Call (.Name "set" q3) [.Name v q4] [] q5] [] q6] (zal X scope N' i).env:=by intro i;rfl)
 (b2:∀ i,Vg [.Call (.Name "sorted" q2) [.Call (.Name "set" q3) [.Name v q4] [] q5] [] q6] (zal X scope N' i).env=(false,eval (.Call (.Name "sorted" q2) [.Call (.Name "set" q3) [.Name v q4] [] q5] [] q6) (zal X scope N' i).env)::Vg [] (zal X scope N' i).env:=by intro i;rfl)
 (b3:∀ i,Vg [.Call (.Name "set" q3) [.Name v q4] [] q5] (zal X scope N' i).env=(false,eval (.Call (.Name "set" q3) [.Name v q4] [] q5) (zal X scope N' i).env)::Vg [] (zal X scope N' i).env:=by intro i;rfl) (b4:∀ i,Vg [.Name v q4] (zal X scope N' i).env=(false,eval (.Name v q4) (zal X scope N' i).env)::Vg [] (zal X scope N' i).env:=by intro i;rfl)
 (b5:∀ i,Vg [.ListComp (.Tuple [.Name s q1,.Call (.Name "sorted" q2) [.Call (.Name "set" q3) [.Name v q4] [] q5] [] q6] c1 q7) [⟨.Tuple [.Name s r1,.Name v r2] c2 r3,.Call (.Attribute (.Name y py) "items" apos) [] [] cpos,[],0⟩] scope p0] (X i).env=(false,eval (.ListComp (.Tuple [.Name s q1,.Call (.Name "sorted" q2) [.Call (.Name "set" q3) [.Name v q4] [] q5] [] q6] c1 q7) [⟨.Tuple [.Name s r1,.Name v r2] c2 r3,.Call (.Attribute (.Name y py) "items" apos) [] [] cpos,[],0⟩] scope p0) (X i).env)::Vg [] (X i).env:=by intro i;rfl)
 (hset:∀ i z,V7 (.Call (.Attribute (.Name y py) "items" apos) [] [] cpos) (X i).env z=pure z:=by intro _ _;rfl)
 (hsw:∀ i,VH (.Call (.Name "dict" p1) [.ListComp (.Tuple [.Name s q1,.Call (.Name "sorted" q2) [.Call (.Name "set" q3) [.Name v q4] [] q5] [] q6] c1 q7) [⟨.Tuple [.Name s r1,.Name v r2] c2 r3,.Call (.Attribute (.Name y py) "items" apos) [] [] cpos,[],0⟩] scope p0] [] p2) (some (.Name x px)) pos.line (X i).env=pure false:=by intro i;rfl) :
 S3 K X O (.Assign [.Name x px] (.Call (.Name "dict" p1) [.ListComp (.Tuple [.Name s q1,.Call (.Name "sorted" q2) [.Call (.Name "set" q3) [.Name v q4] [] q5] [] q6] c1 q7) [⟨.Tuple [.Name s r1,.Name v r2] c2 r3,.Call (.Attribute (.Name y py) "items" apos) [] [] cpos,[],0⟩] scope p0] [] p2) pos) (zwv P w m n):=by
 have C2:=C.comp scope N';refine⟨tAsg (zq6 P w K m) (zao n),λi=>?_,λj=>ztl⟩;have hc:=zna (X:=X i) (C.calm i) (by have:=(C.room i).units;omega);rw[C.hK] at hc;have it:=zj7 (X:=X i) (elts := [.Name s r1,.Name v r2]) (x1:=c2) (pos:=r3) (apos:=apos) (cpos:=cpos) (zag (pos:=py) (hm i) (hv i) hd hcd) (hbase i) hline;rw[C.hP,C.hw] at it;refine zbt (hN i) (hi i) (hx i) (zd1 (p:=p1) (pos:=p2) hc (g0 i) (by rw[C.hmg];exact B.dict) zxg (zai (zf1 (pos:=p0) 2 (S i) (C.calm i) it (λc s' H ex=>?_) (znk (zg6 zdq (zk7 zdq zji) (zb9 (by decide)) (zg6 zdq zji (zb9 (by decide)) znj))) (λc s' H ex=>zie) (λc s' H ex=>?_) (hset i)) zaq (b5 i)) (by decide) (by decide) (b5 i) rfl) (hsw i) (hf i)
 ·have z:=zg9 (X:=zal X scope N' (i,⟨c,s',H,ex⟩)) (pos:=r3) (k:=c2) (C2.calm (i,⟨c,s',H,ex⟩)) (zca (zbm (pos:=r1) (hN1 (i,⟨c,s',H,ex⟩)) (hi1 (i,⟨c,s',H,ex⟩)) (hx1 (i,⟨c,s',H,ex⟩)) (hf1 (i,⟨c,s',H,ex⟩))) (zca (zbm (pos:=r2) (hN1 (i,⟨c,s',H,ex⟩)) (hi2 (i,⟨c,s',H,ex⟩)) (hx2 (i,⟨c,s',H,ex⟩)) (hf2 (i,⟨c,s',H,ex⟩))) zf0 (a2 _)) (a1 _)) (a3 _) (a4 _);rw[C2.hK] at z;exact z
 ·have z:=zm1 (X:=zal X scope N' (i,⟨c,s',H,ex⟩)) (p1:=q2) (p2:=q3) (p3:=q5) (p4:=q6) (C2.calm _) (g1 _) (by rw[C2.hmg];exact B.sorted) (g2 _) (by rw[C2.hmg];exact B.set) (zag (pos:=q4) (hi2 (i,⟨c,s',H,ex⟩)) (hv2 (i,⟨c,s',H,ex⟩)) hd2 hcd2) (b3 _) (b4 _);rw[C2.hK] at z;exact zdj (zai (zag (pos:=q1) (hi1 (i,⟨c,s',H,ex⟩)) (hv1 (i,⟨c,s',H,ex⟩)) hd1 hcd1) (zai z zaq (b2 (i,⟨c,s',H,ex⟩))) (b1 (i,⟨c,s',H,ex⟩)))
end
theorem zyt{k j n:Nat}{gb:DS}{Dd:DEnds}{es:DLs}{ρ:DSt}(J:Nat->DSt->Prop)(h0:J 0 ρ)(fin:∀ ρ,J es.length ρ->Dd.nx ρ)
 (step:∀ (i:Nat) p ρ (N:DSt->Prop),es[i]? = some p->(∀ ρ',J (i+1) ρ'->N ρ')->J i ρ->∃ x y:Int,p.1 = [.inl x,.inl y]/\gb { Dd with nx:=N,ct:=N,bk:=Dd.nx } (((ρ.set k (some (.im (.int x)))).set j (some (.im (.int y)))).set n (some (.im (.list (p.2.map .str)))))):goL k j n gb Dd es ρ:=by
 have key:∀ (m i:Nat),i+m=es.length->∀ ρ,J i ρ->goL k j n gb Dd (es.drop i) ρ:=by
  intro m
  induction m with
  | zero =>
    intro i hi ρ h;rw[QZ (by omega)];have e:i=es.length:=by omega
    rw[e] at h;exact fin ρ h
  | succ m ih =>
    intro i hi ρ h;have hlt:i<es.length:=by omega
    rw[QC hlt];exact step i es[i] ρ _ (Qa hlt) (λρ' h'=>ih (i+1) (by omega) ρ' h') h
 have:=key es.length 0 (by omega) ρ h0;simpa using this
def kkA(k j:Nat):List Key := [.inl (k:Int),.inl (j:Int)]
theorem zd8{k j x y:Nat}(h:kkA k j=kkA x y):k=x/\j=y:=by
 unfold kkA at h;injection h with h1 h2;injection h2 with h2 _;have e1:=jj h1;have e2:=jj h2;omega
def totD(es:DLs):Nat:=(es.map λp=>p.2.length).sum
def TabA(es:DLs)(S:Nat->Nat->W->Prop):Prop:=(es.map (·.1)).Nodup/\(∀ p ∈ es,∃ (k j:Nat) (ws:List W),p=(kkA k j,ws.map tx)/\ws ≠ []/\∀ w,w ∈ ws↔S k j w)/\∀ k j w,S k j w->∃ p ∈ es,p.1=kkA k j
theorem TabA.same{es:DLs}{S S':Nat->Nat->W->Prop}(h:TabA es S)(e:∀ k j w,S' k j w↔S k j w):TabA es S' :=
 ⟨h.1,λp hp=>by
  obtain⟨k,j,ws,h1,h2,h3⟩:=h.2.1 p hp
  exact⟨k,j,ws,h1,h2,λw=>(h3 w).trans (e k j w).symm⟩,λk j w z=>h.2.2 k j w ((e k j w).mp z)⟩
theorem at_none{es:DLs}{k:List Key}:es.at_ k=none↔∀ p ∈ es,p.1 ≠ k:=by
 unfold DLs.at_;rw[Zz,JJ];exact⟨λh p hp e=>h p hp (by simpa using e),λh p hp e=>h p hp (by simpa using e)⟩
theorem zlf{es:DLs}{k:List Key}{ss:List Str}(h:es.at_ k=some ss):(k,ss) ∈ es:=by
 unfold DLs.at_ at h;obtain⟨q,hq,e⟩:=Q0.mp h;have h1:=JL hq;have h2:=List.find?_some hq;have h2:q.1=k:=by simpa using h2
 rw[<- h2,<- e];exact h1
theorem zeb:∀ {es:DLs} {p:List Key × List Str},p ∈ es->p.2.length<=totD es
 | q::es,p,h=>by
   unfold totD;rw[Qn,ZF];rcases Qs.mp h with rfl|h
   ·omega
   ·have:=zeb h;unfold totD at this;omega
theorem zin{k:List Key}{ts:List Str}:∀ {es:DLs},totD (es.add k ts)<=totD es+ts.length
 | []=>Qw _
 | (j,ss)::es=>by
   unfold DLs.add
   split
   ·unfold totD;rw[Qn,Qn,ZF,ZF,Qj];show _<=ss.length+_+_;omega
   ·have:=zin (k:=k) (ts:=ts) (es:=es);unfold totD at this ⊢;rw[Qn,Qn,ZF,ZF];omega
theorem zgd{k:List Key}{es:DLs}:totD (es.sdf k)=totD es/\(es.sdf k).length<=es.length+1:=by
 unfold DLs.sdf
 split
 ·exact⟨rfl,by omega⟩
 ·unfold totD;rw[Qy,Yn,Qj];exact⟨rfl,Qc _⟩
theorem zov{k:List Key}{ts:List Str}:∀ {es:DLs},(es.map (·.1)).Nodup->es.add k ts=es.map λq=>if q.1=k then(q.1,q.2++ts) else q
 | [],_=>rfl
 | (j,ss)::es,nd=>by
   obtain⟨n1,n2⟩:=Zi.mp nd;unfold DLs.add;rw[Qn]
   by_cases e:j=k
   ·rw[GQ e,GQ e];refine Tb _ (Eq.symm ?_);refine(Jg (g:=id) λq hq=>GT λz=>n1 ?_).trans (List.map_id _);rw[e,<- z];exact Qp.mpr ⟨q,hq,rfl⟩
   ·rw[GT e,GT e,zov n2]
theorem zi9{k:List Key}{ts:List Str}:∀ {es:DLs},(es.add k ts).length=es.length
 | []=>rfl
 | (j,ss)::es=>by
   unfold DLs.add
   split
   ·rfl
   ·rw[Qf,Qf,zi9]
theorem TabA.add{es:DLs}{S:Nat->Nat->W->Prop}{k j:Nat}{us:List W}(h:TabA es S)(hu:us ≠ []):TabA ((es.sdf (kkA k j)).add (kkA k j) (us.map tx)) λk' j' w=>S k' j' w\/(k'=k/\j'=j/\w ∈ us):=by
 obtain⟨nd,h1,h2⟩:=h
 have nd2:((es.sdf (kkA k j)).map (·.1)).Nodup:=by
  unfold DLs.sdf
  split
  ·exact nd
  ·rename_i z
   have an:es.at_ (kkA k j)=none:=by
    cases e:es.at_ (kkA k j) with
    | none=>rfl
    | some v=>rw[e] at z;exact absurd rfl z
   rw[Qy];refine Zx.mpr ⟨nd,by simp,λx hx y hy e=>?_⟩;obtain⟨p,hp,rfl⟩:=Qp.mp hx;rw[List.map_singleton,Qg] at hy;exact at_none.mp an p hp (e.trans hy)
 have m2:∀ q ∈ es.sdf (kkA k j),q ∈ es\/(q=(kkA k j,[])/\∀ w,¬ S k j w):=λq hq=>by
  unfold DLs.sdf at hq
  split at hq
  ·exact .inl hq
  ·rename_i z
   have an:es.at_ (kkA k j)=none:=by
    cases e:es.at_ (kkA k j) with
    | none=>rfl
    | some v=>rw[e] at z;exact absurd rfl z
   rcases Qv.mp hq with hq|hq
   ·exact .inl hq
   ·refine .inr ⟨Qg.mp hq,λw hw=>?_⟩;obtain⟨p,hp,e⟩:=h2 k j w hw;exact at_none.mp an p hp e
 rw[zov nd2];have e0:∀ q:List Key × List Str,(if q.1=kkA k j then(q.1,q.2++us.map tx) else q).1=q.1:=λq=>by split <;> rfl
 have mk:∀ q ∈ es.sdf (kkA k j),∃ p ∈ (es.sdf (kkA k j)).map (λq=>if q.1=kkA k j then(q.1,q.2++us.map tx) else q),p.1=q.1:=λq hq=>⟨_,J9 hq,e0 q⟩;refine⟨?_,λp hp=>?_,λk' j' w z=>?_⟩
 ·rw[QG];rwa [show((λx:List Key × List Str=>x.1) ∘ λq=>if q.1=kkA k j then(q.1,q.2++us.map tx) else q)=(·.1) from funext e0]
 ·obtain⟨q,hq,rfl⟩:=Qp.mp hp;rcases m2 q hq with hq|⟨rfl,no⟩
  ·obtain⟨x,y,ws,rfl,n0,hw⟩:=h1 q hq
   by_cases e:kkA x y=kkA k j
   ·obtain⟨rfl,rfl⟩:=zd8 e;refine⟨x,y,ws++us,by rw[GQ rfl,Qy],by simp[n0],λw=>?_⟩;rw[Qv,hw];exact Td YU ⟨λh=>⟨rfl,rfl,h⟩,λh=>h.2.2⟩
   ·refine⟨x,y,ws,by rw[GT e],n0,λw=>?_⟩;rw[hw];exact⟨.inl,λh=>h.elim id λ⟨a,b,_⟩=>absurd (by rw[a,b]) e⟩
  ·refine⟨k,j,us,by rw[GQ rfl,ZJ],hu,λw=>⟨λh => .inr ⟨rfl,rfl,h⟩,λh=>h.elim (λh=>absurd h (no w)) λh=>h.2.2⟩⟩
 ·rcases z with z|⟨rfl,rfl,_⟩
  ·obtain⟨q,hq,e⟩:=h2 k' j' w z;obtain⟨p,hp,e'⟩:=mk q (by unfold DLs.sdf;split;exact hq;exact Zp _ hq);exact⟨p,hp,e'.trans e⟩
  ·have:∃ q ∈ es.sdf (kkA k' j'),q.1=kkA k' j':=by
    unfold DLs.sdf
    split
    ·rename_i z
     obtain⟨v,hv⟩:=Z7.mp z;exact⟨_,zlf hv,rfl⟩
    ·exact⟨_,Q2 _ (Qg.mpr rfl),rfl⟩
   obtain⟨q,hq,e⟩:=this;obtain⟨p,hp,e'⟩:=mk q hq;exact⟨p,hp,e'.trans e⟩
theorem zog{ws:List W}:∀ {zs:List Str},(∀ x ∈ zs,x ∈ ws.map tx)->∃ vs:List W,zs=vs.map tx
 | [],_=>⟨[],rfl⟩
 | z::zs,h=>by
   obtain⟨vs,e⟩:=zog (ws:=ws) (zs:=zs) λx hx=>h x (Qb _ hx);obtain⟨w,_,e'⟩:=Qp.mp (h z Qt);exact⟨w::vs,by rw[Qn,e,e']⟩
theorem Srt1.mem:∀ {es fs:DLs},Srt1 es fs->∀ p ∈ fs,∃ ss,(p.1,ss) ∈ es/\p.2.Nodup/\∀ x,x ∈ p.2↔x ∈ ss
 | [],[],_,p,hp=>by cases hp
 | [],_::_,h,_,_=>h.elim
 | _::_,[],h,_,_=>h.elim
 | (k,ss)::es,(j,zs)::fs,h,p,hp=>by
   obtain⟨rfl,⟨h1,h2,_⟩,h3⟩:=h;rcases Qs.mp hp with rfl|hp
   ·exact⟨ss,Qt,h1,h2⟩
   ·obtain⟨s,a,b⟩:=Srt1.mem h3 p hp;exact⟨s,Qb _ a,b⟩
theorem Srt1.tot:∀ {es fs:DLs},Srt1 es fs->totD fs<=totD es/\fs.length=es.length
 | [],[],_=>⟨Qc _,rfl⟩
 | [],_::_,h=>h.elim
 | _::_,[],h=>h.elim
 | (k,ss)::es,(j,zs)::fs,h=>by
   obtain⟨rfl,⟨h1,h2,_⟩,h3⟩:=h;obtain⟨t1,t2⟩:=Srt1.tot h3;have:=zjv h1 λx hx=>(h2 x).mp hx;unfold totD at t1 ⊢;rw[Qn,Qn,ZF,ZF,Qf,Qf];refine⟨?_,by omega⟩;show zs.length+_<=ss.length+_;omega
def TabN(es:DLs)(S:Nat->Nat->W->Prop):Prop:=(es.map (·.1)).Nodup/\(∀ p ∈ es,∃ (k j:Nat) (ws:List W),p=(kkA k j,ws.map tx)/\ws ≠ []/\ws.Nodup/\∀ w,w ∈ ws↔S k j w)/\∀ k j w,S k j w->∃ p ∈ es,p.1=kkA k j
theorem TabA.srt{es fs:DLs}{S:Nat->Nat->W->Prop}(h:TabA es S)(s:Srt1 es fs):TabN fs S:=by
 obtain⟨nd,h1,h2⟩:=h;have ke:=s.keys;refine⟨by rw[ke];exact nd,λp hp=>?_,λk j w z=>?_⟩
 ·obtain⟨ss,m,n,ms⟩:=s.mem p hp;obtain⟨k,j,ws,e,n0,hw⟩:=h1 _ m;injection e with e1 e2;subst e2;obtain⟨vs,ev⟩:=zog (ws:=ws) λx hx=>(ms x).mp hx
  have mv:∀ w,w ∈ vs↔w ∈ ws:=λw=>by
   have a:tx w ∈ vs.map tx↔tx w ∈ ws.map tx:=by rw[<- ev];exact ms (tx w)
   have b:∀ {us:List W},tx w ∈ us.map tx↔w ∈ us:=λ{us}=>⟨λh=>by
    obtain⟨v,hv,e⟩:=Qp.mp h;rw[<- zc1 e]
    exact hv,λh=>J9 h⟩
   rw[b,b] at a;exact a
  refine⟨k,j,vs,YK e1 ev,λz=>?_,?_,λw=>(mv w).trans (hw w)⟩
  ·obtain⟨w,hw'⟩:=JM ws n0;have:=(mv w).mpr hw';rw[z] at this;cases this
  ·rw[ev] at n;exact(Zw.mp n).imp λh e=>h (by rw[e])
 ·obtain⟨p,hp,e⟩:=h2 k j w z;have:p.1 ∈ fs.map (·.1):=by rw[ke];exact J9 hp
  obtain⟨q,hq,e'⟩:=Qp.mp this;exact⟨q,hq,e'.trans e⟩
def NxA(a b:W)(k j k' j':Nat)(w w':W):Prop :=
 (∃ c,a[k]? = some c/\b[j]? = some c/\k'=k+1/\j'=j+1/\w'=w ++ [c])\/(∃ c,a[k]? = some c/\b[j]? ≠ some c/\k'=k+1/\j'=j/\w'=w ++ [c])\/(∃ c,b[j]? = some c/\a[k]? ≠ some c/\k'=k/\j'=j+1/\w'=w ++ [c])\/(k=a.length/\j=b.length/\k'=k/\j'=j/\w'=w)
theorem zuu{a b:W}{t k' j':Nat}{w':W}:Rch a b (t+1) k' j' w'↔∃ k j w,Rch a b t k j w/\NxA a b k j k' j' w w':=by
 constructor
 ·intro h
  cases h with
  | both h ha hb=>exact⟨_,_,_,h,.inl ⟨_,ha,hb,rfl,rfl,rfl⟩⟩
  | left h ha hb=>exact⟨_,_,_,h,.inr (.inl ⟨_,ha,hb,rfl,rfl,rfl⟩)⟩
  | right h hb ha=>exact⟨_,_,_,h,.inr (.inr (.inl ⟨_,hb,ha,rfl,rfl,rfl⟩))⟩
  | stay h=>exact⟨_,_,_,h,.inr (.inr (.inr ⟨rfl,rfl,rfl,rfl,rfl⟩))⟩
 ·rintro⟨k,j,w,h,⟨c,h1,h2,rfl,rfl,rfl⟩|⟨c,h1,h2,rfl,rfl,rfl⟩|⟨c,h1,h2,rfl,rfl,rfl⟩|⟨rfl,rfl,rfl,rfl,rfl⟩⟩
  ·exact .both h h1 h2
  ·exact .left h h1 h2
  ·exact .right h h1 h2
  ·exact .stay h
def SfA(a b:W)(es:DLs)(i:Nat)(k' j':Nat)(w':W):Prop:=∃ (k j:Nat) (ws:List W) (w:W),(kkA k j,ws.map tx) ∈ es.take i/\w ∈ ws/\NxA a b k j k' j' w w'
theorem SfA.zero{a b:W}{es:DLs}{k' j':Nat}{w':W}:¬ SfA a b es 0 k' j' w':=λ⟨_,_,_,_,h,_⟩=>by cases h
theorem SfA.succ{a b:W}{es:DLs}{i k j k' j':Nat}{ws:List W}{w':W}(h:es[i]? = some (kkA k j,ws.map tx)):SfA a b es (i+1) k' j' w'↔SfA a b es i k' j' w'\/∃ w ∈ ws,NxA a b k j k' j' w w':=by
 unfold SfA;rw[Zh,h];constructor
 ·rintro⟨x,y,us,w,m,hw,n⟩;rcases Qv.mp m with m|m
  ·exact .inl ⟨x,y,us,w,m,hw,n⟩
  ·have e:=Qg.mp m;injection e with e1 e2;obtain⟨rfl,rfl⟩:=zd8 e1;obtain rfl:us=ws:=YI (λ_ _ e=>zc1 e) |>.mp e2;exact .inr ⟨w,hw,n⟩
 ·rintro(⟨x,y,us,w,m,hw,n⟩|⟨w,hw,n⟩)
  ·exact⟨x,y,us,w,Zp _ m,hw,n⟩
  ·exact⟨k,j,ws,w,Q2 _ (Qg.mpr rfl),hw,n⟩
theorem SfA.all{a b:W}{es:DLs}{t k' j':Nat}{w':W}(h:TabN es (Rch a b t)):SfA a b es es.length k' j' w'↔Rch a b (t+1) k' j' w':=by
 rw[zuu];unfold SfA;rw[QP];constructor
 ·rintro⟨k,j,ws,w,m,hw,n⟩;obtain⟨x,y,us,e,_,_,hu⟩:=h.2.1 _ m;injection e with e1 e2;obtain⟨rfl,rfl⟩:=zd8 e1;obtain rfl:ws=us:=YI (λ_ _ e=>zc1 e) |>.mp e2;exact⟨_,_,w,(hu w).mp hw,n⟩
 ·rintro⟨k,j,w,hr,n⟩;obtain⟨p,hp,e⟩:=h.2.2 k j w hr;obtain⟨x,y,us,e',_,_,hu⟩:=h.2.1 p hp;subst e';obtain⟨rfl,rfl⟩:=zd8 e;exact⟨_,_,us,w,hp,(hu w).mpr hr,n⟩
def sgA(t:W)(n:Nat):W:=(t.drop n).take 1
theorem zof{t:W}{n:Nat}(h:t.length<=100000):slcF (some (n:Int)) (some ((n:Int)+1)) (.str (tx t))=some (.o (.str (tx (sgA t n)))):=by
 rw[zdy (by omega)];unfold cutL sgA;rw[show((n:Int)+1)=((n+1:Nat):Int) by omega,zfx,zfx];rcases Zu n t.length with h|h
 ·rw[Yl (by omega),Yl (by omega),show n+1 - n=1 by omega]
 ·rw[JW (by omega),JW (by omega),JC,ZS,QZ h,Y9]
theorem zbh{t:W}{n c:Nat}(h:t[n]? = some c):sgA t n = [c]:=by
 unfold sgA;have hl:=(Qi.mp h);rw[QC hl.1,hl.2];rfl
theorem zdo{t:W}{n:Nat}(h:t[n]? = none):sgA t n = []:=by
 unfold sgA;rw[QZ (Z3.mp h)];rfl
theorem zq5{t:W}{n:Nat}(h:∀ c ∈ t,c<128):∀ c ∈ sgA t n,c<128:=λc hc=>h c (Z9 (ZA hc))
theorem sgA_eq{s t:W}{n m:Nat}:sgA s n=sgA t m↔s[n]? = t[m]?:=by
 cases h:s[n]? with
 | none =>
   rw[zdo h]
   cases h':t[m]? with
   | none=>rw[zdo h'];simp
   | some d=>rw[zbh h'];simp
 | some c =>
   rw[zbh h]
   cases h':t[m]? with
   | none=>rw[zdo h'];simp
   | some d=>rw[zbh h'];simp
theorem zmi{a b:W}{k j k' j' c:Nat}{w w':W}(ha:a[k]? = some c)(hb:b[j]? = some c):NxA a b k j k' j' w w'↔k'=k+1/\j'=j+1/\w'=w ++ [c]:=by
 have la:=(Qi.mp ha).1;unfold NxA;constructor
 ·rintro(⟨d,h1,h2,h3⟩|⟨d,h1,h2,h3⟩|⟨d,h1,h2,h3⟩|⟨h1,h2,h3⟩)
  ·rw[ha] at h1;cases h1;exact h3
  ·rw[ha] at h1;cases h1;exact absurd hb h2
  ·rw[hb] at h1;cases h1;exact absurd ha h2
  ·omega
 ·exact λh => .inl ⟨c,ha,hb,h⟩
theorem zos{a b:W}{k j k' j':Nat}{w w':W}(ha:k=a.length)(hb:j=b.length):NxA a b k j k' j' w w'↔k'=k/\j'=j/\w'=w:=by
 unfold NxA;constructor
 ·rintro(⟨d,h1,h2,h3⟩|⟨d,h1,h2,h3⟩|⟨d,h1,h2,h3⟩|⟨h1,h2,h3⟩)
  ·have:=(Qi.mp h1).1;omega
  ·have:=(Qi.mp h1).1;omega
  ·have:=(Qi.mp h1).1;omega
  ·exact h3
 ·exact λh => .inr (.inr (.inr ⟨ha,hb,h⟩))
theorem zk2{a b:W}{k j k' j':Nat}{w w':W}(h:a[k]? ≠ b[j]?):NxA a b k j k' j' w w'↔(sgA a k ≠ []/\k'=k+1/\j'=j/\w'=w++sgA a k)\/(sgA b j ≠ []/\k'=k/\j'=j+1/\w'=w++sgA b j):=by
 unfold NxA;constructor
 ·rintro(⟨d,h1,h2,h3⟩|⟨d,h1,h2,h3⟩|⟨d,h1,h2,h3⟩|⟨h1,h2,h3⟩)
  ·exact absurd (h1.trans h2.symm) h
  ·rw[zbh h1];exact .inl ⟨by simp,h3⟩
  ·rw[zbh h1];exact .inr ⟨by simp,h3⟩
  ·exact absurd (by rw[h1,h2,Qu (Qc _),Qu (Qc _)]) h
 ·rintro(⟨h1,h3⟩|⟨h1,h3⟩)
  ·cases ha:a[k]? with
   | none=>rw[zdo ha] at h1;exact absurd rfl h1
   | some c=>rw[zbh ha] at h3;exact .inr (.inl ⟨c,rfl,λz=>h (by rw[ha,z]),h3⟩)
  ·cases hb:b[j]? with
   | none=>rw[zdo hb] at h1;exact absurd rfl h1
   | some c=>rw[zbh hb] at h3;exact .inr (.inr (.inl ⟨c,rfl,λz=>h (by rw[hb,z]),h3⟩))
def zqd(p:Nat × Nat × W):Ve := .tuple [.int (p.1:Nat),.int (p.2.1:Nat),tS p.2.2]
def StA(st:List (Nat × Nat × W))(ws:List W)(k' j':Nat)(w':W):Prop:=∃ p ∈ st,p.2.2 ≠ []/\k'=p.1/\j'=p.2.1/\∃ w ∈ ws,w'=w++p.2.2
theorem StA.nil{ws:List W}{k' j':Nat}{w':W}:¬ StA [] ws k' j' w':=λ⟨_,h,_⟩=>by cases h
theorem StA.snoc{st:List (Nat × Nat × W)}{p:Nat × Nat × W}{ws:List W}{k' j':Nat}{w':W}:StA (st ++ [p]) ws k' j' w'↔StA st ws k' j' w'\/(p.2.2 ≠ []/\k'=p.1/\j'=p.2.1/\∃ w ∈ ws,w'=w++p.2.2):=by
 unfold StA;constructor
 ·rintro⟨q,hq,h⟩;rcases Qv.mp hq with hq|hq
  ·exact .inl ⟨q,hq,h⟩
  ·rw[Qg.mp hq] at h;exact .inr h
 ·rintro(⟨q,hq,h⟩|h)
  ·exact⟨q,Zp _ hq,h⟩
  ·exact⟨p,Q2 _ (Qg.mpr rfl),h⟩
theorem zuo{es:DLs}{i:Nat}{p:List Key × List Str}(h:es[i]? = some p):totD (es.take (i+1))=totD (es.take i)+p.2.length:=by
 unfold totD;rw[Zh,h,Qy,Yn];simp
theorem zhu{es:DLs}{i:Nat}:totD (es.take i)<=totD es:=by
 have h:totD (es.take i)+totD (es.drop i)=totD es:=by
  unfold totD;rw[<- Yn,<- Qy,Zm]
 omega
theorem zsj{a b:W}:∀ t,∃ k j w,Rch a b t k j w
 | 0=>⟨_,_,_,.zero⟩
 | t+1=>by
   obtain⟨k,j,w,h⟩:=zsj (a:=a) (b:=b) t;obtain⟨o1,o2,_⟩:=h.ok
   cases ha:a[k]? with
   | none =>
     have:=Z3.mp ha;obtain rfl:k=a.length:=by omega
     cases hb:b[j]? with
     | none =>
       have:=Z3.mp hb;obtain rfl:j=b.length:=by omega
       exact⟨_,_,_,.stay h⟩
     | some c=>exact⟨_,_,_,.right h hb (by rw[ha];exact λz=>by cases z)⟩
   | some c =>
     by_cases hb:b[j]? = some c
     ·exact⟨_,_,_,.both h ha hb⟩
     ·exact⟨_,_,_,.left h ha hb⟩
theorem zwq:∀ {es:DLs} {k:List Key} {ss:List Str},(es.map (·.1)).Nodup->(k,ss) ∈ es->es.at_ k=some ss
 | (j,zs)::es,k,ss,nd,h=>by
   obtain⟨n1,n2⟩:=Zi.mp nd;unfold DLs.at_;rcases Qs.mp h with h|h
   ·cases h;rw[Za (by simp)];rfl
   ·have ne:j ≠ k:=λe=>n1 (by rw[e];exact Qp.mpr ⟨_,h,rfl⟩);rw[ZE (by simpa using ne)];exact zwq n2 h
theorem neE{a:List Nat}(ha:∀ c ∈ a,c<128):eqF true (.str (tx a)) (.str (Str.ofString ""))=some (.o (.bool (!decide (a = [])))):=by
 rw[show Str.ofString "" = tx [] by decide +kernel,zdg (zdk ha) (by decide +kernel),zk6];rfl
theorem eqN{a b:Nat}:eqF false (.int (a:Nat)) (.int (b:Nat))=some (.o (.bool (decide (a=b)))):=by
 rw[zgf,GT Ql]
 congr 3
 exact decide_eq_decide.mpr Int.ofNat_inj
end L3
namespace L14
open PySem PySem.Spec
open PyProof.Rows hiding St
open L2 L3 L6
local macro_rules | `(tactic| infer_instance) => `(tactic| first|refine⟨_, _, rfl, rfl, ?_⟩|refine⟨_, eqI, ?_⟩|refine⟨_, neI, ?_⟩|refine⟨_, rfl, ?_⟩|refine⟨rfl, ?_⟩|refine⟨(by show _ ≤ sizeLine; rw[Vj]; exact Nat.le_of_ble_eq_true rfl), ?_⟩|refine⟨_, _, rfl, ?_⟩|refine⟨_, _, _, rfl, ?_⟩|refine iteT ?_|refine iteF ?_|refine Or.inl ⟨rfl, ?_⟩|refine Or.inr ⟨rfl, ?_⟩|refine⟨_, eqS_t (by decide +kernel), ?_⟩|refine⟨_, eqS_f (by decide +kernel) (by decide +kernel), ?_⟩|refine⟨_, inS_t (by decide +kernel), ?_⟩|refine⟨_, inS_f (by decide +kernel), ?_⟩)
section
variable {P : Vf} {w : Vk} {K : PySem.W.Frag} {mg : Str → Option Vb} {base : Heap} {k : Nat}
abbrev zes:Stmt:=top 1
theorem zm0:FnScope ["word"] ["word"] (zaf zes):=⟨rfl,rfl,rfl,by decide +kernel,rfl,by decide +kernel,by decide +kernel⟩
theorem zdl(B:Blt mg)(T:Top3 K mg "word_order" zes):Def3 P w K mg base 1 "word_order" ["word"] (spO K (λ_=>True) 1 zh7):=by
 refine mk_O T zm0 (λ_ _ _ _ _ _ us hl=>len1 hl λ_=>rfl) rfl λf cdv A outer s H E O hφ C=>⟨_,(zam (zbw (zf2 (zac (zbd C B (zac (zab 0) zae)) (zac (zab 0) zae))))),λds Qr hn q=>?_⟩;obtain⟨v,rfl,hv,q⟩:=q;exact⟨_,_,rfl,rfl,_,zbz (by omega),_,_,rfl,rfl,by show 2<=sizeLine;decide,q _ rfl⟩
end
theorem zwl{ks:List (List Nat)}{w:List Nat}:(ks.map tx).contains (tx w)=ks.contains w:=by
 apply ZI.mpr;rw[Jw,Jw,Qp];exact⟨λ⟨v,hv,e⟩=>by rw[<- zc1 e];exact hv,λh=>⟨w,h,rfl⟩⟩
section
variable {P : Vf} {w : Vk} {K : PySem.W.Frag} {mg : Str → Option Vb} {base : Heap} {k : Nat}
abbrev zbn:Stmt:=top 2
theorem zd3:FnScope ["words", "kept", "word"] ["words"] (zaf zbn):=⟨rfl,rfl,rfl,by decide +kernel,rfl,by decide +kernel,by decide +kernel⟩
theorem za8(B:Blt mg)(zdl:Def3 P w K mg base 1 "word_order" ["word"] (spO K (λ_=>True) 1 zh7))(T:Top3 K mg "without_needless_first" zbn):Def3 P w K mg base 3 "without_needless_first" ["words"] (spO K (λ_=>True) 1 wnfF):=by
 refine mk_O T zd3 (λ_ _ _ _ _ _ us hl=>len1 hl λ_=>rfl) rfl λf cdv A outer s H E O hφ C=>⟨_,(zak (zxw 1) (zak (zdf C (zc8 (zci C (zum C B zdl (λ_=>trivial) (zab 0)))) (zbb (h:=1000) 2) (zam (s_if (zw4 1 C (zau C (zab 2) (zas zan) zbs)) (zam (zxe 1 C (zab 2))) zb0))) (zam (zbw (zth 1 C B))))),λds Qr hn q=>?_⟩;obtain⟨ws,rfl,hl,hw,q⟩:=q;have sz:=Vj
 (repeat infer_instance)
 refine⟨_,wkey,rfl,by rw[Qe];exact hl,λd hd=>?_,?_⟩
 ·obtain⟨w,hm,rfl⟩:=Qp.mp hd;rw[znm];exact⟨w,rfl,(hw w hm).1,λr e=>e⟩
 rw[zm4];have hs:∀ w ∈ zbi ws,Sml w:=λw hm=>hw w ((ZM _ _).mem_iff.mp hm);have ls:(zbi ws).length<=1000000:=by unfold zbi;rw[Ys];exact hl
 generalize zbi ws=l at hs ls q;refine⟨_,rfl,rfl,?_⟩;refine zbc (λi ρ=>∃ x2:Option DV,ρ = [some (.im (.list (ws.map tS))),some (.thg (DctS ((wnf (l.take i)).map tx))),x2]/\(wnf (l.take i)).length<=i) ⟨none,rfl,Qc _⟩ (λρ hρ=>?_) λi d ρ N hd nx hρ=>?_
 ·obtain⟨x2,rfl,_⟩:=hρ;rw[Qe,QP];refine⟨_,rfl,?_⟩;rw[QG];exact q
 ·obtain⟨x2,rfl,lw⟩:=hρ;rw[Qk] at hd;obtain⟨w,hw',rfl⟩:=Q0.mp hd;have sw:=hs w (Q6 hw');have il:=(Qi.mp hw').1
  have es:wnf (l.take (i+1))=(if(wnf (l.take i)).contains w.tail then wnf (l.take i) else if(wnf (l.take i)).contains w then wnf (l.take i) else wnf (l.take i) ++ [w]):=by
   unfold wnf;rw[Zh,hw',YV];rfl
  refine⟨rfl,?_⟩;have l1:=sw.1
  (repeat infer_instance)
  have sl:slcF (some 1) none (.str (tx w))=some (.o (.str (tx w.tail))):=by
   rw[zdy (by omega),show cutL w (some 1) none=w.drop 1 from zco w 1,List.drop_one]
  refine⟨_,sl,_,rfl,_,rfl,?_⟩;rw[zwl]
  cases h1:(wnf (l.take i)).contains w.tail with
  | true =>
    rw[GQ h1] at es
    (repeat infer_instance)
    exact nx _ ⟨_,by rw[es];rfl,by rw[es];omega⟩
  | false =>
    rw[GT (by rw[h1];decide)] at es
    (repeat infer_instance)
    refine⟨by rw[Qe];omega,?_⟩
    have ea:addK ((wnf (l.take i)).map tx) (tx w)=(wnf (l.take (i+1))).map tx:=by
     unfold addK;rw[zwl,es]
     split
     ·rfl
     ·rw[Qy];rfl
    rw[ea];refine nx _ ⟨_,rfl,?_⟩;rw[es]
    split
    ·omega
    ·rw[Qj,QO];omega
end
section
variable {P : Vf} {w : Vk} {K : PySem.W.Frag} {mg : Str → Option Vb} {base : Heap} {k : Nat}
abbrev zfk:Stmt:=top 3
theorem zo6:FnScope ["letter", "words"] ["letter", "words"] (zaf zfk):=⟨rfl,rfl,rfl,by decide +kernel,rfl,by decide +kernel,by decide +kernel⟩
theorem zb4(B:Blt mg)(T:Top3 K mg "put_ahead" zfk):Def3 P w K mg base 1 "put_ahead" ["letter", "words"] (spO K (λ_=>True) 2 zjm):=by
 refine mk_O T zo6 (λ_ _ _ _ _ _ us hl=>len2 hl λ_ _=>rfl) rfl λf cdv A outer s H E O hφ C=>⟨_,(zam (zbw (zdp 1 ["word", "letter", "words"] C (λ_ => .of rfl (by kernel_rfl)) (zci C (zab 1)) (zbb 0) ze9 (zay (C.comp _ _) (zab 1) (zab 0))))),λds Qr hn q=>?_⟩;obtain⟨c,ws,rfl,hl,hw,q⟩:=q;have sz:=Vj
 (repeat infer_instance)
 refine zgc (α:=List Nat) (enc:=tS) (e:=λw=>tS (c::w)) (λw hm P hP=>?_) (by omega) ?_
 ·have:=hw w hm
  (repeat infer_instance)
  exact⟨_,zek (v := [c]) (w:=w) (by rw[QO];omega),hP _ rfl⟩
 ·rw[QG] at q;exact q
end
section
variable {P : Vf} {w : Vk} {K : PySem.W.Frag} {mg : Str → Option Vb} {base : Heap} {k : Nat}
abbrev zey:Stmt:=top 4
theorem zmz:FnScope ["one", "other", "above", "either"] ["one", "other", "above"] (zaf zey):=⟨rfl,rfl,rfl,by decide +kernel,rfl,by decide +kernel,by decide +kernel⟩
theorem zdm(B:Blt mg)(za8:Def3 P w K mg base 3 "without_needless_first" ["words"] (spO K (λ_=>True) 1 wnfF))(zb4:Def3 P w K mg base 1 "put_ahead" ["letter", "words"] (spO K (λ_=>True) 2 zjm))(T:Top3 K mg "above_ends" zey):Def3 P w K mg base 4 "above_ends" ["one", "other", "above"] (spG K (λ_=>True) 3 zhz):=by
 refine mk_G T zmz (λ_ _ _ _ _ _ us hl=>len3 hl λ_ _ _=>rfl) rfl λf cdv A outer s H E O hφ C=>⟨_,(zak (s_if (t_w (w_or (t_eq C (zab 0) zdx) (zwc (t_eq C (zab 1) zdx)))) (zam (zbw (zda (zac (zay C (zab 0) (zab 1)) zae)))) zb0) (zak (s_if (t_eq C (zc5 C (zab 0) zan) (zc5 C (zab 1) zan)) (zam (zbw (zbg C zb4 (λ_=>trivial) (zac (zc5 C (zab 0) zan) (zac (zgk 2 C (zau C (zab 0) (zas zan) zbs) (zau C (zab 1) (zas zan) zbs)) zae))))) zb0) (zak (zbk 3 (zay C (zbg C zb4 (λ_=>trivial) (zac (zc5 C (zab 0) zan) (zac (zgk 2 C (zau C (zab 0) (zas zan) zbs) (zab 1)) zae))) (zbg C zb4 (λ_=>trivial) (zac (zc5 C (zab 1) zan) (zac (zgk 2 C (zab 0) (zau C (zab 1) (zas zan) zbs)) zae))))) (zam (zbw (zbg C za8 (λ_=>trivial) (zac (zab 3) zae))))))),λrs Qr hn q=>?_⟩;obtain⟨a,b,es,rfl,la,lb,lo,tab,q⟩:=q;have sz:=Vj;have ms:∀ zs:List (List Nat),(zs.map tx).map PyData.str=zs.map tS:=λzs=>by rw[QG];rfl
 (repeat infer_instance)
 refine⟨_,eqE λc hc=>lo c (.inl hc),_,rfl,?_⟩
 cases a with
 | nil =>
   (repeat infer_instance)
   refine⟨_,zek (v := []) (w:=b) (by rw[Zn];omega),?_⟩;refine⟨by show 1<=_;omega,?_⟩;exact q [b] (ztp b)
 | cons c a' =>
   (repeat infer_instance)
   refine⟨_,eqE λc hc=>lo c (.inr hc),_,rfl,?_⟩
   cases b with
   | nil =>
     (repeat infer_instance)
     refine⟨_,zek (v:=c::a') (w := []) (by rw[Zn];omega),?_⟩;refine⟨by show 1<=_;omega,?_⟩;rw[QD];exact q [c::a'] (zs8 _)
   | cons d b' =>
     rw[Qf] at la lb;have ia:idxF (.str (tx (c::a'))) (.int 0)=some (.o (.str (tx [c]))):=zhj (w:=c::a') (k:=0) (by simp) (by rw[Qf];omega);have ib:idxF (.str (tx (d::b'))) (.int 0)=some (.o (.str (tx [d]))):=zhj (w:=d::b') (k:=0) (by simp) (by rw[Qf];omega)
     have sa:slcF (some 1) none (.str (tx (c::a')))=some (.o (.str (tx a'))):=by
      rw[zdy (by rw[Qf];omega),show cutL (c::a') (some 1) none=(c::a').drop 1 from zco (c::a') 1];rfl
     have sb:slcF (some 1) none (.str (tx (d::b')))=some (.o (.str (tx b'))):=by
      rw[zdy (by rw[Qf];omega),show cutL (d::b') (some 1) none=(d::b').drop 1 from zco (d::b') 1];rfl
     have hc:c<128:=lo c (.inl (by simp));have hd:d<128:=lo d (.inr (by simp));have loa:∀ x ∈ a',x<128:=λx hx=>lo x (.inl (Qb _ hx));have lob:∀ x ∈ b',x<128:=λx hx=>lo x (.inr (Qb _ hx))
     (repeat infer_instance)
     refine⟨_,ia,?_⟩
     (repeat infer_instance)
     refine⟨_,ib,_,eqW (a := [c]) (b := [d]) (λx hx=>by rw[Qg.mp hx];exact hc) (λx hx=>by rw[Qg.mp hx];exact hd),_,rfl,?_⟩
     by_cases e:c=d
     ·subst e;rw[GQ (GW rfl)];obtain⟨zs,ez,hz⟩:=tab a' b' (J1 _ _) (J1 _ _) (by simp only[Qf];omega);obtain⟨z1,z2⟩:=zh3 hz (by omega) (by omega) λx hx=>hx.elim (loa x) (lob x)
      (repeat infer_instance)
      refine⟨_,ia,?_⟩;refine⟨es,.inr rfl,?_⟩
      (repeat infer_instance)
      refine⟨_,sa,?_⟩
      (repeat infer_instance)
      refine⟨_,sb,?_⟩;refine⟨.inr (tx a'),.inr (tx b'),_,rfl,rfl,ez,rfl,?_⟩;refine⟨c,zs,by rw[<- ms];rfl,by omega,λw hw=>by have:=(z2 w hw).1;omega,?_⟩;exact q _ (zs3 hz)
     ·rw[GU (λz=>e (by injection z))];obtain⟨xs,ex,hx⟩:=tab a' (d::b') (J1 _ _) (ji _) (by simp only[Qf];omega);obtain⟨ys,ey,hy⟩:=tab (c::a') b' (ji _) (J1 _ _) (by simp only[Qf];omega);obtain⟨x1,x2⟩:=zh3 hx (by omega) (by rw[Qf];omega) λx hx=>hx.elim (loa x) λhx=>lo x (.inr hx);obtain⟨y1,y2⟩:=zh3 hy (by rw[Qf];omega) (by omega) λx hx=>hx.elim (λhx=>lo x (.inl hx)) (lob x)
      (repeat infer_instance)
      refine⟨_,ia,?_⟩;refine⟨es,.inr rfl,?_⟩
      (repeat infer_instance)
      refine⟨_,sa,?_⟩
      (repeat infer_instance)
      refine⟨.inr (tx a'),.inr (tx (d::b')),_,rfl,rfl,ex,rfl,?_⟩;refine⟨c,xs,by rw[<- ms];rfl,by omega,λw hw=>by have:=(x2 w hw).1;omega,?_⟩
      (repeat infer_instance)
      refine⟨_,ib,?_⟩;refine⟨es,.inr rfl,?_⟩
      (repeat infer_instance)
      refine⟨_,sb,?_⟩;refine⟨.inr (tx (c::a')),.inr (tx b'),_,rfl,rfl,ey,rfl,?_⟩;refine⟨d,ys,by rw[<- ms];rfl,by omega,λw hw=>by have:=(y2 w hw).1;omega,?_⟩;refine⟨_,zon (by simp only[Qe];omega),?_⟩;rw[<- Qy];refine⟨zc0 (λ_=>rfl) _,?_⟩
      have lw:∀ w ∈ xs.map (c :: ·)++ys.map (d :: ·),Sml w:=λw hw=>by
       have go:∀ x u,x<128->(u.length<=16/\Sml u)->Sml (x::u):=λx u hx ⟨h1,_,h2⟩=>⟨by rw[Qf];omega,λy hy=>by
        rcases Qs.mp hy with rfl|hy
        ·exact hx
        ·exact h2 y hy⟩
       rcases Qv.mp hw with hw|hw
       ·obtain⟨u,hu,rfl⟩:=Qp.mp hw;exact go c u hc (x2 u hu)
       ·obtain⟨u,hu,rfl⟩:=Qp.mp hw;exact go d u hd (y2 u hu)
      have ll:(xs.map (c :: ·)++ys.map (d :: ·)).length<=1000000:=by rw[Qj,Qe,Qe];omega
      (repeat infer_instance)
      refine⟨ll,lw,?_⟩;exact q _ (zrk e hx hy)
end
section
variable {P : Vf} {w : Vk} {K : PySem.W.Frag} {mg : Str → Option Vb} {base : Heap} {k : Nat}
abbrev zep:Stmt:=top 5
theorem znb:FnScope ["one", "other", "above", "i", "j"] ["one", "other"] (zaf zep):=⟨rfl,rfl,rfl,by decide +kernel,rfl,by decide +kernel,by decide +kernel⟩
theorem zbl(B:Blt mg)(zdm:Def3 P w K mg base 4 "above_ends" ["one", "other", "above"] (spG K (λ_=>True) 3 zhz))(T:Top3 K mg "above_both" zep):Def3 P w K mg base 5 "above_both" ["one", "other"] (spO K (λ_=>True) 2 zhs):=by
 refine mk_O T znb (λ_ _ _ _ _ _ us hl=>len2 hl λ_ _=>rfl) rfl λf cdv A outer s H E O hφ C=>⟨_,(zak (zok 2) (zak (zdf C (zc8 (i_rD C B (zac (zbd C B (zac (zab 0) zae)) (zac zkv (zac zkv zae))))) (zbb (h:=1000) 3) (zam (zdf C (zc8 (i_rD C B (zac (zbd C B (zac (zab 1) zae)) (zac zkv (zac zkv zae))))) (zbb (h:=1000) 4) (zam (zyn 2 C (zyq C zdm (λ_=>trivial) (g_im (zau C (zab 0) (zas (zab 3)) zbs) (g_im (zau C (zab 1) (zas (zab 4)) zbs) (z2n 2 z2x)))) (zau C (zab 0) (zas (zab 3)) zbs) (zau C (zab 1) (zas (zab 4)) zbs)))))) (zam (zbw (zzb C B (zac (zgk 2 C (zab 0) (zab 1)) zae)))))),λds Qr hn q=>?_⟩;obtain⟨a,b,rfl,la,lb,lo,q⟩:=q;have sz:=Vj;have ms:∀ zs:List (List Nat),(zs.map tx).map PyData.str=zs.map tS:=λzs=>by rw[QG];rfl
 (repeat infer_instance)
 refine⟨_,zbz (by omega),_,_,rfl,⟨by omega,by omega,by decide,by decide⟩,rfl,?_⟩;rw[show((a.length:Int) - -1).toNat=a.length+1 by omega]
 refine zbc (λn ρ=>∃ (es:DLs) (o3 o4:Option DV),ρ = [some (.im (tS a)),some (.im (tS b)),some (.thg (DctL es)),o3,o4]/\HasA a b es (SaA a.length b.length n)/\es.length<=n * 9)
  ⟨[],none,none,rfl,⟨λi j z=>absurd z.1 (JF.mpr z.2.1),λk z=>by cases z⟩,Qw _⟩ (λρ ⟨es,o3,o4,e,hh,hl⟩=>?_) λn d ρ N hd hN ⟨es,o3,o4,e,hh,hl⟩=>?_
 ·subst e;rw[zjn] at hh;obtain⟨_,_,zs,k1,k2⟩:=hh.1 0 0 saA0;refine⟨es,.inl rfl,?_⟩
  (repeat infer_instance)
  refine⟨.inr (tx a),.inr (tx b),_,rfl,rfl,k1,?_⟩;refine⟨_,rfl,?_⟩;rw[ms];exact q zs k2
 ·subst e;obtain⟨ha,rfl⟩:=zfj hd;obtain⟨i,hi⟩:∃ i:Nat,i=a.length - n:=⟨_,rfl⟩;have ei:((a.length:Int) - (n:Nat))=(i:Int):=by rw[hi];exact dnA ha
  rw[ei];have ia:i+n=a.length:=by omega
  refine⟨rfl,?_⟩
  (repeat infer_instance)
  refine⟨_,zbz (by omega),_,_,rfl,⟨by omega,by omega,by decide,by decide⟩,rfl,?_⟩;rw[show((b.length:Int) - -1).toNat=b.length+1 by omega]
  refine zbc (λm ρ=>∃ (es:DLs) (o4:Option DV),ρ = [some (.im (tS a)),some (.im (tS b)),some (.thg (DctL es)),some (.im (.int (i:Nat))),o4]/\HasA a b es (SbA a.length b.length n i m)/\es.length<=n * 9+m)
   ⟨es,o4,rfl,hh.same λx y=>sbA0,hl⟩ (λρ ⟨es,o4,e,hh,hl⟩=>?_) λm d ρ N2 hd hN2 ⟨es,o4,e,hh,hl⟩=>?_
  ·subst e;rw[zjn] at hh hl;exact hN _ ⟨es,_,_,rfl,hh.same λx y=>sbA1 ia,by omega⟩
  ·subst e;obtain⟨hb,rfl⟩:=zfj hd;obtain⟨j,hj⟩:∃ j:Nat,j=b.length - m:=⟨_,rfl⟩;have ej:((b.length:Int) - (m:Nat))=(j:Int):=by rw[hj];exact dnA hb
   rw[ej];have jb:j+m=b.length:=by omega
   have sa:slcF (some ((i:Nat):Int)) none (.str (tx a))=some (.o (.str (tx (a.drop i)))):=by
    rw[zdy (by omega),zco a i]
   have sb:slcF (some ((j:Nat):Int)) none (.str (tx b))=some (.o (.str (tx (b.drop j)))):=by
    rw[zdy (by omega),zco b j]
   refine⟨rfl,?_⟩;refine⟨es,rfl,?_⟩
   (repeat infer_instance)
   refine⟨_,sa,?_⟩
   (repeat infer_instance)
   refine⟨_,sb,?_⟩;refine⟨DctL es,.inl rfl,rfl,?_⟩;refine⟨a.drop i,b.drop j,es,rfl,by rw[Q9];omega,by rw[Q9];omega,λc hc=>lo c (hc.imp Z9 Z9),hh.ok ia jb,λzs hz=>?_⟩
   (repeat infer_instance)
   refine⟨_,sa,?_⟩
   (repeat infer_instance)
   refine⟨_,sb,?_⟩;refine⟨zs.map tx,.inr (tx (a.drop i)),.inr (tx (b.drop j)),by rw[ms],rfl,rfl,hh.new (by omega) (by omega) (sbA3 ia jb),by omega,?_⟩;exact hN2 _ ⟨_,_,rfl,hh.put (by omega) (by omega) (sbA3 ia jb) hz λx y=>sbA2 jb,by rw[Qj,QO];omega⟩
end
section
variable {P : Vf} {w : Vk} {K : PySem.W.Frag} {mg : Str → Option Vb} {base : Heap} {k : Nat}
abbrev zmr:Stmt:=top 10
theorem zx9:FnScope ["_law_deal_here", "_law_letters", "_law_most"] ["_law_deal_here", "_law_letters", "_law_most"] (zaf zmr):=⟨rfl,rfl,rfl,by decide +kernel,rfl,by decide +kernel,by decide +kernel⟩
theorem zc6(B:Blt mg)(d_law_draw:zpy P w K mg base)(T:Top3 K mg "_law_word" zmr):Def3 P w K mg base 2 "_law_word" ["_law_deal_here", "_law_letters", "_law_most"] (spD K IsDeal 2 zs0):=by
 refine mk_D T zx9 (λ_ _ _ _ _ _ us hl=>len3 hl λ_ _ _=>rfl) rfl λf cdv A outer s H E O hφ C=>?_;have hO:∀ j:Unit,IsDeal ((λ_:Unit=>O) j):=λ_=>hφ;refine⟨_,(zam (zbw (z1l C zdx (zdp 1 ["_law_k", "_law_deal_here", "_law_letters", "_law_most"] C (λ_ => .of rfl (by kernel_rfl)) (i_r1 C B (zac (zb2 0 C d_law_draw hO (zac (zay C (zab 2) zan) zae)) zae)) (zbb 0) ze9 (zc5 (C.comp _ _) (zab 2) (zb2 1 (C.comp _ _) d_law_draw (upD hO) (zac (zbd (C.comp _ _) B (zac (zab 2) zae)) zae))))))),λds Qr hn q=>?_⟩;obtain⟨ls,n,rfl,hw,hne,hl,ln,q⟩:=q;have sz:=Vj;refine⟨_,rfl,rfl,_,_,rfl,rfl,_,rfl,rfl,_,rfl,by omega,by omega,λk k0 k1=>?_⟩;obtain⟨m,rfl⟩:=Int.eq_ofNat_of_zero_le k0;refine⟨_,rfl,by omega,by omega,?_⟩;refine ztr (enc2:=λc => .str (tx [c])) (good:=λc=>c ∈ ls) (λc hc Pn Py hPn hPy=>?_) (by rw[QF];omega) λws hs hlp=>?_
 ·refine iteT (B:=Pn) (zj6 rfl rfl hne (by omega) λc hc=>hPy c hc)
 ·rw[QF] at hlp;obtain⟨ys,e1,e2,e3⟩:=zxt ws (by omega);refine⟨ys,e1,e2,?_⟩;rw[e3];exact q ws hs (by omega)
end
section
variable {P : Vf} {w : Vk} {K : PySem.W.Frag} {mg : Str → Option Vb} {base : Heap} {k : Nat}
abbrev ziz:Stmt:=top 11
theorem zvi:FnScope ["_law_one", "_law_other", "_law_k", "_law_letter"] ["_law_one", "_law_other"] (zaf ziz):=⟨rfl,rfl,rfl,by decide +kernel,rfl,by decide +kernel,by decide +kernel⟩
theorem zcz(B:Blt mg)(T:Top3 K mg "_law_under" ziz):Def3 P w K mg base 1 "_law_under" ["_law_one", "_law_other"] (spO K (λ_=>True) 2 zor):=by
 refine mk_O T zvi (λ_ _ _ _ _ _ us hl=>len2 hl λ_ _=>rfl) rfl λf cdv A outer s H E O hφ C=>⟨_,(zak (zbk 2 zan) (zak (zdf C (zc8 (zww (zab 1))) (zbb (h:=1000) 3) (zam (s_if (t_w (zpd (t_lt (zab 2) (zbd C B (zac (zab 0) zae))) (zlw (t_eq C (zc5 C (zab 0) (zab 2)) (zab 3))))) (zam (zbk 2 (zay C (zab 2) zan))) zb0))) (zam (zbw (e_eq C (zab 2) (zbd C B (zac (zab 0) zae))))))),λds Qr hn q=>?_⟩;obtain⟨less,more,rfl,hs,hm,q⟩:=q;have sz:=Vj;have hl:=hs.1;have hl2:=hm.1;refine⟨rfl,_,_,rfl,rfl,_,rfl,rfl,?_⟩
 refine zbc (λj ρ=>∃ (at':Nat) (o3:Option DV),ρ = [some (.im (tS less)),some (.im (tS more)),some (.im (.int (at':Nat))),o3]/\eats (more.take j) less=less.drop at'/\at'<=less.length/\j<=more.length)
  ⟨0,none,rfl,rfl,Qw _,Qw _⟩ (λρ ⟨a,o3,e,h1,h2,h4⟩=>?_) λj d ρ N hd hN ⟨a,o3,e,h1,h2,h4⟩=>?_
 ·subst e;rw[zxp,QP] at h1;refine⟨_,_,rfl,rfl,_,_,rfl,rfl,_,zbz (by omega),_,zgf,?_⟩;rw[GT Ql];unfold L6.under at q;rw[h1] at q
  have e:(less.drop a).isEmpty=decide ((a:Int)=(less.length:Nat)):=by
   by_cases z:a=less.length
   ·rw[z,Z6,GW rfl];rfl
   ·rw[GU (by omega)];have:0<(less.drop a).length:=by rw[Q9];omega
    cases hz:less.drop a with
    | nil=>rw[hz] at this;cases this
    | cons _ _=>rfl
  rw[e] at q;exact q
 ·subst e;obtain⟨c,hc,rfl⟩:=zy5 hd;obtain⟨hlt,ec⟩:=Qi.mp hc
  have et:eats (more.take (j+1)) less=eat c (less.drop a):=by
   rw[Jq hlt,ec];unfold eats;rw[YV];show eat c (eats (more.take j) less)=_;rw[h1]
  refine⟨rfl,?_⟩;refine⟨_,_,rfl,rfl,_,_,rfl,rfl,_,zbz (by omega),_,rfl,_,rfl,?_⟩
  by_cases ha:a<less.length
  ·rw[GW (by omega)];refine iteT ⟨_,_,rfl,rfl,_,_,rfl,rfl,_,zhj ha (by omega),_,_,rfl,rfl,_,zdg (zrq ⟨by simp,λx hx=>by simp at hx;rw[hx];exact hs.2 _ (Zc ha)⟩) (zrq (w := [c]) ⟨by simp,λx hx=>by simp at hx;rw[hx,<- ec];exact hm.2 _ (Zc hlt)⟩),_,rfl,?_⟩;rw[GT Ql,show sg c=tx [c] from rfl,zk6];rw[QC ha] at et
   by_cases z:less[a]=c
   ·rw[GW (by rw[z])];rw[show eat c (less[a]::less.drop (a+1))=less.drop (a+1) from GQ z] at et;exact iteT ⟨_,_,rfl,rfl,_,rfl,rfl,hN _ ⟨a+1,_,rfl,et,ha,hlt⟩⟩
   ·rw[GU (by simpa using z)];rw[show eat c (less[a]::less.drop (a+1))=less[a]::less.drop (a+1) from GT z,<- QC ha] at et;exact iteF (hN _ ⟨a,_,rfl,et,h2,hlt⟩)
  ·rw[GU (by omega)];have:less.drop a = []:=J5.mpr (by omega);rw[this] at et;exact iteF (iteF (hN _ ⟨a,_,rfl,by rw[et,this];rfl,h2,hlt⟩))
end
section
variable {P : Vf} {w : Vk} {K : PySem.W.Frag} {mg : Str → Option Vb} {base : Heap} {k : Nat}
abbrev zjg:Stmt:=top 12
theorem zti:FnScope ["_law_one", "_law_other", "_law_here", "_law_turn", "_law_there", "_law_k", "_law_j", "_law_words", "_law_steps", "_law_a", "_law_b", "_law_letter"] ["_law_one", "_law_other"] (zaf zjg):=⟨rfl,rfl,rfl,by decide +kernel,rfl,by decide +kernel,by decide +kernel⟩
theorem zd2(B:Blt mg)(T:Top3 K mg "_law_mixed" zjg):Def3 P w K mg base 1 "_law_mixed" ["_law_one", "_law_other"] (spO K (λ_=>True) 2 zra):=by
 refine mk_O T zti (λ_ _ _ _ _ _ us hl=>len2 hl λ_ _=>rfl) rfl λf cdv A outer s H E O hφ C=>⟨_,(zak (zzc 2 C zan zan (zda (zac zdx zae))) (zak (zdf C (zc8 (i_r1 C B (zac (zay C (zbd C B (zac (zab 0) zae)) (zbd C B (zac (zab 1) zae))) zae))) (zbb (h:=1000) 3) (zak (zok 4) (zak (zlm 2 C (zu5 2 5 6 7 C (zak (zbk 8 (zda (zac (zf2 (zac (zay C (zab 5) zan) (zac (zab 6) (zac (zau C (zab 0) (zas (zab 5)) (zas (zay C (zab 5) zan))) zae)))) (zac (zf2 (zac (zab 5) (zac (zay C (zab 6) zan) (zac (zau C (zab 1) (zas (zab 6)) (zas (zay C (zab 6) zan))) zae)))) zae)))) (zak (s_if (t_eq C (zau C (zab 0) (zas (zab 5)) (zas (zay C (zab 5) zan))) (zau C (zab 1) (zas (zab 6)) (zas (zay C (zab 6) zan)))) (zam (zbk 8 (zda (zac (zf2 (zac (zay C (zab 5) zan) (zac (zay C (zab 6) zan) (zac (zau C (zab 0) (zas (zab 5)) (zas (zay C (zab 5) zan))) zae)))) zae)))) zb0) (zak (zdf C (zc8 (zci C (z0p C (zab 8) (zz6 C B (zac (e_or (e_lt (zab 5) (zbd C B (zac (zab 0) zae))) (zvo (e_lt (zab 6) (zbd C B (zac (zab 1) zae))))) zae))))) (zpo (h:=1000) C (zcr 9 (zcr 10 (zcr 11 zlv)))) (zam (s_if (t_ne C (zab 11) zdx) (zam (znp 4 C (zab 9) (zab 10) (zdp 1 ["_law_word_here", "_law_one", "_law_other", "_law_here", "_law_turn", "_law_there", "_law_k", "_law_j", "_law_words", "_law_steps", "_law_a", "_law_b", "_law_letter"] C (λ_ => .of rfl (by kernel_rfl)) (zci C (zab 7)) (zbb 0) ze9 (zay (C.comp _ _) (zab 0) (zab 12))))) zb0))) (zam (s_if (t_w (zpd (t_eq C (zab 5) (zbd C B (zac (zab 0) zae))) (zlw (t_eq C (zab 6) (zbd C B (zac (zab 1) zae)))))) (zam (znp 4 C (zab 5) (zab 6) (zab 7))) zb0))))))) (zam (zlm 4 C (zx1 2 4 ["_law_spot", "_law_words", "_law_one", "_law_other", "_law_here", "_law_turn", "_law_there", "_law_k", "_law_j", "._law_words", "_law_steps", "_law_a", "_law_b", "_law_letter"] C B (λ_ => .of rfl (by kernel_rfl)))))))) (zam (zxy 2 C (zbd C B (zac (zab 0) zae)) (zbd C B (zac (zab 1) zae)))))),λds Qr hn q=>?_⟩;obtain⟨a,b,rfl,la,lb,lo,q⟩:=q;have sz:=Vj;have l1:lenF [.str (tx a)]=some (.o (.int a.length)):=zbz (by omega);have l2:lenF [.str (tx b)]=some (.o (.int b.length)):=zbz (by omega);have loa:∀ c ∈ a,c<128:=λc h=>lo c (.inl h);have lob:∀ c ∈ b,c<128:=λc h=>lo c (.inr h);have p2:∀ {i:Nat},i<=10->2 ^ i<=1024:=λ{i} h=>QH (Jb (by decide) h) (by decide)
 (repeat infer_instance)
 refine⟨.inl 0,.inl 0,[tx []],rfl,rfl,by rw[<- show("" : Str)=tx [] by decide +kernel];rfl,?_⟩
 (repeat first|refine⟨_,l1,?_⟩|refine⟨l1,?_⟩|refine⟨_,l2,?_⟩|refine⟨l2,?_⟩|infer_instance)
 refine⟨by omega,by omega,rfl,?_⟩;refine zbc (λi ρ=>∃ (es:DLs) (x3 x4 x5 x6 x7 x8 x9 x10 x11:Option DV),TabN es (Rch a b i)/\totD es<=2 ^ i/\es.length<=2 ^ i/\ρ = [some (.im (tS a)),some (.im (tS b)),some (.thg (DctL es)),x3,x4,x5,x6,x7,x8,x9,x10,x11]) ⟨_,_,_,_,_,_,_,_,_,_,?_,?_,?_,rfl⟩ (λρ hρ=>?_) λt d ρ N hd nx hρ=>?_
 ·refine⟨by simp,λp hp=>?_,λk j w h=>?_⟩
  ·rw[Qg.mp hp];refine⟨0,0,[[]],rfl,by simp,by simp,λw=>⟨λh=>?_,λh=>?_⟩⟩
   ·rw[Qg.mp h];exact .zero
   ·cases h;exact Qg.mpr rfl
  ·cases h;exact⟨_,Qg.mpr rfl,rfl⟩
 ·exact Qc _
 ·exact Qc _
 ·obtain⟨es,x3,x4,x5,x6,x7,x8,x9,x10,x11,tb,t1,t2,rfl⟩:=hρ;rw[zq1,show((a.length:Int)+b.length).toNat=a.length+b.length by omega] at tb t1 t2
  (repeat first|refine⟨_,l1,?_⟩|refine⟨l1,?_⟩|refine⟨_,l2,?_⟩|refine⟨l2,?_⟩|infer_instance)
  obtain⟨k,j,w0,m0⟩:=zsj (a:=a) (b:=b) (a.length+b.length);obtain⟨rfl,rfl⟩:=m0.last;obtain⟨p,hp,ep⟩:=tb.2.2 _ _ _ m0;obtain⟨x,y,ws,rfl,n0,nd,hw⟩:=tb.2.1 p hp;obtain⟨rfl,rfl⟩:=zd8 ep;refine⟨.inl (a.length:Nat),.inl (b.length:Nat),ws.map tx,rfl,rfl,zwq tb.1 hp,?_⟩;have t3:=zeb hp;have t4:=p2 (i:=a.length+b.length) (by omega);have:=q ws (z0g nd (by have:(ws.map tx).length<=totD es:=t3;rw[Qe] at this;omega) hw);rw[QG];exact this
 ·obtain⟨es,x3,x4,x5,x6,x7,x8,x9,x10,x11,tb,t1,t2,rfl⟩:=hρ;obtain⟨ht,rfl⟩:=zfs hd;have p4:=p2 (i:=t) (by omega);have p5:2 ^ (t+1)=2 * 2 ^ t:=by rw[Nat.pow_succ];omega
  refine⟨rfl,?_⟩
  (repeat infer_instance)
  refine zyt (λi ρ=>∃ (fs:DLs) (x5 x6 x7 x8 x9 x10 x11:Option DV),TabA fs (SfA a b es i)/\totD fs<=2 * totD (es.take i)/\fs.length<=2 * i/\ρ = [some (.im (tS a)),some (.im (tS b)),some (.thr (zb8 P w es)),some (.im (.int (0+(t:Nat)))),some (.thg (DctL fs)),x5,x6,x7,x8,x9,x10,x11]) ⟨_,_,_,_,_,_,_,_,?_,?_,?_,rfl⟩ (λρ hρ=>?_) λi p ρ N2 hp nx2 hρ=>?_
  ·exact⟨Jp,λp hp=>absurd hp Ze,λk j w h=>(SfA.zero h).elim⟩
  ·exact Qw _
  ·exact Qw _
  ·obtain⟨fs,x5,x6,x7,x8,x9,x10,x11,tf,f1,f2,rfl⟩:=hρ;rw[QP] at f1;have tf:=tf.same λk j w=>(SfA.all tb).symm
   (repeat infer_instance)
   refine⟨tf.1,by omega,λp hp=>by have:=zeb hp;omega,λgs sg=>?_⟩;obtain⟨g1,g2⟩:=sg.tot;exact nx _ ⟨gs,_,_,_,_,_,_,_,_,_,tf.srt sg,by omega,by omega,rfl⟩
  ·obtain⟨fs,x5,x6,x7,x8,x9,x10,x11,tf,f1,f2,rfl⟩:=hρ;obtain⟨k,j,ws,rfl,n0,nd,hw⟩:=tb.2.1 p (Q6 hp);have hi:=(Qi.mp hp).1;obtain⟨w0,m0⟩:=JM ws n0;obtain⟨k1,j1,_⟩:=((hw w0).mp m0).ok;have ww:∀ w ∈ ws,w.length<=k+j:=λw m=>((hw w).mp m).ok.2.2.2.2.1;have tk:=zuo hp;have tl:=zhu (es:=es) (i:=i);have te:totD (es.take (i+1))<=totD es:=zhu;rw[Qe] at tk
   have loop:∀ (Dd:DEnds) (st:List (Nat × Nat × W)) (x8 x9 x10 x11:Option DV),st.length<=2->(∀ p ∈ st,p.2.2.length<=1/\∀ c ∈ p.2.2,c<128)->(∀ gs y9 y10 y11,TabA gs (λk' j' w'=>SfA a b es i k' j' w'\/StA st ws k' j' w')->totD gs<=totD fs+st.length * ws.length->gs.length<=fs.length+st.length->Dd.nx [some (.im (tS a)),some (.im (tS b)),some (.thr (zb8 P w es)),some (.im (.int (0+(t:Nat)))),some (.thg (DctL gs)),some (.im (.int (k:Nat))),some (.im (.int (j:Nat))),some (.im (.list (ws.map tS))),x8,y9,y10,y11])->zc9 (gT [9,10,11]) (ifS (bD (opDE (fn2 (eqF true)) (vD 11) (cD (.str (Str.ofString ""))))) (zgh 4 (vD 9) (vD 10) (zh0 1 (srcL (vD 7)) (gN 0) yesD (opDE (fn2 addF) (vD 0) (vD 12)))) λDd ρ=>Dd.nx ρ) Dd (st.map zqd) [some (.im (tS a)),some (.im (tS b)),some (.thr (zb8 P w es)),some (.im (.int (0+(t:Nat)))),some (.thg (DctL fs)),some (.im (.int (k:Nat))),some (.im (.int (j:Nat))),some (.im (.list (ws.map tS))),x8,x9,x10,x11]:=by
    intro Dd st x8 x9 x10 x11 s2 s1 fin;refine zbc (λn ρ=>∃ gs y9 y10 y11,TabA gs (λk' j' w'=>SfA a b es i k' j' w'\/StA (st.take n) ws k' j' w')/\totD gs<=totD fs+n * ws.length/\gs.length<=fs.length+n/\ρ = [some (.im (tS a)),some (.im (tS b)),some (.thr (zb8 P w es)),some (.im (.int (0+(t:Nat)))),some (.thg (DctL gs)),some (.im (.int (k:Nat))),some (.im (.int (j:Nat))),some (.im (.list (ws.map tS))),x8,y9,y10,y11]) ⟨fs,_,_,_,tf.same λk' j' w'=>⟨λh=>h.elim id λh=>(StA.nil h).elim,.inl⟩,J0 _ _,J0 _ _,rfl⟩ (λρ hρ=>?_) λn d ρ N3 hd nx3 hρ=>?_
    ·obtain⟨gs,y9,y10,y11,tg,g1,g2,rfl⟩:=hρ;rw[Qe] at g1 g2;rw[Qe,QP] at tg;exact fin gs y9 y10 y11 tg g1 g2
    ·obtain⟨gs,y9,y10,y11,tg,g1,g2,rfl⟩:=hρ;rw[Qk] at hd;obtain⟨⟨k',j',l⟩,hp',rfl⟩:=Q0.mp hd;obtain⟨s3,s4⟩:=s1 _ (Q6 hp');have hn:=(Qi.mp hp').1;have tn:st.take (n+1)=st.take n ++ [(k',j',l)]:=by rw[Zh,hp'];rfl
     have mm:(n+1) * ws.length=n * ws.length+ws.length:=YM _ _;have m2:n * ws.length<=1 * ws.length:=Yw _ (by omega);refine⟨rfl,?_⟩
     (repeat first|refine⟨_,neE s4,?_⟩|refine⟨neE s4,?_⟩|infer_instance)
     cases l with
     | nil =>
       (repeat infer_instance)
       exact nx3 _ ⟨gs,_,_,_,tg.same λk1 j1 w1=>by rw[tn,StA.snoc];exact Td YU ⟨λh=>h.elim id λh=>absurd rfl h.1,.inl⟩,by omega,by omega,rfl⟩
     | cons c l =>
       (repeat infer_instance)
       refine⟨.inl (k':Nat),.inl (j':Nat),rfl,rfl,by omega,?_⟩
       (repeat infer_instance)
       refine zgc (α:=W) (enc:=tS) (e:=λw=>tS (w++c::l)) (λv hv P hP=>?_) (by omega) ?_
       ·have lv:=ww v hv;have s5:(c::l).length<=1:=s3;exact⟨_,_,rfl,rfl,_,_,rfl,rfl,_,zek (by show v.length+(c::l).length<=_;omega),hP _ rfl⟩
       ·refine⟨(ws.map (· ++ c::l)).map tx,by rw[QG,QG];rfl,λss hs=>?_,?_⟩
        ·have a1:=zeb (zlf hs);rw[zgd.1] at a1;have a1:ss.length<=totD gs:=a1;rw[Qe,Qe];omega
        ·have tt:=tg.add (k:=k') (j:=j') (us:=ws.map (· ++ c::l)) (by simp[n0]);have a1:=zin (k:=kkA k' j') (ts:=(ws.map (· ++ c::l)).map tx) (es:=gs.sdf (kkA k' j'));have a2:=zgd (k:=kkA k' j') (es:=gs);have a3:=zi9 (k:=kkA k' j') (ts:=(ws.map (· ++ c::l)).map tx) (es:=gs.sdf (kkA k' j'));rw[Qe,Qe,a2.1] at a1;refine nx3 _ ⟨(gs.sdf (kkA k' j')).add (kkA k' j') ((ws.map (· ++ c::l)).map tx),_,_,_,tt.same λk1 j1 w1=>?_,by omega,by omega,rfl⟩;rw[tn,StA.snoc,<- or_assoc];refine Td YU ⟨λ⟨_,h2,h3,w2,h4,h5⟩=>⟨h2,h3,Qp.mpr ⟨w2,h4,h5.symm⟩⟩,λ⟨h2,h3,h4⟩=>?_⟩;obtain⟨w2,h5,h6⟩:=Qp.mp h4;exact⟨by simp,h2,h3,w2,h5,h6.symm⟩
   have tail:∀ (Dd:DEnds) (gs:DLs) (x8 x9 x10 x11:Option DV) (S':Nat->Nat->W->Prop),TabA gs S'->gs.length<=10000->totD gs<=10000->(¬ (k=a.length/\j=b.length)->Dd.nx [some (.im (tS a)),some (.im (tS b)),some (.thr (zb8 P w es)),some (.im (.int (0+(t:Nat)))),some (.thg (DctL gs)),some (.im (.int (k:Nat))),some (.im (.int (j:Nat))),some (.im (.list (ws.map tS))),x8,x9,x10,x11]) ->
    (k=a.length->j=b.length->∀ hs,TabA hs (λk' j' w'=>S' k' j' w'\/(k'=k/\j'=j/\w' ∈ ws))->totD hs<=totD gs+ws.length->hs.length<=gs.length+1->Dd.nx [some (.im (tS a)),some (.im (tS b)),some (.thr (zb8 P w es)),some (.im (.int (0+(t:Nat)))),some (.thg (DctL hs)),some (.im (.int (k:Nat))),some (.im (.int (j:Nat))),some (.im (.list (ws.map tS))),x8,x9,x10,x11]) ->
    (ifS (andT (bD (opDE (fn2 (eqF false)) (vD 5) (zba (fn1 lenF) (zcg (vD 0) aNil)))) (bD (opDE (fn2 (eqF false)) (vD 6) (zba (fn1 lenF) (zcg (vD 1) aNil))))) (zgh 4 (vD 5) (vD 6) (vD 7)) λDd ρ=>Dd.nx ρ) Dd [some (.im (tS a)),some (.im (tS b)),some (.thr (zb8 P w es)),some (.im (.int (0+(t:Nat)))),some (.thg (DctL gs)),some (.im (.int (k:Nat))),some (.im (.int (j:Nat))),some (.im (.list (ws.map tS))),x8,x9,x10,x11]:=by
    intro Dd gs x8 x9 x10 x11 S' tg g1 g2 no yes;have e1:eqF false (.int (k:Nat)) (.int (a.length:Nat))=some (.o (.bool (decide (k=a.length)))):=eqN;have e2:eqF false (.int (j:Nat)) (.int (b.length:Nat))=some (.o (.bool (decide (j=b.length)))):=eqN
    (repeat first|refine⟨_,l1,?_⟩|refine⟨l1,?_⟩|refine⟨_,e1,?_⟩|refine⟨e1,?_⟩|infer_instance)
    by_cases h1:k=a.length
    ·rw[GW h1]
     (repeat first|refine⟨_,l2,?_⟩|refine⟨l2,?_⟩|refine⟨_,e2,?_⟩|refine⟨e2,?_⟩|infer_instance)
     by_cases h2:j=b.length
     ·rw[GW h2]
      (repeat infer_instance)
      refine⟨.inl (k:Nat),.inl (j:Nat),rfl,rfl,by omega,?_⟩
      (repeat infer_instance)
      refine⟨ws.map tx,by rw[QG];rfl,λss hs=>?_,?_⟩
      ·have a1:=zeb (zlf hs);rw[zgd.1] at a1;have a1:ss.length<=totD gs:=a1;rw[Qe];omega
      ·have a1:=zin (k:=kkA k j) (ts:=ws.map tx) (es:=gs.sdf (kkA k j));have a2:=zgd (k:=kkA k j) (es:=gs);have a3:=zi9 (k:=kkA k j) (ts:=ws.map tx) (es:=gs.sdf (kkA k j));rw[Qe,a2.1] at a1;exact yes h1 h2 ((gs.sdf (kkA k j)).add (kkA k j) (ws.map tx)) (tg.add n0) a1 (by omega)
     ·rw[GU h2];exact no λz=>h2 z.2
    ·rw[GU h1];exact no λz=>h1 z.1
   have s1:=zof (t:=a) (n:=k) (by omega);have s2:=zof (t:=b) (n:=j) (by omega);have d1:=zq5 (n:=k) loa;have d2:=zq5 (n:=j) lob;have c1:(sgA a k).length<=1:=Y7 _ _;have c2:(sgA b j).length<=1:=Y7 _ _;have ew:JZ PyData.str (kkA k j,JZ tx ws).snd=ws.map tS:=by rw[QG];rfl
   refine⟨k,j,rfl,?_⟩;rw[ew]
   (repeat first|refine⟨_,s1,?_⟩|refine⟨s1,?_⟩|refine⟨_,s2,?_⟩|refine⟨s2,?_⟩|infer_instance)
   refine⟨_,eqW d1 d2,_,rfl,?_⟩;have lta:decide ((k:Int)<(a.length:Nat))=decide (k<a.length):=decide_eq_decide.mpr Int.ofNat_lt;have ltb:decide ((j:Int)<(b.length:Nat))=decide (j<b.length):=decide_eq_decide.mpr Int.ofNat_lt
   by_cases e:a[k]? = b[j]?
   ·rw[GW (sgA_eq.mpr e)]
    (repeat first|refine⟨_,s1,?_⟩|refine⟨s1,?_⟩|refine⟨_,s2,?_⟩|refine⟨s2,?_⟩|refine⟨_,l1,?_⟩|refine⟨l1,?_⟩|refine⟨_,l2,?_⟩|refine⟨l2,?_⟩|infer_instance)
    rw[lta]
    cases ha:a[k]? with
    | none =>
      have ka:=Z3.mp ha;have jb:=Z3.mp (e.symm.trans ha);rw[GU (by omega)]
      (repeat first|refine⟨_,l1,?_⟩|refine⟨l1,?_⟩|refine⟨_,l2,?_⟩|refine⟨l2,?_⟩|infer_instance)
      rw[ltb,GU (by omega)];refine⟨by decide,by decide,by show 1 * 0<=sizeLine;omega,_,rfl,rfl,?_⟩;refine loop _ [] _ _ _ _ (by decide) (λp hp=>absurd hp Ze) λgs y9 y10 y11 tg g1 g2=>?_;rw[Zn] at g1 g2;refine tail _ gs _ _ _ _ _ tg (by omega) (by omega) (λz=>absurd ⟨by omega,by omega⟩ z) λz1 z2 hs th h1 h2=>?_;refine nx2 _ ⟨hs,_,_,_,_,_,_,_,th.same λk' j' w'=>?_,by omega,by omega,rfl⟩;rw[SfA.succ hp];constructor
      ·rintro(h|⟨w1,m1,h⟩)
       ·exact .inl (.inl h)
       ·obtain⟨r1,r2,r3⟩:=(zos z1 z2).mp h;exact .inr ⟨r1,r2,by rw[r3];exact m1⟩
      ·rintro((h|h)|⟨r1,r2,m1⟩)
       ·exact .inl h
       ·exact(StA.nil h).elim
       ·exact .inr ⟨w',m1,(zos z1 z2).mpr ⟨r1,r2,rfl⟩⟩
    | some c =>
      have ka:=(Qi.mp ha).1;have jb:=(Qi.mp (e.symm.trans ha)).1;rw[GW ka]
      (repeat first|refine⟨_,l1,?_⟩|refine⟨l1,?_⟩|refine⟨_,l2,?_⟩|refine⟨l2,?_⟩|infer_instance)
      refine⟨by decide,by decide,by show 1 * 1<=sizeLine;omega,_,rfl,rfl,?_⟩;refine loop _ [(k+1,j+1,sgA a k)] _ _ _ _ (Z8 1) (λp hp=>by rw[Qg.mp hp];exact⟨c1,d1⟩) λgs y9 y10 y11 tg g1 g2=>?_;rw[QO] at g1 g2;refine tail _ gs _ _ _ _ _ tg (by omega) (by omega) (λz=>?_) λz1=>absurd z1 (by omega);refine nx2 _ ⟨gs,_,_,_,_,_,_,_,tg.same λk' j' w'=>?_,by omega,by omega,rfl⟩;rw[SfA.succ hp];refine Td YU ⟨λ⟨w1,m1,h⟩=>?_,λ⟨p,h0,h1,h2,h3,w1,m1,h4⟩=>?_⟩
      ·obtain⟨r1,r2,r3⟩:=(zmi ha (e.symm.trans ha)).mp h;exact⟨_,Qg.mpr rfl,by rw[zbh ha];simp,r1,r2,w1,m1,by rw[zbh ha];exact r3⟩
      ·rw[Qg.mp h0] at h2 h3 h4;exact⟨w1,m1,(zmi ha (e.symm.trans ha)).mpr ⟨h2,h3,by rw[h4,zbh ha]⟩⟩
   ·rw[GU (λz=>e (sgA_eq.mp z))]
    have key:k<a.length\/j<b.length:=by
     by_cases h1:k<a.length
     ·exact .inl h1
     ·refine .inr (Nat.lt_of_not_le λh2=>e ?_);rw[Qu (by omega),Qu h2]
    have rest:∀ (Dd:DEnds),Dd.nx=N2->zc9 (gT [9,10,11]) (ifS (bD (opDE (fn2 (eqF true)) (vD 11) (cD (.str (Str.ofString ""))))) (zgh 4 (vD 9) (vD 10) (zh0 1 (srcL (vD 7)) (gN 0) yesD (opDE (fn2 addF) (vD 0) (vD 12)))) λDd ρ=>Dd.nx ρ) { Dd with nx:=(ifS (andT (bD (opDE (fn2 (eqF false)) (vD 5) (zba (fn1 lenF) (zcg (vD 0) aNil)))) (bD (opDE (fn2 (eqF false)) (vD 6) (zba (fn1 lenF) (zcg (vD 1) aNil))))) (zgh 4 (vD 5) (vD 6) (vD 7)) λDd ρ=>Dd.nx ρ) Dd } ([(k+1,j,sgA a k),(k,j+1,sgA b j)].map zqd) [some (.im (tS a)),some (.im (tS b)),some (.thr (zb8 P w es)),some (.im (.int (0+(t:Nat)))),some (.thg (DctL fs)),some (.im (.int (k:Nat))),some (.im (.int (j:Nat))),some (.im (.list (ws.map tS))),some (.own ([(k+1,j,sgA a k),(k,j+1,sgA b j)].map zqd)),x9,x10,x11]:=by
     intro Dd hD;refine loop _ _ _ _ _ _ (Qc _) (λp hp=>?_) λgs y9 y10 y11 tg g1 g2=>?_
     ·rcases Qs.mp hp with rfl|hp
      ·exact⟨c1,d1⟩
      ·rw[Qg.mp hp];exact⟨c2,d2⟩
     have g1:totD gs<=totD fs+2 * ws.length:=g1;have g2:gs.length<=fs.length+2:=g2;refine tail _ gs _ _ _ _ _ tg (by omega) (by omega) (λz=>?_) λz1 z2=>by omega
     rw[hD];refine nx2 _ ⟨gs,_,_,_,_,_,_,_,tg.same λk' j' w'=>?_,by omega,by omega,rfl⟩;rw[SfA.succ hp];refine Td YU ⟨λ⟨w1,m1,h⟩=>?_,λ⟨p,h0,h1,h2,h3,w1,m1,h4⟩=>?_⟩
     ·rcases(zk2 e).mp h with ⟨r0,r1,r2,r3⟩|⟨r0,r1,r2,r3⟩
      ·exact⟨_,Qt,r0,r1,r2,w1,m1,r3⟩
      ·exact⟨_,Qb _ (Qg.mpr rfl),r0,r1,r2,w1,m1,r3⟩
     ·refine⟨w1,m1,(zk2 e).mpr ?_⟩;rcases Qs.mp h0 with rfl|h0
      ·exact .inl ⟨h1,h2,h3,h4⟩
      ·rw[Qg.mp h0] at h1 h2 h3 h4;exact .inr ⟨h1,h2,h3,h4⟩
    (repeat first|refine⟨_,l1,?_⟩|refine⟨l1,?_⟩|refine⟨_,l2,?_⟩|refine⟨l2,?_⟩|infer_instance)
    rw[lta]
    by_cases h1:k<a.length
    ·rw[GW h1]
     (repeat infer_instance)
     refine⟨by decide,by decide,by show 2 * 1<=sizeLine;omega,_,rfl,rfl,?_⟩;exact rest _ rfl
    ·rw[GU h1]
     (repeat first|refine⟨_,l2,?_⟩|refine⟨l2,?_⟩|infer_instance)
     rw[ltb,GW (key.resolve_left h1)];refine⟨by decide,by decide,by show 2 * 1<=sizeLine;omega,_,rfl,rfl,?_⟩;exact rest _ rfl
end
section
variable {P : Vf} {w : Vk} {K : PySem.W.Frag} {mg : Str → Option Vb} {base : Heap} {k : Nat}
abbrev zfw:Stmt:=top 13
theorem zo9:FnScope ["_law_word_here"] ["_law_word_here"] (zaf zfw):=⟨rfl,rfl,rfl,by decide +kernel,rfl,by decide +kernel,by decide +kernel⟩
theorem zc3(B:Blt mg)(T:Top3 K mg "_law_shorter" zfw):Def3 P w K mg base 1 "_law_shorter" ["_law_word_here"] (spO K (λ_=>True) 1 zj9):=by
 refine mk_O T zo9 (λ_ _ _ _ _ _ us hl=>len1 hl λ_=>rfl) rfl λf cdv A outer s H E O hφ C=>⟨_,(zam (zbw (zdp 1 ["_law_k", "_law_word_here"] C (λ_ => .of rfl (by kernel_rfl)) (i_r1 C B (zac (zbd C B (zac (zab 0) zae)) zae)) (zbb 0) ze9 (zay (C.comp _ _) (zau (C.comp _ _) (zab 1) zbs (zas (zab 0))) (zau (C.comp _ _) (zab 1) (zas (zay (C.comp _ _) (zab 0) zan)) zbs))))),λds Qr hn q=>?_⟩;obtain⟨w,rfl,hl,q⟩:=q;have sz:=Vj
 (repeat infer_instance)
 refine⟨_,zbz (by omega),?_⟩
 (repeat infer_instance)
 refine⟨by omega,by omega,?_⟩;rw[Js,show zc7 0 w.length=(Qx w.length).map λi:Nat => .int (0+(i:Nat)) from rfl];refine zgc (α:=Nat) (enc:=λi:Nat => .int (0+(i:Nat))) (e:=λi=>tS (w.eraseIdx i)) (λi hi P hP=>?_) (by rw[QF];omega) ?_
 ·have lt:=QK.mp hi;have e0:(0:Int)+(i:Nat)=(i:Nat):=by omega
  have e1:((i:Nat):Int)+1=((i+1:Nat):Int):=by omega
  rw[e0];have s1:slcF none (some ((i:Nat):Int)) (.str (tx w))=some (.o (.str (tx (w.take i)))):=by rw[zdy (by omega),zqz]
  have s2:slcF (some (((i+1:Nat)):Int)) none (.str (tx w))=some (.o (.str (tx (w.drop (i+1))))):=by rw[zdy (by omega),zco]
  (repeat infer_instance)
  refine⟨_,s1,?_⟩
  (repeat infer_instance)
  rw[e1];refine⟨_,s2,_,zek (by rw[QJ,Q9];omega),hP _ ?_⟩;show tS (w.take i++w.drop (i+1))=tS (w.eraseIdx i);rw[List.eraseIdx_eq_take_drop_succ]
 ·rw[QG] at q;exact q
end
section
variable {P : Vf} {w : Vk} {K : PySem.W.Frag} {mg : Str → Option Vb} {base : Heap} {k : Nat}
abbrev zp0:Stmt:=top 14
theorem z1w:FnScope ["_law_one", "_law_other", "_law_found", "_law_word_here", "_law_fewer"] ["_law_one", "_law_other"] (zaf zp0):=⟨rfl,rfl,rfl,by decide +kernel,rfl,by decide +kernel,by decide +kernel⟩
theorem zfl(B:Blt mg)(zcz:Def3 P w K mg base 1 "_law_under" ["_law_one", "_law_other"] (spO K (λ_=>True) 2 zor))(zd2:Def3 P w K mg base 1 "_law_mixed" ["_law_one", "_law_other"] (spO K (λ_=>True) 2 zra))(zc3:Def3 P w K mg base 1 "_law_shorter" ["_law_word_here"] (spO K (λ_=>True) 1 zj9))(T:Top3 K mg "_law_due" zp0):Def3 P w K mg base 2 "_law_due" ["_law_one", "_law_other"] (spO K (λ_=>True) 2 zv5):=by
 refine mk_O T z1w (λ_ _ _ _ _ _ us hl=>len2 hl λ_ _=>rfl) rfl λf cdv A outer s H E O hφ C=>⟨_,(zak (zbk 2 (zda zae)) (zak (zdf C (zc8 (zci C (zbg C zd2 (λ_=>trivial) (zac (zab 0) (zac (zab 1) zae))))) (zbb (h:=1000) 3) (zak (z0r 4 1 ["_law_less", "_law_one", "_law_other", "_law_found", "_law_word_here", "_law_fewer"] C (λ_ => .of rfl (by kernel_rfl)) (zci C (zbg C zc3 (λ_=>trivial) (zac (zab 3) zae))) (zbb 0) (z2o (t_w (zpd (zwh (zbg (C.comp _ _) zcz (λ_=>trivial) (zac (zab 1) (zac (zab 0) zae)))) (zlw (zwh (zbg (C.comp _ _) zcz (λ_=>trivial) (zac (zab 2) (zac (zab 0) zae)))))))) (zab 0)) (zam (s_if (t_eq C (zab 4) (zda zae)) (zam (zwe 2 C (zab 3))) zb0)))) (zam (zbw (zdp 2 ["_law_size", "_law_word_here", "_law_one", "_law_other", "_law_found", "._law_word_here", "_law_fewer"] C (λ_ => .of rfl (by kernel_rfl)) (zci C (zqb C B (zac (zdp 1 ["_law_word_here", "_law_one", "_law_other", "_law_found", "._law_word_here", "_law_fewer"] C (λ_ => .of rfl (by kernel_rfl)) (zci C (zab 2)) (zbb 0) ze9 (zf2 (zac (zbd (C.comp _ _) B (zac (zab 0) zae)) (zac (zab 0) zae)))) zae))) (zpo (C.comp _ _) (zcr 0 (zcr 1 zlv))) ze9 (zab 1)))))),λds Qr hn q=>?_⟩;obtain⟨a,b,rfl,la,lb,lo,q⟩:=q;have sz:=Vj;have loa:Sml a:=⟨by omega,λc hc=>lo c (.inl hc)⟩;have lob:Sml b:=⟨by omega,λc hc=>lo c (.inr hc)⟩
 (repeat infer_instance)
 refine⟨la,lb,lo,λws hw=>?_⟩;obtain⟨nd,ln,cs,mn⟩:=hw;refine⟨_,rfl,rfl,?_⟩;refine zbc (λi ρ=>∃ o3 o4:Option DV,ρ = [some (.im (tS a)),some (.im (tS b)),some (.own (((ws.take i).filter λw=>(zbq a b w).isEmpty).map tS)),o3,o4]) ⟨none,none,rfl⟩ (λρ hρ=>?_) λi d ρ N hd nx hρ=>?_
 ·obtain⟨o3,o4,rfl⟩:=hρ;rw[Qe,QP]
  have fs:∀ w ∈ ws.filter (λw=>(zbq a b w).isEmpty),w ∈ ws/\Mn a b w:=λw h=>by
   obtain⟨h1,h2⟩:=Z0.mp h;exact⟨h1,(zj2 (cs w h1).1).mp h2⟩
  have fl:(ws.filter λw=>(zbq a b w).isEmpty).length<=100000:=QH (Jv _ _) ln;have fm:∀ w,Mn a b w->w ∈ ws.filter (λw=>(zbq a b w).isEmpty):=λw h=>Z0.mpr ⟨mn w h,(zj2 h.1).mpr h⟩;have fn:(ws.filter λw=>(zbq a b w).isEmpty).Nodup:=nd.filter _;generalize ws.filter (λw=>(zbq a b w).isEmpty)=us at fs fl fm fn
  (repeat infer_instance)
  refine zgc (α:=List Nat) (enc:=tS) (e:=plW) (λw hw P hP=>?_) (by omega) ?_
  ·have lw:w.length<=16777216:=by have:=(cs w (fs w hw).1).2.1;omega
   (repeat first|refine⟨_,zbz lw,?_⟩|refine⟨zbz lw,?_⟩|infer_instance)
   exact hP _ rfl
  refine⟨us.map plW,_,_,rfl,λd hd=>?_,zqt [],λd hd=>?_,by rw[Qe];omega,JN plW (λx y (n:x ≠ y) e=>n (zyb e)) fn,λzs zp zw=>?_⟩
  ·obtain⟨w,hw,rfl⟩:=Qp.mp hd;exact zxv λc hc=>lo c ((cs w (fs w hw).1).2.2 c hc)
  ·obtain⟨w,hw,rfl⟩:=Qp.mp hd;exact zqt w
  obtain⟨vs,vp,rfl⟩:=HK.perm_map_inv zp;refine⟨_,rfl,?_⟩;refine zl3 (α:=List Nat) (enc:=plW) (e:=tS) (λw hw P hP=>?_) znc (by have:=vp.length_eq;omega) ?_
  ·(repeat infer_instance)
   exact hP _ rfl
  ·exact q vs ⟨(Zw.mp zw).imp zzl,λw=>vp.mem_iff.trans ⟨λh=>(fs w h).2,fm w⟩⟩
 ·obtain⟨o3,o4,rfl⟩:=hρ;rw[Qk] at hd;obtain⟨w,hw',rfl⟩:=Q0.mp hd;have mw:=Q6 hw';obtain⟨c1,c2,c3⟩:=cs w mw;have il:=(Qi.mp hw').1;have lw:∀ c ∈ w,c<128:=λc hc=>lo c (c3 c hc)
  have es:(ws.take (i+1)).filter (λw=>(zbq a b w).isEmpty)=(ws.take i).filter (λw=>(zbq a b w).isEmpty)++(if(zbq a b w).isEmpty then[w] else[]):=by
   rw[Zh,hw',JE];show _++List.filter _ [w]=_;rw[Jz];rfl
  refine⟨rfl,?_⟩
  (repeat infer_instance)
  refine⟨by omega,_,rfl,?_⟩;refine zt1 (α:=List Nat) (enc:=tS) (p:=λv=>under a v && under b v) (e:=tS) (λv hv Pn Py hn hy=>?_) (by rw[Qe,QF];omega) ?_
  ·obtain⟨j,hj,rfl⟩:=Qp.mp hv;have sv:Sml (w.eraseIdx j):=⟨QH (List.length_eraseIdx_le _ _) (by omega),λc hc=>lw c (Jk hc)⟩;generalize w.eraseIdx j=v at sv hn hy
   (repeat infer_instance)
   refine⟨loa,sv,_,rfl,?_⟩
   cases h1:under a v with
   | false =>
     rw[h1] at hn;exact hn rfl
   | true =>
     rw[h1] at hn hy
     (repeat infer_instance)
     refine⟨lob,sv,_,rfl,?_⟩
     cases h2:under b v with
     | false =>
       rw[h2] at hn;exact hn rfl
     | true =>
       rw[h2] at hy
       (repeat infer_instance)
       exact hy rfl _ rfl
  ·refine⟨zc0 (λ_=>rfl) _,?_⟩;have fe:(zbq a b w).map tS=(((Qx w.length).map λi=>w.eraseIdx i).filter λv=>under a v && under b v).map tS:=rfl;rw[<- fe]
   have lf:∀ v ∈ zbq a b w,∀ c ∈ v,c<128:=λv hv c hc=>by
    obtain⟨j,hj,rfl⟩:=Qp.mp (Z0.mp hv).1;exact lw c (Jk hc)
   (repeat infer_instance)
   refine⟨_,z1q lf,_,rfl,?_⟩;have lt:((ws.take i).filter λw=>(zbq a b w).isEmpty).length<=100000:=QH (Jv _ _) (by rw[QJ];omega)
   cases h1:(zbq a b w).isEmpty with
   | false =>
     rw[h1,GT (by decide),QD] at es;exact nx _ ⟨_,_,by rw[es];rfl⟩
   | true =>
     rw[h1,GQ rfl] at es
     (repeat infer_instance)
     refine⟨by rw[Qe];omega,?_⟩;exact nx _ ⟨_,_,by rw[es,Qy];rfl⟩
end
section
variable {P : Vf} {w : Vk} {K : PySem.W.Frag} {mg : Str → Option Vb} {base : Heap} {k : Nat}
abbrev ziu:Stmt:=top 15
theorem zup:FnScope ["_law_one", "_law_other", "_law_due_here", "_law_found"] ["_law_one", "_law_other"] (zaf ziu):=⟨rfl,rfl,rfl,by decide +kernel,rfl,by decide +kernel,by decide +kernel⟩
theorem zd4(B:Blt mg)(zbl:Def3 P w K mg base 5 "above_both" ["one", "other"] (spO K (λ_=>True) 2 zhs))(zfl:Def3 P w K mg base 2 "_law_due" ["_law_one", "_law_other"] (spO K (λ_=>True) 2 zv5))(T:Top3 K mg "_law_right" ziu):Def3 P w K mg base 6 "_law_right" ["_law_one", "_law_other"] (spO K (λ_=>True) 2 zow):=by
 refine mk_O T zup (λ_ _ _ _ _ _ us hl=>len2 hl λ_ _=>rfl) rfl λf cdv A outer s H E O hφ C=>⟨_,(zak (zbk 2 (zbg C zfl (λ_=>trivial) (zac (zab 0) (zac (zab 1) zae)))) (zak (zbk 3 (zbg C zbl (λ_=>trivial) (zac (zab 0) (zac (zab 1) zae)))) (zak (s_if (t_w (w_or (t_ne C (zej C B (zac (zab 3) zae)) (zej C B (zac (zab 2) zae))) (zwc (t_ne C (zej C B (zac (zbg C zbl (λ_=>trivial) (zac (zab 1) (zac (zab 0) zae))) zae)) (zej C B (zac (zab 2) zae)))))) (zam (zbw e_bl)) zb0) (zak (zxq 3 C) (zam (zbw (z2h (e_eq C (zej C B (zac (zbg C zbl (λ_=>trivial) (zac (zab 0) (zac (zab 1) zae))) zae)) (zej C B (zac (zab 2) zae))) (zvo (e_eq C (zbg C zbl (λ_=>trivial) (zac (zab 0) (zac (zab 0) zae))) (zda (zac (zab 0) zae))))))))))),λds Qr hn q=>?_⟩;obtain⟨a,b,rfl,la,lb,lo,q⟩:=q;have sz:=Vj
 (repeat infer_instance)
 refine⟨la,lb,lo,λzs hz=>?_⟩;refine⟨zc0 (λ_=>rfl) _,?_⟩
 (repeat infer_instance)
 refine⟨by omega,by omega,lo,λys hy=>?_⟩;obtain rfl:=hz.uniq hy.1;have len:∀ {x y:List Nat} {us:List (List Nat)},x.length<=5->y.length<=5->AbvB x y us->us.length<=1024:=λh1 h2 h=>QH h.2 (QH (Jb (by decide) (show _<=10 by omega)) (by decide));have n1:Nice 1 (1024 * (100+1)) (.tuple (zs.map tS)):=zl8 (λw hw=>zoi ((zh3 hy (by omega) (by omega) lo).2 w hw).2) (len la lb hy);obtain⟨x1,hx1,hx2⟩:=zsz n1;refine⟨zc0 (λ_=>rfl) _,?_⟩
 (repeat infer_instance)
 refine⟨_,hx1,?_⟩
 (repeat infer_instance)
 refine⟨_,hx1,?_⟩;refine⟨_,zdg hx2 hx2,_,rfl,?_⟩;rw[GQ rfl,GZ];refine iteF ?_
 (repeat infer_instance)
 refine⟨by omega,by omega,λc hc=>lo c hc.symm,λus hu=>?_⟩;obtain rfl:=hz.uniq (zlj hu.1)
 (repeat infer_instance)
 refine⟨_,hx1,?_⟩
 (repeat infer_instance)
 refine⟨_,hx1,?_⟩;refine⟨_,zdg hx2 hx2,_,rfl,?_⟩;rw[GQ rfl,GZ];refine iteF ?_
 (repeat infer_instance)
 refine⟨by omega,by omega,lo,λus hu=>?_⟩;obtain rfl:=hz.uniq hu.1
 (repeat infer_instance)
 refine⟨_,hx1,?_⟩
 (repeat infer_instance)
 refine⟨_,hx1,?_⟩;refine⟨_,zdg hx2 hx2,_,rfl,?_⟩;rw[GT Ql,GZ];refine iteT ?_
 (repeat infer_instance)
 refine⟨by omega,by omega,λc hc=>lo c (.inl (hc.elim id id)),λus hu=>?_⟩;obtain rfl:=(zvc a).uniq hu.1
 (repeat infer_instance)
 have n2:Nice 1 (1 * (100+1)) (.tuple ([a].map tS)):=zl8 (λw hw=>by rw[Qg.mp hw];exact zoi ⟨by omega,λc hc=>lo c (.inl hc)⟩) (Qc _);refine⟨_,zye n2 n2 (q:=true) (hq:=⟨λ_=>rfl,λ_=>rfl⟩),?_⟩;exact q
end
def zga(p:List Nat × List Nat):Ve := .tuple [tS p.1,tS p.2]
def OkPW(p:List Nat × List Nat):Prop:=p.1.length<=5/\p.2.length<=5/\∀ c,c ∈ p.1\/c ∈ p.2->c<128
section
variable {P : Vf} {w : Vk} {K : PySem.W.Frag} {mg : Str → Option Vb} {base : Heap} {k : Nat}
abbrev sLaw:Stmt:=top 16
theorem z2r:FnScope ["_law_script", "_law_deal_here", "_law_asked", "_law_k", "_law_letters", "_law_one", "_law_other", "_law_form", "_law_letter"] ["_law_script"] (zaf sLaw):=⟨rfl,rfl,rfl,by decide +kernel,rfl,by decide +kernel,by decide +kernel⟩
theorem zzt(B:Blt mg)(d_law_deal:Def3 P w K mg base 1 "_law_deal" ["_law_script", "_law_base"] (zhi K))(d_law_draw:zpy P w K mg base)(zcm:Def3 P w K mg base 2 "_law_alphabet" ["_law_deal_here", "_law_many"] (spD K IsDeal 1 ze8))(zc6:Def3 P w K mg base 2 "_law_word" ["_law_deal_here", "_law_letters", "_law_most"] (spD K IsDeal 2 zs0))(zd4:Def3 P w K mg base 6 "_law_right" ["_law_one", "_law_other"] (spO K (λ_=>True) 2 zow)){f₁:Addr}{fd₁:VB}(Fu:Fun K "law" "law" sLaw f₁ fd₁):FnOk P w K mg base CX0 7 f₁ fd₁ ["_law_script"] (zhb K):=by
 refine zy2 (k:=6) Fu z2r rfl (λf cdv A outer s H E C=>?_) (λf cdv A outer s H E C=>?_)
 ·obtain⟨fP,fdP,G,mP,kpP,bnP⟩:=d_law_deal.ex;exact zbt (i:=1) (GV (by kernel_rfl)) rfl (by first|exact Or.inl rfl|exact Or.inr rfl) (zd5 (k:=6) (G.mono (by decide)) (C.room ()) rfl mP kpP bnP .nil zh1 (zai (zag (i:=0) rfl (by first|exact Or.inl rfl|exact Or.inr (Or.inl rfl)|exact Or.inr (Or.inr rfl))) (zai zar zaq)))
 ·have hO:∀ j:Addr × Addr,IsDeal ((λj:Addr × Addr=>zhd j.1 j.2) j):=λj=>zqo _ _;refine⟨_,(zak (zbk 2 (zda zae)) (zak (zdf C (zc8 (i_r1 C B (zac (zay C zan (z1x 0 C B)) zae))) (zbb (h:=1000) 3) (zak (zbk 4 (zb2 1 C zcm hO (zac (zay C zan (zb2 1 C d_law_draw hO (zac zan zae))) zae))) (zak (zbk 5 (zb2 1 C zc6 hO (zac (zab 4) (zac zan zae)))) (zak (zbk 6 (zb2 1 C zc6 hO (zac (zab 4) (zac zan zae)))) (zak (zbk 7 (zb2 1 C d_law_draw hO (zac zan zae))) (zak (s_if (t_eq C (zab 7) zan) (zam (zbk 6 (zr8 C B zdx (zab 5)))) zb0) (zak (s_if (t_eq C (zab 7) zan) (zak (zbk 6 zdx) (zam (zdf C (zc8 (zww (zab 5))) (zbb (h:=1000) 8) (zam (zbk 6 (zay C (zab 6) (zc5 C (zda (zac (zab 8) (zac (zc5 C (zab 4) (zb2 1 C d_law_draw hO (zac (zbd C B (zac (zab 4) zae)) zae))) (zac zdx zae)))) (zb2 1 C d_law_draw hO (zac zan zae))))))))) zb0) (zam (zwe 2 C (zf2 (zac (zab 5) (zac (zab 6) zae)))))))))))) (zam (zbw (z2g C B (zac (zdp 2 ["_law_one", "_law_other", "_law_script", "_law_deal_here", "_law_asked", "_law_k", "_law_letters", "._law_one", "._law_other", "_law_form", "_law_letter"] C (λ_ => .of rfl (by kernel_rfl)) (zci C (zay C (zab 2) (zau C (zab 2) zbs (zas zan)))) (zpo (C.comp _ _) (zcr 0 (zcr 1 zlv))) ze9 (zbg (C.comp _ _) zd4 (λ_=>trivial) (zac (zab 0) (zac (zab 1) zae)))) zae)))))),λn hn=>?_⟩;have sz:=Vj;have sz:=Vj
  (repeat infer_instance)
  refine⟨by omega,by omega,rfl,?_⟩
  refine zbc (λj ρ=>∃ (ps:List (List Nat × List Nat)) (o3 o4 o5 o6 o7 o8:Option DV),ρ = [some (.scr n),some .ob,some (.own (ps.map zga)),o3,o4,o5,o6,o7,o8]/\ps.length<=j/\∀ p ∈ ps,OkPW p)
   ⟨[],none,none,none,none,none,none,rfl,Qc _,λp hp=>by cases hp⟩ (λρ ⟨ps,o3,o4,o5,o6,o7,o8,e,h1,h2⟩=>?_) λj d ρ N hd hN ⟨ps,o3,o4,o5,o6,o7,o8,e,h1,h2⟩=>?_
  ·subst e;have h1:ps.length<=7:=QH h1 (by unfold zc7;rw[Qe,QF];omega);have e1:cutL (ps.map zga) none (some 1)=(ps.take 1).map zga:=by rw[ztq];exact Tb _ (zqz ps 1)
   have good:∀ p ∈ ps++ps.take 1,OkPW p:=λp hp=>(Qv.mp hp).elim (h2 p) λh=>h2 p (ZA h);have hlen:(ps++ps.take 1).length<=sizeLine:=by rw[Qj,QJ];omega
   (repeat infer_instance)
   rw[e1];refine⟨_,zon (by simp only[Qe,QJ];omega),?_⟩;rw[<- Qy];refine⟨_,rfl,?_⟩;generalize ps++ps.take 1=l at good hlen;refine zl3 (e:=λ_ => .bool true) (λp hp P hP=>?_) znc hlen ?_
   ·obtain⟨g1,g2,g3⟩:=good p hp;exact⟨_,rfl,iteT (B:=False) ⟨_,_,rfl,rfl,_,_,rfl,rfl,rfl,p.1,p.2,rfl,g1,g2,g3,hP _ rfl⟩⟩
   ·refine⟨l.map λ_=>true,by rw[QG];rfl,?_⟩;rw[GT Ql,YT];show R.o (PyData.bool (l.all λ_=>true))=_;simp
  ·subst e;obtain⟨hj,rfl⟩:=zfs hd;refine⟨rfl,rfl,zl4 rfl (by decide) (by decide) λk1 hk1=>⟨_,rfl,rfl,_,rfl,by omega,by omega,λls hls hlow hrise=>⟨rfl,?_⟩⟩⟩;have hne:ls ≠ []:=λe=>by rw[e] at hls;simp at hls;omega
   have hl:ls.length<=26:=by omega
   have llo:∀ c ∈ ls,c<128:=λc hc=>ZT (hlow c hc).2 (by decide);refine⟨rfl,_,_,rfl,rfl,rfl,ls,5,rfl,hlow,hne,hl,by decide,λv hv hv5=>⟨rfl,?_⟩⟩;refine⟨rfl,_,_,rfl,rfl,rfl,ls,5,rfl,hlow,hne,hl,by decide,λu hu hu5=>⟨rfl,?_⟩⟩;refine zl4 rfl (by decide) (by decide) λk2 hk2=>⟨rfl,?_⟩;have vlo:∀ c ∈ v,c<128:=λc hc=>llo c (hv c hc);have ulo:∀ c ∈ u,c<128:=λc hc=>llo c (hu c hc);dsimp only;refine zoj (λρ=>∃ x:List Nat,x.length<=5/\(∀ c ∈ x,c<128)/\ρ = [some (.scr n),some .ob,some (.own (ps.map zga)),some (.im (.int (0+(j:Int)))),some (.im (.str (tx ls))),some (.im (.str (tx v))),some (.im (.str (tx x))),some (.im (.int (k2:Nat))),o8]) (λN2 hN2=>?_) λρ zz=>?_
   ·refine⟨_,_,rfl,rfl,_,zgf,_,rfl,?_⟩;refine ite2 (λ_=>?_) (λ_=>?_)
    ·obtain⟨y,e1,e2,e3,e4⟩:=ztk (w:=v) (by omega);refine⟨_,rfl,_,_,rfl,rfl,y,e1,e2,e3,rfl,?_⟩;rw[e4];exact hN2 _ ⟨v.reverse,by rw[Jh];exact hv5,λc hc=>vlo c (JX.mp hc),rfl⟩
    ·exact hN2 _ ⟨u,hu5,ulo,rfl⟩
   obtain⟨x,x5,xlo,e⟩:=zz;subst e;refine zoj (λρ=>∃ (x:List Nat) (o8:Option DV),x.length<=5/\(∀ c ∈ x,c<128)/\ρ = [some (.scr n),some .ob,some (.own (ps.map zga)),some (.im (.int (0+(j:Int)))),some (.im (.str (tx ls))),some (.im (.str (tx v))),some (.im (.str (tx x))),some (.im (.int (k2:Nat))),o8]) (λN2 hN2=>?_) λρ zz=>?_
   ·refine⟨_,_,rfl,rfl,_,zgf,_,rfl,?_⟩;refine ite2 (λ_=>?_) (λ_=>?_)
    ·refine⟨rfl,_,_,rfl,rfl,_,rfl,rfl,?_⟩;rw[show sgs (tx v)=v.map λc => .str (tx [c]) by unfold sgs;rw[zbe];rfl]
     refine zbc (λi ρ=>∃ (x:List Nat) (o8:Option DV),x.length<=i/\(∀ c ∈ x,c<128)/\ρ = [some (.scr n),some .ob,some (.own (ps.map zga)),some (.im (.int (0+(j:Int)))),some (.im (.str (tx ls))),some (.im (.str (tx v))),some (.im (.str (tx x))),some (.im (.int (k2:Nat))),o8])
      ⟨[],o8,Qc _,(λc hc=>absurd hc (Ze)),(by rw[show Str.ofString "" = tx [] by decide +kernel];rfl)⟩ (λρ ⟨x,o8,h1,h2,e⟩=>?_) λi d ρ N3 hd hN3 ⟨x,o8,h1,h2,e⟩=>?_
     ·exact hN2 _ ⟨x,o8,by rw[Qe] at h1;omega,h2,e⟩
     ·subst e;rw[Qk] at hd;obtain⟨c,hc,rfl⟩:=Q0.mp hd;have il:=(Qi.mp hc).1;have mc:=vlo c (Q6 hc);refine⟨rfl,_,_,rfl,rfl,_,_,rfl,rfl,zj6 rfl rfl hne (by omega) λc2 hc2=>⟨by show 3<=sizeLine;omega,zl4 rfl (by decide) (by decide) λk3 hk3=>?_⟩⟩
      obtain⟨z,z1,zlo,hix⟩:∃ z:List Nat,z.length<=1/\(∀ c ∈ z,c<128)/\idxF (.list [.str (tx [c]),.str (tx [c2]),.str (Str.ofString "")]) (.int (k3:Nat))=some (.o (.str (tx z))):=by
       match k3,hk3 with
       | 0,_=>exact⟨[c],Qc _,λx hx=>by rw[Qg.mp hx];exact mc,zje rfl⟩
       | 1,_=>exact⟨[c2],Qc _,λx hx=>by rw[Qg.mp hx];exact llo c2 hc2,zje rfl⟩
       | 2,_=>exact⟨[],Qw _,(λx hx=>absurd hx Ze),(by rw[show Str.ofString "" = tx [] by decide +kernel];exact zje rfl)⟩
      refine⟨_,hix,_,zek (by omega),rfl,?_⟩;exact hN3 _ ⟨x++z,_,by rw[Qj];omega,λc hc=>(Qv.mp hc).elim (h2 c) (zlo c),rfl⟩
    ·exact hN2 _ ⟨x,_,x5,xlo,rfl⟩
   obtain⟨x,o8,x5,xlo,e⟩:=zz;subst e
   (repeat infer_instance)
   have hj7:j<7:=by omega
   refine⟨by rw[Qe];omega,?_⟩;refine hN _ ⟨ps ++ [(v,x)],_,_,_,_,_,_,by rw[Qy];rfl,by rw[Qj,QO];omega,λp hp=>?_⟩;rcases Qv.mp hp with hp|hp
   ·exact h2 p hp
   ·rw[Qg.mp hp];exact⟨hv5,x5,λc hc=>hc.elim (vlo c) (xlo c)⟩
end
def DIn(K:PySem.W.Frag)(x:Str)(st:Stmt):Prop:=∃ (f:Addr) (od an:Option Addr) (sl:Array (Option Vb)) (oc kV dc pm cd ct:Vb),PySem.W.nsIn K mainGlobals x=some (some (.ref f))/\K.lookup f=some ⟨oc,od,.func (PySem.W.fnOf x x (zbv st) (za2 st) (zaf st) .none kV dc pm an cd ct),sl⟩/\PySem.W.codeIn K cd x=true/\PySem.W.keepIn K (.ref f)=true
theorem din_mk{K:PySem.W.Frag}{x:Str}{st:Stmt}{f:Addr}{od an:Option Addr}{sl:Array (Option Vb)}{oc kV dc pm cd ct:Vb}(a:PySem.W.nsIn K mainGlobals x=some (some (.ref f)))(l:K.lookup f=some ⟨oc,od,.func (PySem.W.fnOf x x (zbv st) (za2 st) (zaf st) .none kV dc pm an cd ct),sl⟩)(c:PySem.W.codeIn K cd x=true)(k:PySem.W.keepIn K (.ref f)=true):DIn K x st:=⟨f,od,an,sl,oc,kV,dc,pm,cd,ct,a,l,c,k⟩
theorem za3{K:PySem.W.Frag}{x:Str}{st:Stmt}{h:Heap}{mg:Str->Option Vb}(X:K.In h)(G:h.Ns mainGlobals mg)(D:DIn K x st):Top3 K mg x st:=by obtain⟨f,_,_,_,_,_,_,_,_,_,a,l,c,k⟩:=D;exact⟨f,_,zsr (st:=st) l c k,PySem.W.mg_of X G a⟩
theorem all_mk{l:PySem.W.OpenLaw}{w:Vk}{K:PySem.W.Frag}{h:Heap}{mg:Str->Option Vb}{fa:Addr}(X:K.In h)(G:h.Ns mainGlobals mg)(hfa:mg "law" = some (.ref fa))
 (D1:DIn K "word_order" zes)
 (D2:DIn K "without_needless_first" zbn)
 (D3:DIn K "put_ahead" zfk)
 (D4:DIn K "above_ends" zey)
 (D5:DIn K "above_both" zep)
 (D6:DIn K "_law_deal" zp8)
 (D7:DIn K "_law_draw" zpf)
 (D8:DIn K "_law_alphabet" zfo)
 (D9:DIn K "_law_word" zmr)
 (D10:DIn K "_law_under" ziz)
 (D11:DIn K "_law_mixed" zjg)
 (D12:DIn K "_law_shorter" zfw)
 (D13:DIn K "_law_due" zp0)
 (D14:DIn K "_law_right" ziu)
 (D15:DIn K "law" sLaw)
 (z1:PySem.W.nsIn K mainGlobals "len" = some none)
 (z2:PySem.W.nsIn K mainGlobals "all" = some none)
 (z3:PySem.W.nsIn K mainGlobals "any" = some none)
 (z4:PySem.W.nsIn K mainGlobals "sorted" = some none)
 (z5:PySem.W.nsIn K mainGlobals "min" = some none)
 (z6:PySem.W.nsIn K mainGlobals "max" = some none)
 (z7:PySem.W.nsIn K mainGlobals "repr" = some none)
 (z8:PySem.W.nsIn K mainGlobals "int" = some none)
 (z9:PySem.W.nsIn K mainGlobals "list" = some none)
 (z10:PySem.W.nsIn K mainGlobals "tuple" = some none)
 (z11:PySem.W.nsIn K mainGlobals "range" = some none)
 (z12:PySem.W.nsIn K mainGlobals "set" = some none)
 (z13:PySem.W.nsIn K mainGlobals "isinstance" = some none)
 (z14:PySem.W.nsIn K mainGlobals "enumerate" = some none)
 (z15:PySem.W.nsIn K mainGlobals "zip" = some none)
 (z16:PySem.W.nsIn K mainGlobals "reversed" = some none)
 (z17:PySem.W.nsIn K mainGlobals "str" = some none)
 (z18:PySem.W.nsIn K mainGlobals "sum" = some none)
 (z19:PySem.W.nsIn K mainGlobals "dict" = some none)
 (z20:PySem.W.nsIn K mainGlobals "bool" = some none)
 : ∃ fd:VB,(∀ (s:Vc) (v:Vb),G7 s fd ⟨[v],[]⟩ [("_law_script", v)])/\∀ base:Heap,K.In base->base.Ns mainGlobals mg->FnOk l.prog w K mg base CX0 7 fa fd ["_law_script"] (zhb K):=by
 have T1:=za3 X G D1;have T2:=za3 X G D2;have T3:=za3 X G D3;have T4:=za3 X G D4;have T5:=za3 X G D5;have T6:=za3 X G D6;have T7:=za3 X G D7;have T8:=za3 X G D8;have T9:=za3 X G D9;have T10:=za3 X G D10;have T11:=za3 X G D11;have T12:=za3 X G D12;have T13:=za3 X G D13;have T14:=za3 X G D14;have T15:=za3 X G D15;have B:Blt mg:=⟨PySem.W.mg_none_of X G z1,PySem.W.mg_none_of X G z2,PySem.W.mg_none_of X G z3,PySem.W.mg_none_of X G z4,PySem.W.mg_none_of X G z5,PySem.W.mg_none_of X G z6,PySem.W.mg_none_of X G z7,PySem.W.mg_none_of X G z8,PySem.W.mg_none_of X G z9,PySem.W.mg_none_of X G z10,PySem.W.mg_none_of X G z11,PySem.W.mg_none_of X G z12,PySem.W.mg_none_of X G z13,PySem.W.mg_none_of X G z14,PySem.W.mg_none_of X G z15,PySem.W.mg_none_of X G z16,PySem.W.mg_none_of X G z17,PySem.W.mg_none_of X G z18,PySem.W.mg_none_of X G z19,PySem.W.mg_none_of X G z20⟩;obtain⟨f15,od15,an15,sl15,oc15,kV15,dc15,pm15,cd15,ct15,a15,l15,c15,k15⟩:=D15;have e:=hfa.symm.trans (PySem.W.mg_of X G a15);cases e;refine⟨PySem.W.fnOf "law" "law" (zbv sLaw) (za2 sLaw) (zaf sLaw) .none kV15 dc15 pm15 an15 cd15 ct15,λs v => .of_eq rfl,λbase _ _=>?_⟩;have e1:=zdl (P:=l.prog) (w:=w) (base:=base) B T1;have e2:=za8 B e1 T2;have e3:=zb4 (P:=l.prog) (w:=w) (base:=base) B T3;have e4:=zdm B e2 e3 T4;have e5:=zbl B e4 T5;have e6:=d_law_deal (P:=l.prog) (w:=w) (base:=base) B T6;have e7:=d_law_draw (P:=l.prog) (w:=w) (base:=base) B T7;have e8:=zcm B e7 T8;have e9:=zc6 B e7 T9;have e10:=zcz (P:=l.prog) (w:=w) (base:=base) B T10;have e11:=zd2 (P:=l.prog) (w:=w) (base:=base) B T11;have e12:=zc3 (P:=l.prog) (w:=w) (base:=base) B T12;have e13:=zfl B e10 e11 e12 T13;have e14:=zd4 B e5 e13 T14;exact zzt B e6 e7 e8 e9 e14 (zsr (st:=sLaw) l15 c15 k15)
theorem walk{l:PySem.W.OpenLaw}{q:Vf}{loose:List Str}{XP:(Str->Option Vb)->Heap->Prop}{YP:Vk->Heap->Prop}{d:DefRec}{K:Params->PySem.W.Frag}(hn:l.most=some 63)(hdf:d.params.defaults = [])
 (hY:∀ (w:Vk) (h:Heap),YP w h->(K w.params).In h)
 (F:∀ (w:Vk) (mg:Str->Option Vb) (fa:Addr) (h:Heap),(K w.params).In h->h.Ns mainGlobals mg->mg d.name=some (.ref fa) ->
  ∃ fd:VB,(∀ (s:Vc) (u:Vb),G7 s fd ⟨[u],[]⟩ [("_law_script", u)])/\∀ base:Heap,(K w.params).In base->base.Ns mainGlobals mg->FnOk l.prog w (K w.params) mg base CX0 7 fa fd ["_law_script"] (zhb (K w.params))) :
 PySem.W.WalkO q loose XP YP l.row.toRowW d [] (λf vs=>PySem.call f vs) :=
 L2.walk_of (n:=63) (k:=7) (x := "_law_script") (CX:=λ_=>CX0) (sp:=λw=>zhb (K w.params)) hn (by decide) hdf ⟨rfl,by decide,by decide,rfl⟩ hY F (λ_ _ a ns hl _ hS=>⟨a,ns,rfl,hS,hl,λ_=>rfl⟩) λ_ _ _ _ _ z=>z
end L14
theorem PySem.W.Fast.tw16766952688197039849 : True := trivial
theorem PySem.W.Fast.tw5827686317393069614 : True := trivial
theorem PySem.W.Fast.tw6364145477837427337 : True := trivial
theorem PySem.W.Fast.tw8702574159383157821 : True := trivial
theorem PySem.W.Fast.tw14159722710359259602 : True := trivial
theorem PySem.W.Fast.tw7330090762631424037 : True := trivial
theorem PySem.W.Fast.tw6205955945824974232 : True := trivial
theorem PySem.W.Fast.tw16292917871555898823 : True := trivial
theorem PySem.W.Fast.tw15266404502814797440 : True := trivial
theorem PySem.W.Fast.tw10633785514694701564 : True := trivial
open PySem PySem.W PyProof.Rows
set_option maxRecDepth 100000 in
set_option maxHeartbeats 0 in
theorem PySem.Challenge.cw_lostpost_k14_words_above_both_holds : PySem.Challenge.rw_lostpost_k14_words_above_both.Holds := by
 w_on;o_law;k_head; (case hw=>w_witness2)
 k_fill
 refine L14.walk (l:=PySem.Challenge.rw_lostpost_k14_words_above_both) rfl rfl (λw h Y=>PySem.W.kIn_of Y) ?F
 case F =>
  intro w mg fa h KX G hmg;refine' L14.all_mk KX G hmg (L14.din_mk ?a1 ?l1 ?c1 ?k1) (L14.din_mk ?a2 ?l2 ?c2 ?k2) (L14.din_mk ?a3 ?l3 ?c3 ?k3) (L14.din_mk ?a4 ?l4 ?c4 ?k4) (L14.din_mk ?a5 ?l5 ?c5 ?k5) (L14.din_mk ?a6 ?l6 ?c6 ?k6) (L14.din_mk ?a7 ?l7 ?c7 ?k7) (L14.din_mk ?a8 ?l8 ?c8 ?k8) (L14.din_mk ?a9 ?l9 ?c9 ?k9) (L14.din_mk ?a10 ?l10 ?c10 ?k10) (L14.din_mk ?a11 ?l11 ?c11 ?k11) (L14.din_mk ?a12 ?l12 ?c12 ?k12) (L14.din_mk ?a13 ?l13 ?c13 ?k13) (L14.din_mk ?a14 ?l14 ?c14 ?k14) (L14.din_mk ?a15 ?l15 ?c15 ?k15) ?z1 ?z2 ?z3 ?z4 ?z5 ?z6 ?z7 ?z8 ?z9 ?z10 ?z11 ?z12 ?z13 ?z14 ?z15 ?z16 ?z17 ?z18 ?z19 ?z20
  (case a1=>k_is); (case l1=>k_is); (case c1=>k_is); (case k1=>k_is)
  (case a2=>k_is); (case l2=>k_is); (case c2=>k_is); (case k2=>k_is)
  (case a3=>k_is); (case l3=>k_is); (case c3=>k_is); (case k3=>k_is)
  (case a4=>k_is); (case l4=>k_is); (case c4=>k_is); (case k4=>k_is)
  (case a5=>k_is); (case l5=>k_is); (case c5=>k_is); (case k5=>k_is)
  (case a6=>k_is); (case l6=>k_is); (case c6=>k_is); (case k6=>k_is)
  (case a7=>k_is); (case l7=>k_is); (case c7=>k_is); (case k7=>k_is)
  (case a8=>k_is); (case l8=>k_is); (case c8=>k_is); (case k8=>k_is)
  (case a9=>k_is); (case l9=>k_is); (case c9=>k_is); (case k9=>k_is)
  (case a10=>k_is); (case l10=>k_is); (case c10=>k_is); (case k10=>k_is)
  (case a11=>k_is); (case l11=>k_is); (case c11=>k_is); (case k11=>k_is)
  (case a12=>k_is); (case l12=>k_is); (case c12=>k_is); (case k12=>k_is)
  (case a13=>k_is); (case l13=>k_is); (case c13=>k_is); (case k13=>k_is)
  (case a14=>k_is); (case l14=>k_is); (case c14=>k_is); (case k14=>k_is)
  (case a15=>k_is); (case l15=>k_is); (case c15=>k_is); (case k15=>k_is)
  (case z1=>k_is)
  (case z2=>k_is)
  (case z3=>k_is)
  (case z4=>k_is)
  (case z5=>k_is)
  (case z6=>k_is)
  (case z7=>k_is)
  (case z8=>k_is)
  (case z9=>k_is)
  (case z10=>k_is)
  (case z11=>k_is)
  (case z12=>k_is)
  (case z13=>k_is)
  (case z14=>k_is)
  (case z15=>k_is)
  (case z16=>k_is)
  (case z17=>k_is)
  (case z18=>k_is)
  (case z19=>k_is)
  (case z20=>k_is)

