import PyProof.Rows.All
import Wide.All
import OpenK.AllK
import Wide.FinOn
import Lean
import PyProof.EqAt
import PyProof.EqKinds
import PyProof.TupleCall
import PyProof.StationsW
import PyProof.ExcClass2
import PyProof.ExcBaseAll.ValueError
import PyProof.InstStoreFacts
import PyProof.RulesAs
import PyProof.NsDelKeeps
import PyProof.P3Eq
import PyProof.P3In
import PyProof.ReprRoads
import PyProof.StrWalks
import PyProof.ListRange
import PyProof.ListStr
import PyProof.ConsumeWalk
import PyProof.MinMaxWalk
import PyProof.NeData
import PyProof.SliceStr2
import PyProof.Rows.SortStr
import PyProof.Rows.StrJoin2
import PyProof.Rows.SeqMore
import PyProof.SeqI3
import PyProof.StrLawsIn
import PySem.Challenge.RW_lostpost_k32_texts_of_no_house
import PyProof.ReprBulk
import PyProof.ListMulRoad
import PyProof.StrOps2
import PyProof.Rows.SortShellK
import KE.KSortTup
import PyProof.Rows.SetFrom
import PyProof.CollectIter
import PyProof.CollectStr
import PyProof.FactsAll.set
import PyProof.ExcAttrAll.ValueError
import PyProof.ExcArgs
import KE.KIsAll
import PySem.SetTable
import PyProof.SetScanFacts
import PyProof.TupleKey
import PyProof.IsRules
import KE.KDictOf
import PyProof.AttrMissHeap
import PyProof.DictWalks
import KE.KDictLaws
import PyProof.Draws
import KE.KRevIter
import PyProof.EnumStmt
import PyProof.JoinWalk
import KE.BitLaws
import PyProof.TupleOfSeq
import PyProof.StrCalls6
import PyProof.StrLawsReplace
import PyProof.DictRoadsH
import PyProof.ZipIter
import PyProof.EnumIter
import KE.KItemsList
open Array renaming getElem?_eq_getElem → Zq, length_toList → Ja, getElem?_eq_none → Jk, getD_eq_getD_getElem? → JL, getElem?_eq_some_iff → JO, toList_inj → JU, forIn_toList → Yn, getElem?_toList → Y6, mem_toList_iff → YF, append_empty → jb, toList_push → jr, toList → zD
open Bool renaming false_ne_true → Qc, and_eq_true → Qp, true_and → Q7, false_and → QD, and_false → QI, and_eq_true_iff → QR, false_eq_true → ZH, eq_false_iff → Jw, eq_iff_iff → JD, or_eq_true → JF, not_eq_true' → JJ, and_true → j5, or_false → qk, false_or → qp
open Classical renaming choose_spec → Js
open False renaming elim → Z3
open ForInStep renaming yield → YM
open Int renaming eq_ofNat_of_zero_le → Zn, emod_lt_of_pos → Jp, emod_nonneg → JE, toNat_natCast → Y2, ediv_nonneg → zc, natCast_mul → zd
open List renaming length_map → Qe, length_append → Qf, mem_cons_of_mem → Qj, getElem?_eq_getElem → Qk, mem_cons → Ql, replicate → Qm, not_mem_nil → Qo, size_toArray → Qs, mem_singleton → Qu, append_assoc → Qw, mem_append → Qx, length_cons → Qy, mem_map → Qz, map_cons → Q3, getElem?_map → Q4, map_map → Q5, getD_eq_getElem?_getD → Q6, mem_cons_self → Q8, map_append → QA, mem_append_right → QB, getElem?_eq_some_iff → QE, getElem?_set_ne → QF, getElem?_set_self → QG, all_eq_true → QK, getElem_mem → QQ, append_nil → QU, mem_append_left → QW, getElem?_eq_none → QZ, length_set → Zj, mem_of_getElem? → Zl, getElem?_append_left → Zp, nodup_cons → Zr, length_replicate → Zv, length_drop → Z1, replicate_succ → Z7, length_singleton → Z8, flatten_cons → ZB, getElem?_replicate → ZD, getElem?_append_right → ZF, length_take → ZJ, lookup_cons_self → ZP, flatten_append → Jb, forIn_cons → Jc, drop_eq_getElem_cons → Jd, lookup_cons → Je, eq_nil_of_length_eq_zero → Jg, map_congr_left → Ji, lookup → Jl, getElem?_drop → Jm, forIn_nil → Jo, foldl_cons → Ju, filterMap_cons → J1, getElem?_cons_succ → J4, cons_append → J8, dropLast_concat_getLast → JG, nodup_append → JK, mem_of_mem_take → JR, drop_length → JT, mem_flatten → JY, pairwise_iff_getElem → Ya, length_pos_iff → Yd, getElem_of_mem → Ye, nil_append → Yj, range → Yl, length_eq_zero_iff → Yr, length_range → Yx, drop_eq_nil_of_le → Yz, mem_range'_1 → Y0, ext_getElem? → Y1, map → Y4, getElem?_toArray → Y5, perm_append_comm → Y7, foldl → Y8, take_length → YA, sum_cons → YD, mem_iff_getElem → YG, mem_of_mem_drop → YI, find?_cons → YK, mem_range → YV, map_inj_right → jh, range' → jq, length_erase_of_mem → j4, take_of_length_le → jH, length_pos_of_mem → jJ, head?_eq_getElem? → jK, mem_filter → jM, of_mem_zip → jO, take_eq_take_min → jQ, take_append_drop → jR, eq_nil_or_concat → jS, length → jT, drop_zero → jV, length_eraseIdx → jX, mem_erase_of_ne → jY, map_drop → ql, mem_filterMap → qq, contains_cons → qv, pairwise_cons → qB, getElem_inj → qO, filter_cons → qX, perm_middle → qY, zipIdx_cons → qZ, map_id → zb, zipIdx_nil → zg, filterMap → zj, take_succ → zo, drop_drop → zr, take_nil → zx, all_cons → zA
open List.Pairwise renaming of_map → qd
open List.Perm renaming cons → zn
open List.cons renaming inj → qo
open Nat renaming le_refl → Qt, le_trans → Q2, ne_of_lt → Q9, lt_of_lt_of_le → QL, zero_le → QO, lt_succ_of_lt → QY, ne_of_gt → Zx, le_of_ble_eq_true → Z9, lt_irrefl → ZI, lt_succ_self → ZK, not_lt → ZN, le_of_lt → Jj, mul_le_mul_right → Jx, le_succ → JP, le_of_eq → Yu, lt_or_ge → Yv, not_lt_zero → YN, le_succ_of_le → jv, lt_succ_iff_lt_or_eq → j6, le_of_not_lt → j9, le_add_right → jD, mul_comm → jG, pow_le_pow_right → qf, lt_of_le_of_ne → qx, lt_of_le_of_lt → qz, succ_mul → qF, succ_min_succ → qN, succ_le_succ → za
open Ne renaming symm → ZY
open Option renaming map_eq_some_iff → QV, none → Zw, map_some → YL, isSome_iff_exists → jw, isNone_some → qA, isSome_map → qL, getD_none → qQ
open Option.some renaming inj → Zy
open PyProof.Rows renaming callWith_type1 → Zt, slot_tuple_getitem → Zu, callWith_builtin1 → Z0
open PyProof.Rows.F renaming plain_set_update_loop → Yq, entry_set_update_loop → jB
open PyProof.Rows.IsTup renaming new → j8
open PySem renaming Spec → Qg, mem_of_lookup → Z6, Str → ZV, strKind → ZX, intText? → jW, seqSlot_of → qT, SetTable → zh, call → zi, Within → zC
open PySem.Around renaming under_plainId → ZU, under → jE
open PySem.Builtin.Frozenset renaming updateFrom → zf, newClass → zk, slot0 → zB
open PySem.Builtin.List renaming listTooLong → Jz, listLengthHint → JM, listSameRef → Yh, listExtendWith → YT
open PySem.Builtin.ObjectAttr renaming bindTo → ji
open PySem.Builtin.Slice renaming slicePlaces → Jt, sliceAdjust → JZ, sliceApplied → YY
open PySem.Builtin.SmallTypes renaming nextOf → Qv, ownedTupleIsFree → QN, ownedTupleHandOut → Yf
open PySem.Builtin.Str renaming occurrences → QM, glued → Yy, strSliceIndices → YS, partsBetween → j1, strKind → qi
open PySem.Builtin.Tuple renaming tupleExact → Jy, tupleItemsOf → YZ, tupleTooMany → jd
open PySem.Calls renaming spliced_cons → Zi, spliced_nil → ZA, Name_function_global → YW
open PySem.Code renaming quiet_builtin → jc, isFrame → qE
open PySem.Data renaming seq → zF
open PySem.EntryCells renaming newEntry → qh
open PySem.F renaming slot_zip_next → Jh, slot_tuple_iterator_next → Jq, called_set → JB, slot_tuple_mul → JW, plain_extend_loop → Yb, args_tuple_add_2 → Yg, entry_tuple_add → Yo, plainAttrs_list → Yp, slot_tuple_add → Yt, args_zip_next_1 → Y3, entry_zip_next → YB, slot_int_rmul → YJ, args_tuple_iterator_next_1 → YO, entry_tuple_iterator_next → YU, args_tuple_mul_2 → je, args_str_split_2 → jf, entry_extend_loop → jj, entry_tuple_mul → jo, entry_str_split → jp, slot_list_append → jy, type_list_append → jz, slot_str_split → jA, plainAttrs_str → jI, store_object → jU, sub_list_frozenset → jZ, args_int_rmul_2 → qG, slot_tuple_rmul → qI, plain_list_iadd → qK, slot_int_index → qR, entry_int_rmul → qS
open PySem.Heap renaming get?_push_of_some → Qb, lt_size → Qn, get?_push_size → Qq, get?_update_other → QJ, get?_update_self → QT, size_push → Z2, SameBut → ZZ, size_update → jC
open PySem.Heap.SameBut renaming refl → jn, update → qj
open PySem.NameKind renaming free → Zs, cell → jx
open PySem.Obj renaming mapSeq → ZM, isFreed_of_fields → Jr, mapFields → J0, data_mapFields → JA, cls_mapFields → qH
open PySem.Paired renaming length → zt
open PySem.PyData renaming eqv → QP, str → QX, list → Zo, canLayAll0 → ZC, int → ZO, strOk → Jf, canLay0 → J5, tuple → JC, depth → JV, depthAll → Yk, eqvAll → YE, bool → YH
open PySem.PyData.str renaming inj → qc, injEq → qW
open PySem.SetTable renaming grown → J7, below → JQ, fits → zy
open PySem.SetTable.below renaming go → jt
open PySem.Shared renaming heap → ju, TypeIs → qm
open PySem.Str renaming ofString → Qi, length → ja
open PySem.Txt renaming split → JX, join → Yw
open PySem.Value renaming ref → QC, none → Zh, bool → ZE, type → J9, isStrOf → JH, str → JS, isStrOf_shape → YQ, int → j7
open PySem.Value.ref renaming inj → z0
open PySem.W renaming Frag → Qa, nsIn → Q0, mg_none_of → QH, findIn → QS, mroIn → Zk, kitOne → Zm, kia_one → Zz, fnOf → Z4, keepIn → Z5, mg_of → ZR, Looks → ZW, typeIn → Jn, looks_findIn → Jv, codeIn → J2, emptyDict → JI, InstAt → JN, looks_mroIn → Yc, callWith_K → Ym, lookIn → Ys, clsIn → YC, looks_clsIn → YR, kitAny → jg, methodObj → jk, hasDictIn → jl, specialIn → jm, cellsFrom_some → jF, instObj → jL, takesIn → jN, OpenLaw → jP, kitx_tuple → qt, check_slot → qu, looks_find → qy, kitx_list → qC, kitx_dict → qD, kdx_alive → qM, plainGet → qP, handedIn → qU, any_some → qV, kitCls → zm, WalkO → zw
open PySem.W.Looks renaming here → ZT, ld → Y9
open PySem.Walks renaming list → qw
open PySem.Within renaming cons → zG
open PySem.pickOrder renaming go → qJ
open Sum renaming inr → Yi, inl → qg
open Sum.inr renaming inj → zE
open True renaming intro → YX
set_option Elab.async false
set_option linter.all false
set_option maxRecDepth 100000
local macro_rules | `(tactic| omega) => `(tactic| lia)
namespace L2
open PySem PySem.Spec PyProof.Rows
abbrev Key:=Sum Int Str
def ziw:Key->Value->Bool
 | .inl k,v=>Value.isInt k v
 | .inr x,v=>JH x v
def keyH(w:World):Key->Int
 | .inl k=>hashInt k
 | .inr x=>hashStr w x
theorem zb0:∀ {k:Key} {v:Value},ziw k v=true->(∃ i t,k=qg i/\v=j7 i t)\/(∃ x t,k=Yi x/\v=JS x t)
 | .inl i,v,h=>by
   obtain⟨t,e⟩:=Value.isInt_shape (k:=i) (v:=v) h
   exact .inl ⟨i,t,rfl,e⟩
 | .inr x,v,h=>by
   obtain⟨t,e⟩:=YQ (x:=x) (v:=v) h
   exact .inr ⟨x,t,rfl,e⟩
theorem zu9(i:Int)(t:Tok):ziw (.inl i) (.int i t)=true:=by simp[ziw,Value.isInt]
theorem ztz(x:Str)(t:Tok):ziw (.inr x) (.str x t)=true:=by simp[ziw,JH]
theorem yao(a b:Int):decide ((qg a:Key)=qg b)=(a == b):=by
 by_cases e:a=b
 ·subst e;simp
 ·have h:¬ (qg a:Key)=qg b:=λq=>e (Sum.inl.inj q)
  rw[decide_eq_false h]
  exact(beq_eq_false_iff_ne.mpr e).symm
theorem z9b(a b:Str):decide ((Yi a:Key)=Yi b)=decide (a=b):=by
 by_cases e:a=b
 ·subst e;simp
 ·have h:¬ (Yi a:Key)=Yi b:=λq=>e (zE q)
  rw[decide_eq_false h,decide_eq_false e]
theorem z7r(a:Int)(b:Str):decide ((qg a:Key)=Yi b)=false:=decide_eq_false (λq=>nomatch q)
theorem z6z(a:Str)(b:Int):decide ((Yi a:Key)=qg b)=false:=decide_eq_false (λq=>nomatch q)
def zcx(prog:Program)(w:World):PySem.KeyKind prog w Key where
 is:=ziw
 hash:=keyH w
 inj:=λv a b ha hb=>by
  rcases zb0 ha with ⟨i,t,rfl,rfl⟩|⟨x,t,rfl,rfl⟩
  ·rcases zb0 hb with ⟨j,u,rfl,e⟩|⟨y,u,rfl,e⟩
   ·injection e with e1 _;rw[e1]
   ·exact nomatch e
  ·rcases zb0 hb with ⟨j,u,rfl,e⟩|⟨y,u,rfl,e⟩
   ·exact nomatch e
   ·injection e with e1 _;rw[e1]
 byValue:=λk v h=>by
  rcases zb0 h with ⟨i,t,rfl,rfl⟩|⟨x,t,rfl,rfl⟩ <;> rfl
 pyHash:=λhv h=>by
  rcases zb0 hv with ⟨i,t,rfl,rfl⟩|⟨x,t,rfl,rfl⟩
  ·exact wpAny_pyHash_int h
  ·exact wpAny_pyHash_str h
 eqBool:=λhu hv h=>by
  rcases zb0 hu with ⟨i,t,rfl,rfl⟩|⟨x,t,rfl,rfl⟩
  ·rcases zb0 hv with ⟨j,u,rfl,rfl⟩|⟨y,u,rfl,rfl⟩
   ·rw[yao] at h;exact wpAny_eqBool_int h
   ·rw[z7r] at h;exact SeqAt.EqAt.int_str i t y u _ _ _ _ h
  ·rcases zb0 hv with ⟨j,u,rfl,rfl⟩|⟨y,u,rfl,rfl⟩
   ·rw[z6z] at h;exact SeqAt.EqAt.str_int x t j u _ _ _ _ h
   ·rw[z9b] at h;exact wpAny_eqBool_str h
 «strs»:=λk x t v h=>by
  rcases zb0 h with ⟨i,u,rfl,e⟩|⟨y,u,rfl,e⟩
  ·exact nomatch e
  ·injection e with e1 _
   subst e1
   cases v <;> rfl
theorem zqd(prog:Program)(w:World)(i:Int)(t:Tok):(zcx prog w).is (.inl i) (.int i t)=true:=zu9 i t
theorem zje(prog:Program)(w:World)(x:Str)(t:Tok):(zcx prog w).is (.inr x) (.str x t)=true:=ztz x t
inductive V where
 | non|bl (b:Bool)|int (i:Int)|str (x:Str)|byt (b:Array UInt8)|flt (b:UInt64)|ref (a:Addr)|ty (n:String)
 deriving DecidableEq
def RelV:V->Value->Prop
 | .non,u=>u=Zh
 | .bl b,u=>u=ZE b
 | .int i,u=>∃ t,u=j7 i t
 | .str x,u=>∃ t,u=JS x t
 | .byt b,u=>∃ t,u=Value.bytes b t
 | .flt b,u=>∃ t,u=Value.float b t
 | .ref a,u=>u=QC a
 | .ty n,u=>u=J9 n
abbrev Vals:List V->List Value->Prop:=Paired RelV
theorem Vals.length{xs:List V}{us:List Value}(r:Vals xs us):xs.length=us.length:=zt r
theorem Vals.get:∀ {xs:List V} {us:List Value} {i:Nat} {x:V},Vals xs us->xs[i]? = some x->∃ u,us[i]? = some u/\RelV x u
 | _,_,_,_,.nil,e=>by simp at e
 | _,_,0,_,.cons r _,e=>by simp at e;subst e;exact⟨_,rfl,r⟩
 | _,_,i+1,x,.cons _ t,e=>by
   obtain⟨u,h1,h2⟩:=Vals.get (i:=i) (x:=x) t (by simpa using e)
   exact⟨u,by simpa using h1,h2⟩
theorem Vals.set{x:V}{u:Value}(r:RelV x u):∀ {xs:List V} {us:List Value} (i:Nat),Vals xs us->Vals (xs.set i x) (us.set i u)
 | _,_,_,.nil => .nil
 | _,_,0,.cons _ t => .cons r t
 | _,_,i+1,.cons q t => .cons q (Vals.set r i t)
theorem Vals.append:∀ {xs ys:List V} {us ws:List Value},Vals xs us->Vals ys ws->Vals (xs++ys) (us++ws)
 | _,_,_,_,.nil,s=>s
 | _,_,_,_,.cons r t,s => .cons r (Vals.append t s)
theorem Vals.take:∀ {xs:List V} {us:List Value} (n:Nat),Vals xs us->Vals (xs.take n) (us.take n)
 | _,_,0,_ => .nil
 | _,_,_+1,.nil => .nil
 | _,_,n+1,.cons r t => .cons r (Vals.take n t)
theorem Vals.drop:∀ {xs:List V} {us:List Value} (n:Nat),Vals xs us->Vals (xs.drop n) (us.drop n)
 | _,_,0,r=>r
 | _,_,_+1,.nil => .nil
 | _,_,n+1,.cons _ t=>Vals.drop n t
def RelO:Option V->Option Value->Prop
 | some v,some u=>RelV v u
 | none,none=>True
 | _,_=>False
def KV{κ:Type}:List (κ × V)->List (κ × Value)->Prop:=Paired λ(p:κ × V) (q:κ × Value)=>p.1=q.1/\RelV p.2 q.2
def kV:Key->V
 | .inl i => .int i
 | .inr x => .str x
inductive HO where
 | lst (xs:List V)
 | tup (xs:List V)
 | dK (kvs:List (Key × V))|dT (kvs:List (List Key × V))
 | set (S:Int->Bool) (n:Nat)
 | ins (C dx:Addr) (fs:List (Str × V))
 | own (x:Addr)
 | xd (fs:List (Str × V))
 | met (f x:Addr)
 | rng (lo hi:Int)
 | frz (o:Obj) (u:HO)
 | tbl (ps:Array Value)
 | ext (φ:Heap->Prop)
abbrev Hp:=Addr->Option HO
def upd(H:Hp)(a:Addr)(o:HO):Hp:=λb=>if b=a then some o else H b
theorem zap{H:Hp}{a:Addr}{o:HO}:upd H a o a=some o:=by unfold upd;rw[if_pos rfl]
theorem zaf{H:Hp}{a b:Addr}{o:HO}(h:b ≠ a):upd H a o b=H b:=by unfold upd;rw[if_neg h]
theorem zc9{H:Hp}{a b:Addr}{o:HO}(h:H a=some o)(h':H b=none):a ≠ b:=by
 intro e;subst e;rw[h] at h';cases h'
section
variable (P : Program) (w : World)
def ObjOk(H:Hp)(h:Heap)(a:Addr):HO->Prop
 | .lst xs=>xs.length<=sizeLine/\∃ (its:List Value) (n:Nat),Vals xs its/\h.get? a=some { cls := .type "list", data := .seq its.toArray n }
 | .tup xs=>xs.length<=sizeLine/\∃ its:List Value,Vals xs its/\IsTup h a its.toArray
 | .dK kvs=>kvs.length<=sizeLine/\(a == sysModules)=false/\∃ vs,KV kvs vs/\h.DictOf (zcx P w) a vs
 | .dT kvs=>kvs.length<=sizeLine/\(a == sysModules)=false/\∃ xs:List (List Key × Addr × Value),
  Paired (λ(p:List Key × V) (q:List Key × Addr × Value)=>p.1=q.1/\H q.2.1=some (.tup (p.1.map kV))/\RelV p.2 q.2.2) kvs xs /\
  ∃ o es ep,h.get? a=some o/\o.ExactDict/\o.data = .dict es ep/\es.toList=xs.map (entryOfKey (tupleKind (zcx P w)))/\(xs.map (·.1)).Nodup
 | .set S n=>h.SetOf (intKind P w) a S n
 | .ins C dx fs=>H dx=some (.own a)/\fs.length<=1000/\dx ≠ a/\h.get? a=some (jL C dx) /\
  ∃ mA,h.Ns1 dx mA/\(∀ f,RelO (fs.lookup f) (mA f))/\zC mA (fs.map (·.1))
 | .own _=>∃ o,h.get? a=some o
 | .xd fs=>∃ mA,h.Ns1 a mA/\∀ f,RelO (fs.lookup f) (mA f)
 | .rng lo hi=>∃ t u v,h.get? a=some { cls := .type "range", data := .fields #[.int lo t,.int hi u,.int 1 v] }
 | .frz o u=>h.get? a=some o/\ObjOk H h a u
 | .tbl ps=>h.get? a=some { cls := .none,data := .fields ps }
 | .met f x=>h.get? a=some (jk (.ref f) (.ref x))
 | .ext φ=>φ h/\(∃ o,h.get? a=some o)/\∀ h1 h2:Heap,φ h1->(∀ o,h1.get? a=some o->h2.get? a=some o)->φ h2
def HOk(H:Hp)(h:Heap):Prop:=∀ a o,H a=some o->ObjOk P w H h a o
end
section
variable {P : Program} {w : World} {H H' : Hp} {h h' : Heap} {a : Addr} {o : HO}
theorem ObjOk.lt(x:ObjOk P w H h a o):a<h.objs.size:=by
 cases o with
 | lst xs=>obtain⟨_,_,_,_,e⟩:=x;exact Qn e
 | tup xs=>obtain⟨_,_,_,p⟩:=x;exact p.lt
 | dK kvs=>obtain⟨_,_,_,_,o,_,_,e,_⟩:=x;exact Qn e
 | dT kvs=>obtain⟨_,_,_,_,o,_,_,e,_⟩:=x;exact Qn e
 | set S n=>obtain⟨o,_,_,_,e,_⟩:=x;exact Qn e
 | ins C dx fs=>obtain⟨_,_,_,e,_⟩:=x;exact Qn e
 | own y=>obtain⟨_,e⟩:=x;exact Qn e
 | xd fs=>obtain⟨_,⟨_,_,_,e,_⟩,_⟩:=x;exact Qn e
 | rng lo hi=>obtain⟨_,_,_,e⟩:=x;exact Qn e
 | frz ob u=>obtain⟨e,_⟩:=x;exact Qn e
 | tbl ps=>exact Qn (show h.get? a=some _ from x)
 | met f y=>exact Qn (show h.get? a=some _ from x)
 | ext φ=>obtain⟨_,⟨_,e⟩,_⟩:=x;exact Qn e
theorem Paired.mapP{α β:Type}{F G:α->β->Prop}:∀ {l₁:List α} {l₂:List β},Paired F l₁ l₂->(∀ a b,F a b->G a b)->Paired G l₁ l₂
 | _,_,.nil,_ => .nil
 | _,_,.cons r t,f => .cons (f _ _ r) (Paired.mapP t f)
theorem ObjOk.stay(x:ObjOk P w H h a o)(k:∀ b u,(b=a\/H b=some (.own a))->h.get? b=some u->h'.get? b=some u)
 (ho:∀ b,H b=some (.own a)->H' b=some (.own a)) (ht:∀ b xs,H b=some (.tup xs)->H' b=some (.tup xs)):ObjOk P w H' h' a o:=by
 induction o with
 | lst xs=>obtain⟨z,its,n,r,e⟩:=x;exact⟨z,its,n,r,k _ _ (.inl rfl) e⟩
 | tup xs=>obtain⟨z,its,r,ob,e,c⟩:=x;exact⟨z,its,r,ob,k _ _ (.inl rfl) e,c⟩
 | dK kvs=>obtain⟨z,y,vs,r,ob,es,ep,e,c⟩:=x;exact⟨z,y,vs,r,ob,es,ep,k _ _ (.inl rfl) e,c⟩
 | dT kvs =>
   obtain⟨z,y,xs,r,ob,es,ep,e,c⟩:=x
   exact⟨z,y,xs,Paired.mapP r λp q z=>⟨z.1,ht _ _ z.2.1,z.2.2⟩,ob,es,ep,k _ _ (.inl rfl) e,c⟩
 | set S n=>obtain⟨ob,es,ep,t,e,c⟩:=x;exact⟨ob,es,ep,t,k _ _ (.inl rfl) e,c⟩
 | ins C dx fs =>
   obtain⟨d,z,ne,e,mA,⟨od,es,ep,e2,c⟩,r⟩:=x
   exact⟨ho _ d,z,ne,k _ _ (.inl rfl) e,mA,⟨od,es,ep,k _ _ (.inr d) e2,c⟩,r⟩
 | own y=>obtain⟨ob,e⟩:=x;exact⟨ob,k _ _ (.inl rfl) e⟩
 | xd fs=>obtain⟨mA,⟨od,es,ep,e,c⟩,r⟩:=x;exact⟨mA,⟨od,es,ep,k _ _ (.inl rfl) e,c⟩,r⟩
 | rng lo hi=>obtain⟨t,u,v,e⟩:=x;exact⟨t,u,v,k _ _ (.inl rfl) e⟩
 | frz ob u ih=>obtain⟨e,q⟩:=x;exact⟨k _ _ (.inl rfl) e,ih q⟩
 | tbl ps =>
   have e:h.get? a=some { cls := .none,data := .fields ps }:=x
   show h'.get? a=some { cls := .none,data := .fields ps }
   exact k a _ (.inl rfl) e
 | met f y =>
   have e:h.get? a=some (jk (.ref f) (.ref y)):=x
   show h'.get? a=some (jk (.ref f) (.ref y))
   exact k a _ (.inl rfl) e
 | ext φ=>obtain⟨p,⟨o,e⟩,st⟩:=x;exact⟨st _ _ p λo q=>k _ _ (.inl rfl) q,⟨o,k _ _ (.inl rfl) e⟩,st⟩
theorem HOk.lt(x:HOk P w H h)(e:H a=some o):a<h.objs.size:=(x a o e).lt
theorem HOk.fresh(x:HOk P w H h)(e:h.objs.size<=a):H a=none:=by
 cases q:H a with
 | none=>rfl
 | some u=>exact absurd (QL (x.lt q) e) (ZI _)
theorem HOk.kept(x:HOk P w H h)(k:∀ b u,h.get? b=some u->h'.get? b=some u):HOk P w H h':=λa o e =>
 (x a o e).stay (λb u _ q=>k b u q) (λ_ q=>q) λ_ _ q=>q
theorem HOk.laid(x:HOk P w H h)(k:∀ b u,h.get? b=some u->h'.get? b=some u)(hp:h.objs.size<=a)(new:ObjOk P w (upd H a o) h' a o):HOk P w (upd H a o) h':=λb u e=>by
 have hn:=x.fresh hp
 by_cases hb:b=a
 ·subst hb;rw[zap] at e;cases e;exact new
 ·rw[zaf hb] at e
  exact(x b u e).stay (λc v _ q=>k c v q) (λc q=>by rw[zaf (zc9 q hn)];exact q) λc xs q=>by rw[zaf (zc9 q hn)];exact q
end
def Rd(H:Hp)(a:Addr)(u:HO):Prop:=H a=some u\/∃ o,H a=some (.frz o u)
theorem Rd.ok{P:Program}{w:World}{H:Hp}{h:Heap}{a:Addr}{u:HO}(r:Rd H a u)(x:HOk P w H h):ObjOk P w H h a u:=by
 rcases r with r|⟨o,r⟩
 ·exact x a u r
 ·obtain⟨_,q⟩:=x a _ r
  exact q
def Mut:Option HO->Prop
 | some (.lst _)=>True
 | some (.dK _)=>True
 | some (.dT _)=>True
 | some (.set _ _)=>True
 | some (.ins _ _ _)=>True
 | some (.ext _)=>True
 | _=>False
section
variable {P : Program} {w : World} {H : Hp} {h h' : Heap} {x e : Addr} {o' : HO}
theorem HOk.write(ok:HOk P w H h)(mu:Mut (H x))(he:e=x\/H e=some (.own x))(k:∀ b u,b ≠ e->h.get? b=some u->h'.get? b=some u)(heo:∃ u,h'.get? e=some u)
 (new:ObjOk P w (upd H x o') h' x o'):HOk P w (upd H x o') h':=λb u q=>by
 have nown:∀ c y,H c=some (.own y)->c ≠ x:=λc y r z=>by subst z;rw[r] at mu;exact mu
 have ntup:∀ c xs,H c=some (.tup xs)->c ≠ x:=λc xs r z=>by subst z;rw[r] at mu;exact mu
 by_cases hb:b=x
 ·subst hb;rw[zap] at q;cases q;exact new
 ·rw[zaf hb] at q
  by_cases hbe:b=e
  ·have q':H b=some (.own x):=by
    rcases he with z|z
    ·exact absurd (hbe.trans z) hb
    ·rw[hbe];exact z
   rw[q] at q';cases q'
   obtain⟨v,hv⟩:=heo
   exact⟨v,by rw[hbe];exact hv⟩
  ·refine(ok b u q).stay (λc v hc r=>k c v ?_ r) (λc r=>by rw[zaf (nown c b r)];exact r) λc xs r=>by rw[zaf (ntup c xs r)];exact r
   rcases hc with rfl|hc
   ·exact hbe
   ·rintro rfl
    rcases he with z|z
    ·exact nown c b hc z
    ·rw[hc] at z;cases z;exact hb rfl
end
structure Un (fs ex:List Addr) (H H':Hp) (h h':Heap):Prop where
 keep:∀ b o,h.get? b=some o->H b=none->b ∉ fs->b ∉ ex->h'.get? b=some o
 slot:∀ b o,h.get? b=some o->H b=none->b ∈ fs->b ∉ ex->∃ sl,h'.get? b=some { o with slots:=sl }
 free:∀ b o,h.get? b=some o->H b=none->b ∉ ex->H' b=none
 there:∀ b o,h.get? b=some o->b ∉ ex->∃ o',h'.get? b=some o'
 tups:∀ b xs,H b=some (.tup xs)->H' b=some (.tup xs)
 frzs:∀ b o u,H b=some (.frz o u)->H' b=some (.frz o u)
 tbls:∀ b ps,H b=some (.tbl ps)->∃ more,H' b=some (.tbl (ps++more))
section
variable {fs fs' ex ex' : List Addr} {H H1 H2 : Hp} {h h1 h2 h' : Heap} {a x e : Addr} {o : HO}
theorem Un.any(u:Un fs ex H H1 h h1){b:Addr}{ob:Obj}(q:h.get? b=some ob)(n:H b=none)(hx:b ∉ ex):∃ sl,h1.get? b=some { ob with slots:=sl }:=by
 by_cases hb:b ∈ fs
 ·exact u.slot b ob q n hb hx
 ·exact⟨ob.slots,u.keep b ob q n hb hx⟩
theorem Un.kept(k:∀ b u,h.get? b=some u->h'.get? b=some u):Un fs ex H H h h' :=
 ⟨λb ob q _ _ _=>k b ob q,λb ob q _ _ _=>⟨ob.slots,k b ob q⟩,λ_ _ _ n _=>n,λb ob q _=>⟨ob,k b ob q⟩,λ_ _ q=>q,λ_ _ _ q=>q,λ_ ps q=>⟨#[],by rw[q];simp⟩⟩
theorem Un.refl:Un fs ex H H h h:=Un.kept λ_ _ q=>q
theorem Un.laid(k:∀ b u,h.get? b=some u->h'.get? b=some u)(hp:h.objs.size<=a)(hn:H a=none):Un fs ex H (upd H a o) h h' where
 keep:=λb u q _ _ _=>k b u q
 slot:=λb u q _ _ _=>⟨u.slots,k b u q⟩
 free:=λb u q n _=>by rw[zaf (Q9 (QL (Qn q) hp))];exact n
 there:=λb u q _=>⟨u,k b u q⟩
 tups:=λb xs q=>by rw[zaf (zc9 q hn)];exact q
 frzs:=λb u xs q=>by rw[zaf (zc9 q hn)];exact q
 tbls:=λb ps q=>⟨#[],by rw[zaf (zc9 q hn),q];simp⟩
theorem Un.write(mu:Mut (H x))(he:e=x\/H e=some (.own x))(k:∀ b u,b ≠ e->h.get? b=some u->h'.get? b=some u)(heo:∃ u,h'.get? e=some u):Un fs ex H (upd H x o) h h':=by
 have hx:∀ b,H b=none->b ≠ x:=λb n z=>by subst z;rw[n] at mu;exact mu
 have hb:∀ b,H b=none->b ≠ e:=λb n z=>by
  subst z
  rcases he with r|r
  ·exact hx b n r
  ·rw[n] at r;cases r
 have hm:∀ b u,H b=some u->¬ Mut (some u)->b ≠ x:=λb u q nm z=>by subst z;rw[q] at mu;exact nm mu
 refine⟨λb u q n _ _=>k b u (hb b n) q,λb u q n _ _=>⟨u.slots,k b u (hb b n) q⟩,λb u q n _=>by rw[zaf (hx b n)];exact n,λb u q _=>?_,
  λb xs q=>by rw[zaf (hm b _ q λz=>z)];exact q,λb u xs q=>by rw[zaf (hm b _ q λz=>z)];exact q,λb ps q=>⟨#[],by rw[zaf (hm b _ q λz=>z),q];simp⟩⟩
 by_cases hbe:b=e
 ·subst hbe;exact heo
 ·exact⟨u,k b u hbe q⟩
end
def trk(h:Heap)(H:Hp):List Addr:=(Yl h.objs.size).filter λa=>(H a).isSome
def hidT(h:Heap)(H:Hp):Heap:=PySem.W.hideAll h (trk h H)
theorem zu0(h:Heap)(H:Hp):(hidT h H).objs.size=h.objs.size:=PySem.W.hideAll_size _ _
theorem zw6{h:Heap}{H:Hp}{b:Addr}{o:Obj}(e:h.get? b=some o)(n:H b=none):(hidT h H).get? b=some o :=
 PySem.W.hideAll_get _ e λhm=>by
  have q:(H b).isSome=true:=(jM.mp hm).2
  rw[n] at q;simp at q
theorem z1h{h:Heap}{H:Hp}{b:Addr}{o:Obj}(e:(hidT h H).get? b=some o):h.get? b=some o/\H b=none:=by
 have e':h.get? b=some o:=PySem.W.of_hideAll (trk h H) e
 refine⟨e',?_⟩
 cases q:H b with
 | none=>rfl
 | some x =>
   have hm:b ∈ trk h H:=jM.mpr ⟨YV.mpr (Qn e'),by simp[q]⟩
   have z:(hidT h H).get? b=none:=PySem.W.hideAll_none (trk h H) hm
   rw[z] at e;cases e
structure Mod (K:Qa) (mg:Str->Option Value) (base:Heap):Prop where
 kin:K.In base
 glob:base.Ns mainGlobals mg
 blt:∃ mb,base.Ns builtinsNs mb/\∀ x:Str,x ≠ "__name__" -> mb x=bootBuiltins x
 nolimit:base.NoLimit
structure Cx where
 prog:Program
 w:World
 K:Qa
 mg:Str->Option Value
 base:Heap
 A:Around
 N:List Str
 s₀:Shared
 H₀:Hp
 env:Env
 outer:List Env
 stack:List Env
 ex:List Addr
 fn:Str->Bool
 calm:Bool
 pn:List (Addr × Obj)
 xe:Value->Shared->Prop
def frs(l:List Env):List Addr:=l.filterMap (·.frame)
abbrev Cx.fs(X:Cx):List Addr:=frs X.outer
def Vis(sc:Scope)(x:Str):Prop:=sc.names.lookup x=some .local\/sc.names.lookup x=some .cell\/sc.names.lookup x=some .free
def Loc(sc:Scope)(x:Str):Prop:=sc.names.lookup x=some .local\/sc.names.lookup x=some .cell
def Look(env:Env)(h:Heap)(m:Str->Option Value)(x:Str)(u:Value):Prop :=
 (env.kindOf x=some .local/\m x=some u)\/((env.kindOf x=some .cell\/env.kindOf x=some .free)/\∃ c,env.cells.lookup x=some c/\h.IsCell c (some u))
structure Cx.Ok (X:Cx):Prop where
 mod:Mod X.K X.mg X.base
 kind:X.env.scope.kind = .function
 glob:X.env.globals=mainGlobals
 blt:X.env.builtins=builtinsNs
 above:X.s₀.heap.objs.size<=X.env.locals
 inj:∀ x y c,X.env.cells.lookup x=some c->X.env.cells.lookup y=some c->x=y
 has:∀ x,(X.env.kindOf x=some .cell\/X.env.kindOf x=some .free)->∃ c,X.env.cells.lookup x=some c
 cab:∀ x c,X.fn x=true->X.env.cells.lookup x=some c->X.s₀.heap.objs.size<=c
 hd:X.calm=true->X.A.handled=none
 frames:X.A.frames=some X.stack
 stk:X.stack=X.outer\/(X.stack=X.env::X.outer/\X.env.frame=some X.env.locals)
 exf:∀ b ∈ X.ex,b ≠ X.env.locals/\∀ x c,X.env.cells.lookup x=some c->c ≠ b
 bs:∀ b o,X.base.get? b=some o->X.s₀.heap.get? b=some o/\X.H₀ b=none
 bsz:X.base.objs.size<=X.s₀.heap.objs.size
 noex:∀ b o,X.base.get? b=some o->b ∉ X.ex
 exfs:∀ b ∈ X.ex,b ∉ X.fs
 funs:X.s₀.heap.FunFrames X.base X.outer
 frf:∀ b ∈ X.fs,X.H₀ b=none
structure Inv (X:Cx) (pins:List (Addr × Obj)) (σ:List (Option V)) (H:Hp) (s:Shared):Prop where
 ok:X.Ok
 os:s.os=X.s₀.os
 bare:AllBare s.gens
 base:Un X.fs X.ex X.H₀ H X.s₀.heap s.heap
 loc:∃ m,s.heap.Ns X.env.locals m/\∀ (i:Nat) (x:Str) (v:V),X.N[i]? = some x->σ[i]? = some (some v)->Vis X.env.scope x->∃ u,RelV v u/\Look X.env s.heap m x u
 cell:∀ x c,X.env.cells.lookup x=some c->∃ v,s.heap.IsCell c v
 free:H X.env.locals=none
 freeC:∀ x c,X.env.cells.lookup x=some c->H c=none
 pin:∀ p ∈ X.pn++pins,s.heap.get? p.1=some p.2/\H p.1=none/\p.1 ≠ X.env.locals/\p.1 ∉ X.fs/\∀ v,p.2.data ≠ .cell v
 hok:HOk X.prog X.w H s.heap
 len:σ.length=X.N.length
section
variable {X : Cx} {pins : List (Addr × Obj)} {σ : List (Option V)} {H H' : Hp} {s : Shared} {h' : Heap}
theorem Cx.Ok.nofr(ok:X.Ok){b:Addr}{o:Obj}(e:X.base.get? b=some o):b ∉ X.fs:=λhb=>by
 have:=(ok.funs.mem hb).1
 rw[e] at this;cases this
theorem Inv.bs(I:Inv X pins σ H s):∀ b o,X.base.get? b=some o->s.heap.get? b=some o/\H b=none:=λb o e =>
 ⟨I.base.keep b o (I.ok.bs b o e).1 (I.ok.bs b o e).2 (I.ok.nofr e) (I.ok.noex b o e),I.base.free b o (I.ok.bs b o e).1 (I.ok.bs b o e).2 (I.ok.noex b o e)⟩
theorem Inv.bk(I:Inv X pins σ H s):∀ b o,X.base.get? b=some o->s.heap.get? b=some o:=λb o e=>(I.bs b o e).1
theorem Inv.mod(I:Inv X pins σ H s):Mod X.K X.mg X.base:=I.ok.mod
theorem Inv.kIn(I:Inv X pins σ H s):X.K.In s.heap:=I.ok.mod.kin.keeps I.bk
theorem Inv.lt(I:Inv X pins σ H s):X.env.locals<s.heap.objs.size:=let ⟨_,hn,_⟩:=I.loc;hn.lt
theorem Inv.sz(I:Inv X pins σ H s):X.s₀.heap.objs.size<=s.heap.objs.size:=Q2 I.ok.above (Jj I.lt)
theorem Inv.nofs(I:Inv X pins σ H s){a:Addr}(h:s.heap.objs.size<=a):a ∉ X.fs:=λhb=>by
 obtain⟨_,o,ho,_⟩:=I.ok.funs.mem hb
 exact absurd (QL (Qn ho) (Q2 I.sz h)) (ZI _)
theorem Inv.cne(I:Inv X pins σ H s):∀ x c,X.env.cells.lookup x=some c->c ≠ X.env.locals:=λx c e z=>by
 obtain⟨v,o,ho,hd⟩:=I.cell x c e
 obtain⟨m,⟨o',es,ep,ho',hd',_⟩,_⟩:=I.loc
 rw[z,ho'] at ho;cases ho;rw[hd'] at hd;cases hd
theorem Inv.funs(I:Inv X pins σ H s):s.heap.FunFrames X.base X.outer:=by
 have all:∀ (l:List Env),(∀ b ∈ frs l,b ∈ X.fs)->X.s₀.heap.FunFrames X.base l->s.heap.FunFrames X.base l:=by
  intro l
  induction l with
  | nil=>intro _ _;trivial
  | cons env r ih =>
    intro hs hl
    obtain⟨hk,⟨L,o,hf,hn,ho,hd⟩,hr⟩:=hl
    have hL:L ∈ X.fs:=hs L (by unfold frs;rw[J1,hf];exact Q8)
    obtain⟨sl,e⟩:=I.base.slot L o ho (I.ok.frf L hL) hL λz=>I.ok.exfs L z hL
    exact⟨hk,⟨L,_,hf,hn,e,hd⟩,ih (λb hb=>hs b (by unfold frs;rw[J1,hf];exact Qj _ hb)) hr⟩
 exact all X.outer (λ_ hb=>hb) I.ok.funs
theorem Inv.stack(I:Inv X pins σ H s):s.heap.FunFrames X.base X.stack:=by
 rcases I.ok.stk with e|⟨e,hf⟩
 ·rw[e];exact I.funs
 ·rw[e]
  obtain⟨m,hn,_⟩:=I.loc
  refine .cons (by rw[I.ok.kind];decide) hf hn ?_ I.funs
  exact Heap.get?_none_of_le (Q2 I.ok.bsz I.ok.above)
theorem Inv.stkSub(I:Inv X pins σ H s):∀ b ∈ frs X.stack,b ∈ X.env.locals::X.fs:=λb hb=>by
 rcases I.ok.stk with e|⟨e,hf⟩
 ·rw[e] at hb;exact Qj _ hb
 ·rw[e] at hb
  unfold frs at hb
  rw[J1,hf] at hb
  exact hb
theorem Inv.stkFree(I:Inv X pins σ H s):∀ b ∈ frs X.stack,H b=none:=λb hb=>by
 rcases Ql.mp (I.stkSub b hb) with e|hb
 ·rw[e];exact I.free
 ·obtain⟨_,o,ho,_⟩:=I.ok.funs.mem hb
  exact I.base.free b o ho (I.ok.frf b hb) λz=>I.ok.exfs b z hb
theorem Inv.step{g':Array GenState}{t':Nat}{d':Drawn}{ch:List Addr}(I:Inv X pins σ H s)
 (hch:∀ b ∈ ch,(b ∈ X.ex\/X.s₀.heap.objs.size<=b)/\b ≠ X.env.locals/\(∀ x c,X.env.cells.lookup x=some c->c ≠ b)/\∀ p ∈ X.pn++pins,p.1 ≠ b)
 (keep:∀ b o,b ≠ X.env.locals->b ∉ X.fs->b ∉ ch->s.heap.get? b=some o->H b=none->h'.get? b=some o)
 (slot:∀ b o,b ≠ X.env.locals->b ∈ X.fs->b ∉ ch->s.heap.get? b=some o->H b=none->∃ sl,h'.get? b=some { o with slots:=sl }) (free:∀ b o,b ∉ ch->s.heap.get? b=some o->H b=none->H' b=none)
 (there:∀ b o,b ∉ ch->s.heap.get? b=some o->∃ o',h'.get? b=some o')
 (tups:∀ b xs,H b=some (.tup xs)->H' b=some (.tup xs)) (frzs:∀ b o u,H b=some (.frz o u)->H' b=some (.frz o u)) (tbls:∀ b ps,H b=some (.tbl ps)->∃ more,H' b=some (.tbl (ps++more)))
 (ns:∀ m,s.heap.Ns X.env.locals m->h'.Ns X.env.locals m) (hok:HOk X.prog X.w H' h') (hg:AllBare g') :
 Inv X pins σ H' { s with heap:=h',gens:=g',drawn:=d',toks:=t' }:=by
 have neL:∀ b o,X.s₀.heap.get? b=some o->b ≠ X.env.locals:=λb o e=>Q9 (QL (Qn e) I.ok.above)
 have neC:∀ b o,X.s₀.heap.get? b=some o->b ∉ X.ex->b ∉ ch:=λb o e hx hb=>by
  rcases(hch b hb).1 with z|z
  ·exact hx z
  ·exact absurd (QL (Qn e) z) (ZI _)
 have cellK:∀ x c,X.env.cells.lookup x=some c->∀ v,s.heap.IsCell c v->h'.IsCell c v:=λx c e v ⟨o,ho,hd⟩=>by
  have nch:c ∉ ch:=λz=>(hch c z).2.2.1 x c e rfl
  by_cases hc:c ∈ X.fs
  ·obtain⟨sl,q⟩:=slot c o (I.cne x c e) hc nch ho (I.freeC x c e)
   exact⟨_,q,hd⟩
  ·exact⟨o,keep c o (I.cne x c e) hc nch ho (I.freeC x c e),hd⟩
 refine⟨I.ok,I.os,hg,⟨λb o e n hb hx=>?_,λb o e n hb hx=>?_,λb o e n hx=>?_,λb o e hx=>?_,λb xs e=>tups b xs (I.base.tups b xs e),λb o xs e=>frzs b o xs (I.base.frzs b o xs e),λb ps e=>?_⟩,?_,λx c e=>?_,?_,λx c e=>?_,λp hp=>?_,hok,I.len⟩
 ·exact keep b o (neL b o e) hb (neC b o e hx) (I.base.keep b o e n hb hx) (I.base.free b o e n hx)
 ·obtain⟨sl,e1⟩:=I.base.slot b o e n hb hx
  obtain⟨sl',e2⟩:=slot b _ (neL b o e) hb (neC b o e hx) e1 (I.base.free b o e n hx)
  exact⟨sl',e2⟩
 ·obtain⟨o',e1⟩:=I.base.there b o e hx
  exact free b o' (neC b o e hx) e1 (I.base.free b o e n hx)
 ·obtain⟨o',e1⟩:=I.base.there b o e hx
  exact there b o' (neC b o e hx) e1
 ·obtain⟨m1,e1⟩:=I.base.tbls b ps e
  obtain⟨m2,e2⟩:=tbls b _ e1
  exact⟨m1++m2,by rw[e2,Array.append_assoc]⟩
 ·obtain⟨m,hn,hl⟩:=I.loc
  refine⟨m,ns m hn,λi x v e1 e2 e3=>?_⟩
  obtain⟨u,r,l⟩:=hl i x v e1 e2 e3
  refine⟨u,r,?_⟩
  rcases l with l|⟨k,c,e,z⟩
  ·exact .inl l
  ·exact .inr ⟨k,c,e,cellK x c e _ z⟩
 ·obtain⟨v,z⟩:=I.cell x c e
  exact⟨v,cellK x c e v z⟩
 ·obtain⟨m,⟨o,_,_,ho,_⟩,_⟩:=I.loc
  exact free _ o (λz=>(hch _ z).2.1 rfl) ho I.free
 ·obtain⟨v,o,ho,hd⟩:=I.cell x c e
  exact free c o (λz=>(hch c z).2.2.1 x c e rfl) ho (I.freeC x c e)
 ·obtain⟨e,n,ne,nf,d⟩:=I.pin p hp
  have nch:p.1 ∉ ch:=λz=>(hch p.1 z).2.2.2 p hp rfl
  exact⟨keep p.1 p.2 ne nf nch e n,free p.1 p.2 nch e n,ne,nf,d⟩
theorem Inv.un{t':Nat}(I:Inv X pins σ H s)(u:Un X.fs [] H H' s.heap h')(hok:HOk X.prog X.w H' h'):Inv X pins σ H' { s with heap:=h',toks:=t' }:=by
 obtain⟨m,⟨o,es,ep,ho,r⟩,_⟩:=id I.loc
 obtain⟨sl,hL⟩:=u.any ho I.free (by simp)
 exact I.step (g':=s.gens) (d':=s.drawn) (ch := []) (λ_ z=>nomatch z) (λb o _ hb _ e n=>u.keep b o e n hb (by simp)) (λb o _ hb _ e n=>u.slot b o e n hb (by simp)) (λb o _ e n=>u.free b o e n (by simp)) (λb o _ e=>u.there b o e (by simp)) u.tups u.frzs u.tbls (λm' hm=>by
  obtain⟨o',es',ep',ho',r'⟩:=hm
  rw[ho] at ho';cases ho'
  exact⟨_,es',ep',hL,r'⟩) hok I.bare
theorem Inv.call{g':Array GenState}{t':Nat}{d':Drawn}{ch:List Addr}(I:Inv X pins σ H s)(u:Un (frs X.stack) ch H H' s.heap h')(hok:HOk X.prog X.w H' h')(hg:AllBare g')
 (hch:∀ b ∈ ch,(b ∈ X.ex\/X.s₀.heap.objs.size<=b)/\b ≠ X.env.locals/\(∀ x c,X.env.cells.lookup x=some c->c ≠ b)/\∀ p ∈ X.pn++pins,p.1 ≠ b) :
 Inv X pins σ H' { s with heap:=h',gens:=g',drawn:=d',toks:=t' }:=by
 obtain⟨m,⟨o,es,ep,ho,r⟩,_⟩:=id I.loc
 obtain⟨sl,hL⟩:=u.any ho I.free λz=>(hch _ z).2.1 rfl
 exact I.step (ch:=ch) hch (λb o hL hb hc e n=>u.keep b o e n (λz=>(Ql.mp (I.stkSub b z)).elim hL hb) hc) (λb o _ _ hc e n=>u.any e n hc) (λb o hc e n=>u.free b o e n hc) (λb o hc e=>u.there b o e hc) u.tups u.frzs u.tbls (λm' hm=>by
  obtain⟨o',es',ep',ho',r'⟩:=hm
  rw[ho] at ho';cases ho'
  exact⟨_,es',ep',hL,r'⟩) hok hg
theorem Inv.turned{t':Nat}{it:Addr}(I:Inv X pins σ H s)(k:∀ b o,b ≠ it->s.heap.get? b=some o->h'.get? b=some o)(hn:H it=none)(hL:it ≠ X.env.locals)
 (h1:it ∈ X.ex\/X.s₀.heap.objs.size<=it) (h2:∀ x c,X.env.cells.lookup x=some c->c ≠ it) (h3:∀ p ∈ X.pn++pins,p.1 ≠ it):Inv X pins σ H { s with heap:=h',toks:=t' }:=by
 have nit:∀ b u,H b=some u->b ≠ it:=λb u e z=>by rw[z,hn] at e;cases e
 refine I.step (g':=s.gens) (d':=s.drawn) (ch := [it]) (λb hb=>?_) (λb o _ _ hc e _=>k b o (λz=>hc (by simp[z])) e) (λb o _ _ hc e _=>⟨o.slots,k b o (λz=>hc (by simp[z])) e⟩) (λ_ _ _ _ n=>n)
  (λb o hc e=>⟨o,k b o (λz=>hc (by simp[z])) e⟩) (λ_ _ e=>e) (λ_ _ _ e=>e) (λb ps e=>⟨#[],by rw[e];simp⟩) (λm hm=>?_) (λb u e=>?_) I.bare
 ·have e:b=it:=by simpa using hb
  subst e
  exact⟨h1,hL,h2,h3⟩
 ·obtain⟨o,es,ep,ho,r⟩:=hm
  exact⟨o,es,ep,k _ o (ZY hL) ho,r⟩
 ·refine(I.hok b u e).stay (λc v hc q=>k c v ?_ q) (λ_ q=>q) λ_ _ q=>q
  rcases hc with z|z
  ·rw[z];exact nit b u e
  ·exact nit c _ z
theorem Inv.tok(I:Inv X pins σ H s)(t:Nat):Inv X pins σ H { s with toks:=t }:=I.un (h':=s.heap) (t':=t) Un.refl I.hok
theorem Inv.kept{t':Nat}(I:Inv X pins σ H s)(k:∀ b u,s.heap.get? b=some u->h'.get? b=some u):Inv X pins σ H { s with heap:=h',toks:=t' }:=I.un (Un.kept k) (I.hok.kept k)
theorem Inv.laid{a:Addr}{o:HO}{t':Nat}(I:Inv X pins σ H s)(k:∀ b u,s.heap.get? b=some u->h'.get? b=some u)(hp:s.heap.objs.size<=a)(new:ObjOk X.prog X.w (upd H a o) h' a o) :
 Inv X pins σ (upd H a o) { s with heap:=h',toks:=t' }:=I.un (Un.laid k hp (I.hok.fresh hp)) (I.hok.laid k hp new)
theorem Inv.write{x e:Addr}{o:HO}{t':Nat}(I:Inv X pins σ H s)(mu:Mut (H x))(he:e=x\/H e=some (.own x))(k:∀ b u,b ≠ e->s.heap.get? b=some u->h'.get? b=some u)(heo:∃ u,h'.get? e=some u)
 (new:ObjOk X.prog X.w (upd H x o) h' x o):Inv X pins σ (upd H x o) { s with heap:=h',toks:=t' }:=I.un (Un.write mu he k heo) (I.hok.write mu he k heo new)
theorem Inv.weak{σ':List (Option V)}(I:Inv X pins σ H s)(hl:σ'.length=σ.length)(w:∀ (i:Nat) v,σ'[i]? = some (some v)->σ[i]? = some (some v)):Inv X pins σ' H s :=
 ⟨I.ok,I.os,I.bare,I.base,let ⟨m,hn,hl'⟩:=I.loc; ⟨m,hn,λi x v e1 e2 e3=>hl' i x v e1 (w i v e2) e3⟩,I.cell,I.free,I.freeC,I.pin,I.hok,hl.trans I.len⟩
theorem Inv.pins_of{pins':List (Addr × Obj)}(I:Inv X pins σ H s)(h:∀ p ∈ pins',s.heap.get? p.1=some p.2/\H p.1=none/\p.1 ≠ X.env.locals/\p.1 ∉ X.fs/\∀ v,p.2.data ≠ .cell v):Inv X pins' σ H s :=
 ⟨I.ok,I.os,I.bare,I.base,I.loc,I.cell,I.free,I.freeC,λp hp=>(Qx.mp hp).elim (λz=>I.pin p (QW _ z)) (h p),I.hok,I.len⟩
theorem zpr{N:List Str}(hN:N.Nodup){i j:Nat}{x:Str}(a:N[i]? = some x)(b:N[j]? = some x):i=j:=by
 obtain⟨h1,e1⟩:=QE.mp a
 obtain⟨h2,e2⟩:=QE.mp b
 exact(qO hN).mp (e1.trans e2.symm)
theorem zma{M:Model}{A:Around}{E:Value->Shared->Prop}{i:Nat}{x:Str}{v:V}{u:Value}{Q:Unit->Shared->Prop}(I:Inv X pins σ H s)(hN:X.N.Nodup)(hi:X.N[i]? = some x)(hx:Loc X.env.scope x)(r:RelV v u)
 (h:∀ s',Inv X pins (σ.set i (some v)) H s'->(∃ a,ZZ a s.heap s'.heap/\(a=X.env.locals\/X.env.cells.lookup x=some a))->Q () s') (hf:X.fn x=true\/X.env.scope.names.lookup x=some .local:=by first|exact .inl rfl|exact .inr rfl|assumption):wpAny M A (storeName X.env x u) Q E s:=by
 obtain⟨m,hn,hl⟩:=id I.loc
 have hcls:(X.env.scope.kind == .class || (X.env.scope.kind == .module && X.env.locals != X.env.globals))=false:=by rw[I.ok.kind];rfl
 have hiσ:i<σ.length:=by rw[I.len];exact(QE.mp hi).1
 have cne:=I.cne
 have tracked:∀ {a:Addr} {h':Heap},(∃ o,s.heap.get? a=some o/\H a=none)->ZZ a s.heap h'->HOk X.prog X.w H h':=λ{a h'} ha hs b ob e=>by
  obtain⟨_,_,hfree⟩:=ha
  refine(I.hok b ob e).stay (λc w' hc q=>(hs.2 c ?_).trans q) (λ_ q=>q) λ_ _ q=>q
  rintro rfl
  rcases hc with rfl|hc
  ·rw[hfree] at e;cases e
  ·rw[hfree] at hc;cases hc
 rcases hx with hk|hk
 ·refine wpAny_storeName_local hk hn (λh' hn' hs=>?_) hcls
  obtain⟨oL,_,_,hoL,_⟩:=id hn
  refine h _ ⟨I.ok,I.os,I.bare,⟨λb o e n hb hx=>?_,λb o e n hb hx=>?_,I.base.free,λb o e hx=>?_,I.base.tups,I.base.frzs,I.base.tbls⟩,⟨_,hn',λj y v' e1 e2 e3=>?_⟩,λy c e=>?_,I.free,I.freeC,λp hp=>?_,tracked ⟨oL,hoL,I.free⟩ hs,by simpa using I.len⟩ ⟨_,hs,.inl rfl⟩
  ·exact(hs.2 b (Q9 (QL (Qn e) I.ok.above))).trans (I.base.keep b o e n hb hx)
  ·obtain⟨sl,e1⟩:=I.base.slot b o e n hb hx
   exact⟨sl,(hs.2 b (Q9 (QL (Qn e) I.ok.above))).trans e1⟩
  ·obtain⟨o',e1⟩:=I.base.there b o e hx
   exact⟨o',(hs.2 b (Q9 (QL (Qn e) I.ok.above))).trans e1⟩
  ·by_cases hj:j=i
   ·subst hj
    rw[hi] at e1;cases e1
    rw[QG hiσ] at e2
    cases e2
    exact⟨u,r,.inl ⟨hk,by simp⟩⟩
   ·rw[QF (ZY hj)] at e2
    obtain⟨u',r',q⟩:=hl j y v' e1 e2 e3
    refine⟨u',r',?_⟩
    rcases q with ⟨k,e⟩|⟨k,c,e,z⟩
    ·refine .inl ⟨k,?_⟩
     have:y ≠ x:=λe=>hj (zpr hN e1 (e ▸ hi))
     simp[this,e]
    ·exact .inr ⟨k,c,e,z.sameBut hs (cne y c e)⟩
  ·obtain⟨w',z⟩:=I.cell y c e
   exact⟨w',z.sameBut hs (cne y c e)⟩
  ·obtain⟨e,n,ne,nf,d⟩:=I.pin p hp
   exact⟨(hs.2 p.1 ne).trans e,n,ne,nf,d⟩
 ·have hfn:X.fn x=true:=by
   rcases hf with z|z
   ·exact z
   ·rw[z] at hk;cases hk
  obtain⟨c,hc⟩:=I.ok.has x (.inl hk)
  obtain⟨w',z⟩:=I.cell x c hc
  refine wpAny_storeName_cell I.ok.kind hk hc z (λh' hc' hs=>?_)
  obtain⟨oc,hoc,hocd⟩:=id z
  refine h { s with heap:=h' } ⟨I.ok,I.os,I.bare,⟨λb o e n hb hx=>?_,λb o e n hb hx=>?_,I.base.free,λb o e hx=>?_,I.base.tups,I.base.frzs,I.base.tbls⟩,⟨m,hn.sameBut hs (ZY (cne x c hc)),λj y v' e1 e2 e3=>?_⟩,λy c' e=>?_,I.free,I.freeC,λp hp=>?_,tracked ⟨oc,hoc,I.freeC x c hc⟩ hs,by simpa using I.len⟩ ⟨c,hs,.inr hc⟩
  ·exact(hs.2 b (Q9 (QL (Qn e) (I.ok.cab x c hfn hc)))).trans (I.base.keep b o e n hb hx)
  ·obtain⟨sl,e1⟩:=I.base.slot b o e n hb hx
   exact⟨sl,(hs.2 b (Q9 (QL (Qn e) (I.ok.cab x c hfn hc)))).trans e1⟩
  ·obtain⟨o',e1⟩:=I.base.there b o e hx
   exact⟨o',(hs.2 b (Q9 (QL (Qn e) (I.ok.cab x c hfn hc)))).trans e1⟩
  ·by_cases hj:j=i
   ·subst hj
    rw[hi] at e1;cases e1
    rw[QG hiσ] at e2
    cases e2
    exact⟨u,r,.inr ⟨.inl hk,c,hc,hc'⟩⟩
   ·rw[QF (ZY hj)] at e2
    obtain⟨u',r',q⟩:=hl j y v' e1 e2 e3
    refine⟨u',r',?_⟩
    rcases q with q|⟨k,c',e,z'⟩
    ·exact .inl q
    ·refine .inr ⟨k,c',e,z'.sameBut hs ?_⟩
     rintro rfl
     exact hj (zpr hN e1 (I.ok.inj _ _ _ e hc ▸ hi))
  ·by_cases hcc:c'=c
   ·subst hcc;exact⟨_,hc'⟩
   ·obtain⟨w2,z2⟩:=I.cell y c' e
    exact⟨w2,z2.sameBut hs hcc⟩
  ·obtain⟨e,n,ne,nf,d⟩:=I.pin p hp
   refine⟨(hs.2 p.1 ?_).trans e,n,ne,nf,d⟩
   intro q
   rw[q,hoc] at e
   have q':oc=p.2:=Zy e
   exact d w' (by rw[<- q'];exact hocd)
theorem zgd{M:Model}{A:Around}{E:Value->Shared->Prop}{i:Nat}{x:Str}{v:V}{u:Value}{Q:Unit->Shared->Prop}(I:Inv X pins σ H s)(hN:X.N.Nodup)(hi:X.N[i]? = some x)(hx:Loc X.env.scope x)(r:RelV v u)
 (h:∀ s',Inv X pins (σ.set i (some v)) H s'->Q () s') (hf:X.fn x=true\/X.env.scope.names.lookup x=some .local:=by first|exact .inl rfl|exact .inr rfl|assumption):wpAny M A (storeName X.env x u) Q E s :=
 zma I hN hi hx r (λs' I' _=>h s' I') hf
theorem Inv.call'{s':Shared}{ch:List Addr}(I:Inv X pins σ H s)(ho:s'.os=s.os)(u:Un (frs X.stack) ch H H' s.heap s'.heap)(hok:HOk X.prog X.w H' s'.heap)(hg:AllBare s'.gens)
 (hch:∀ b ∈ ch,(b ∈ X.ex\/X.s₀.heap.objs.size<=b)/\b ≠ X.env.locals/\(∀ x c,X.env.cells.lookup x=some c->c ≠ b)/\∀ p ∈ X.pn++pins,p.1 ≠ b):Inv X pins σ H' s':=by
 obtain⟨h',g',d',t',o'⟩:=s'
 have e:o'=s.os:=ho
 subst e
 exact I.call (g':=g') (t':=t') (d':=d') u hok hg hch
end
abbrev XK:=Value->Option Addr->Hp->Prop
abbrev St:=List (Option V)
abbrev VK:=V->Hp->Prop
abbrev TE:=St->Hp->VK->Prop
abbrev TT:=St->Hp->(Bool->Hp->Prop)->Prop
abbrev TA:=St->Hp->(List V->Hp->Prop)->Prop
structure Ends where
 nx:St->Hp->Prop
 rt:VK
 bk:St->Hp->Prop:=λ_ _=>False
 ct:St->Hp->Prop:=λ_ _=>False
abbrev TS:=Ends->St->Hp->Prop
def EP(X:Cx)(pins:List (Addr × Obj))(σ:St)(Q:VK)(u:Value)(s':Shared):Prop:=∃ v H',Inv X pins σ H' s'/\RelV v u/\Q v H'
def TP(X:Cx)(pins:List (Addr × Obj))(σ:St)(Q:Bool->Hp->Prop)(b:Bool)(s':Shared):Prop:=∃ H',Inv X pins σ H' s'/\Q b H'
def AP(X:Cx)(pins:List (Addr × Obj))(σ:St)(Q:List V->Hp->Prop)(us:List Value)(s':Shared):Prop:=∃ vs H',Inv X pins σ H' s'/\Vals vs us/\Q vs H'
def SP(X:Cx)(pins:List (Addr × Obj))(D:Ends)(f:Flow)(s':Shared):Prop :=
 match f with
 | .next=>∃ σ' H',Inv X pins σ' H' s'/\D.nx σ' H'
 | .brk=>∃ σ' H',Inv X pins σ' H' s'/\D.bk σ' H'
 | .cont=>∃ σ' H',Inv X pins σ' H' s'/\D.ct σ' H'
 | .ret u=>∃ v σ' H',Inv X pins σ' H' s'/\RelV v u/\D.rt v H'
def PE(X:Cx)(e:Expr)(t:TE):Prop :=
 ∀ (pins:List (Addr × Obj)) (s:Shared) (σ:St) (H:Hp) (Q:VK),Inv X pins σ H s->t σ H Q->wpAny (model X.prog X.w) X.A (eval e X.env) (EP X pins σ Q) X.xe s
def PT(X:Cx)(e:Expr)(t:TT):Prop :=
 ∀ (pins:List (Addr × Obj)) (s:Shared) (σ:St) (H:Hp) (Q:Bool->Hp->Prop),Inv X pins σ H s->t σ H Q->wpAny (model X.prog X.w) X.A (isTrue e X.env (eval e X.env)) (TP X pins σ Q) X.xe s
def PW(X:Cx)(e:Expr)(t:TT):Prop :=
 ∀ (whole:Sem Value) (pins:List (Addr × Obj)) (s:Shared) (σ:St) (H:Hp) (Q:Bool->Hp->Prop),Inv X pins σ H s->t σ H Q->wpAny (model X.prog X.w) X.A (isTrue e X.env whole) (TP X pins σ Q) X.xe s
theorem PW.pt{X:Cx}{e:Expr}{t:TT}(h:PW X e t):PT X e t:=h _
def PA(X:Cx)(es:List Expr)(t:TA):Prop :=
 ∀ (pos:Pos) (pins:List (Addr × Obj)) (s:Shared) (σ:St) (H:Hp) (Q:List V->Hp->Prop),Inv X pins σ H s->t σ H Q->wpAny (model X.prog X.w) X.A (spliced (backTo pos (starEach es X.env))) (AP X pins σ Q) X.xe s
def PS(X:Cx)(st:Stmt)(t:TS):Prop :=
 ∀ (pins:List (Addr × Obj)) (s:Shared) (σ:St) (H:Hp) (D:Ends),Inv X pins σ H s->t D σ H->wpAny (model X.prog X.w) X.A (exec st X.env) (SP X pins D) X.xe s
def PSs(X:Cx)(st:List Stmt)(t:TS):Prop :=
 ∀ (pins:List (Addr × Obj)) (s:Shared) (σ:St) (H:Hp) (D:Ends),Inv X pins σ H s->t D σ H->wpAny (model X.prog X.w) X.A (execs st X.env) (SP X pins D) X.xe s
theorem thn{α:Type}{t:Sem α}{Q Q':α->Shared->Prop}{M:Model}{A:Around}{E:Value->Shared->Prop}{s:Shared}(h:wpAny M A t Q E s)(hQ:∀ a s,Q a s->Q' a s):wpAny M A t Q' E s:=wpAny_mono h hQ λ_ _ x=>x
section
variable {X : Cx}
def tVar(i:Nat):TE:=λσ H Q=>∃ v,σ[i]? = some (some v)/\Q v H
def tC(v:V):TE:=λ_ H Q=>Q v H
theorem zaq{i:Nat}{x:Str}{pos:Pos}(hN:X.N[i]? = some x)(hv:Vis X.env.scope x)(hd:(x == ("__debug__" : Str))=false:=by decide)(hcd:(x == ("__classdict__" : Str))=false:=by decide):PE X (.Name x pos) (tVar i):=by
 intro pins s σ H Q I h
 obtain⟨v,e,h⟩:=h
 obtain⟨m,hn,hl⟩:=I.loc
 obtain⟨u,r,l⟩:=hl i x v hN e hv
 have fin:EP X pins σ Q u s:=⟨v,H,I,r,h⟩
 rcases l with ⟨hk,hm⟩|⟨hk,c,hc,hcell⟩
 ·exact wpAny_Name (wpAny_loadName_local I.ok.kind hk hn hm fin) hd
 ·rcases hk with hk|hk
  ·exact wpAny_Name (wpAny_loadName_cell I.ok.kind hk hc hcell fin) hd
  ·exact wpAny_Name (wpAny_loadName_free I.ok.kind hk hc hcell fin hcd) hd
theorem zau{i j pos}:PE X (.Constant (.int i) j pos) (tC (.int i)):=λ_ _ _ H _ I h=>wpAny_Constant_int ⟨.int i,H,I.tok _,⟨_,rfl⟩,h⟩
theorem ybz{b j pos}:PE X (.Constant (.bool b) j pos) (tC (.bl b)):=λ_ _ _ H _ I h=>Constant_bool ⟨.bl b,H,I,rfl,h⟩
theorem yal{j pos}:PE X (.Constant .none j pos) (tC .non):=λ_ _ _ H _ I h=>Constant_none ⟨.non,H,I,rfl,h⟩
theorem z8m{x j pos}:PE X (.Constant (.str x) j pos) (tC (.str x)):=λ_ _ _ H _ I h=>Calls.Constant_str ⟨.str x,H,I.tok _,⟨_,rfl⟩,h⟩
def Gl(X:Cx)(x:Str):Prop:=X.env.kindOf x=some .globalImplicit
theorem zdg{E:Value->Shared->Prop}{pins:List (Addr × Obj)}{s:Shared}{σ:St}{H:Hp}{x:Str}{u:Value}{pos:Pos}{Q:Value->Shared->Prop}(I:Inv X pins σ H s)(hg:Gl X x)(hm:X.mg x=some u)(h:Q u s)
 (hd:(x == ("__debug__" : Str))=false:=by decide):wpAny (model X.prog X.w) X.A (eval (.Name x pos) X.env) Q E s :=
 YW I.ok.kind hg (Calls.loadGlobal_global (by rw[I.ok.glob];exact I.mod.glob.keeps I.bk) hm h) hd
theorem zcf{E:Value->Shared->Prop}{pins:List (Addr × Obj)}{s:Shared}{σ:St}{H:Hp}{x:Str}{u:Value}{pos:Pos}{Q:Value->Shared->Prop}(I:Inv X pins σ H s)(hg:Gl X x)(hm:X.mg x=none)(hv:bootBuiltins x=some u)(h:Q u s)
 (hn:x ≠ "__name__" := by decide) (hd:(x == ("__debug__" : Str))=false:=by decide):wpAny (model X.prog X.w) X.A (eval (.Name x pos) X.env) Q E s:=by
 obtain⟨mb,h1,h2⟩:=I.mod.blt
 exact YW I.ok.kind hg (Calls.loadGlobal_builtin (by rw[I.ok.glob];exact I.mod.glob.keeps I.bk) hm (by rw[I.ok.blt];exact h1.keeps I.bk) ((h2 x hn).trans hv) h) hd
theorem z4t{x:Str}{v:V}{u:Value}{pos:Pos}(hg:Gl X x)(hm:X.mg x=some u)(r:RelV v u)(hd:(x == ("__debug__" : Str))=false:=by decide):PE X (.Name x pos) (tC v) :=
 λ_ _ _ H _ I h=>zdg I hg hm ⟨v,H,I,r,h⟩ hd
variable {a b : Expr} {ta tb : TE} {pos : Pos}
def PC(X:Cx)(op:CmpOp)(a b:Expr)(t:TE):Prop :=
 ∀ (pins:List (Addr × Obj)) (s:Shared) (σ:St) (H:Hp) (Q:VK),Inv X pins σ H s->t σ H Q ->
   wpAny (model X.prog X.w) X.A (eval a X.env) (λv s₁=>wpAny (model X.prog X.w) X.A (eval b X.env) (λu s₂=>wpAny (model X.prog X.w) X.A (compareOp op v u) (EP X pins σ Q) X.xe s₂) X.xe s₁) X.xe s
def tB(t:TE):TT:=λσ H Q=>t σ H λx H1=>∃ c,x = .bl c/\Q c H1
theorem z8c{op:CmpOp}{t:TE}(h:PC X op a b t)(h1:behindInMarks op b=false:=by first|exact nobehind _ (by decide) (by decide)|rfl):PT X (.Compare a [op] [b] pos) (tB t):=by
 intro pins s σ H Q I hw
 refine wpAny_isTrue_Compare1 (thn (h pins s σ H _ I hw) λv s1 h1=>thn h1 λu s2 h2=>thn h2 λc s3 ⟨x,H1,I1,r1,q1⟩=>?_) h1
 obtain⟨d,rfl,q⟩:=q1
 cases r1
 exact wpAny_truthy_bool ⟨H1,I1,q⟩
theorem yay{e:Expr}{t:TE}(h:PE X e t)(he:∀ whole,isTrue e X.env whole=(do let v <- whole;standAt e.pos;holding [v] (truthy v)):=by intro _;rfl):PT X e (tB t):=by
 intro pins s σ H Q I hw
 refine isTrue_plain (thn (h pins s σ H _ I hw) λv s1 ⟨x,H1,I1,r1,q1⟩=>?_) (he _)
 obtain⟨d,rfl,q⟩:=q1
 cases r1
 exact wpAny_truthy_bool ⟨H1,I1,q⟩
variable {tA tB' : TT} {rest : List Expr}
def tAnd(t u:TT):TT:=λσ H Q=>t σ H λc H1=>if c=true then u σ H1 Q else Q false H1
def tOr(t u:TT):TT:=λσ H Q=>t σ H λc H1=>if c=true then Q true H1 else u σ H1 Q
def tNot(t:TT):TT:=λσ H Q=>t σ H λc H1=>Q (!c) H1
theorem z2u(ha:PT X a tA):PW X (.BoolOp .And [a] pos) tA:=by
 intro wh pins s σ H Q I h
 refine isTrue_and (thn (ha pins s σ H Q I h) λc s1 e=>?_)
 cases c with
 | true=>exact isTrue_and_nil e
 | false=>exact e
theorem z9u(ha:PT X a tA):PW X (.BoolOp .Or [a] pos) tA:=by
 intro wh pins s σ H Q I h
 refine isTrue_or (thn (ha pins s σ H Q I h) λc s1 e=>?_)
 cases c with
 | false=>exact isTrue_or_nil e
 | true=>exact e
theorem z6t(ha:PT X a tA)(hb:PW X (.BoolOp .And (b::rest) pos) tB'):PW X (.BoolOp .And (a::b::rest) pos) (tAnd tA tB'):=by
 intro wh pins s σ H Q I h
 refine isTrue_and (thn (ha pins s σ H _ I h) λc s1 ⟨H1,I1,q1⟩=>?_)
 cases c with
 | true=>exact hb wh pins s1 σ H1 Q I1 q1
 | false=>exact⟨H1,I1,q1⟩
theorem ycb(ha:PT X a tA)(hb:PW X (.BoolOp .Or (b::rest) pos) tB'):PW X (.BoolOp .Or (a::b::rest) pos) (tOr tA tB'):=by
 intro wh pins s σ H Q I h
 refine isTrue_or (thn (ha pins s σ H _ I h) λc s1 ⟨H1,I1,q1⟩=>?_)
 cases c with
 | true=>exact⟨H1,I1,q1⟩
 | false=>exact hb wh pins s1 σ H1 Q I1 q1
theorem z7t(ha:PT X a tA):PT X (.UnaryOp .Not a pos) (tNot tA):=by
 intro pins s σ H Q I h
 exact isTrue_not (ha pins s σ H (λc H1=>Q (!c) H1) I h)
def z0h(ta tb:TE):TE:=λσ H Q=>ta σ H λx H1=>∃ c,x = .bl c/\if c=true then tb σ H1 Q else Q (.bl false) H1
def tOrV(ta tb:TE):TE:=λσ H Q=>ta σ H λx H1=>∃ c,x = .bl c/\if c=true then Q (.bl true) H1 else tb σ H1 Q
theorem z7z{op}{t:TE}(h:PE X a t):PE X (.BoolOp op [a] pos) t:=λpins s σ H Q I hw=>BoolOp_one (h pins s σ H Q I hw)
theorem z8g(ha:PE X a ta)(hb:PE X (.BoolOp .And (b::rest) pos) tb):PE X (.BoolOp .And (a::b::rest) pos) (z0h ta tb):=by
 intro pins s σ H Q I h
 refine BoolOp_and (thn (ha pins s σ H _ I h) λv s1 ⟨x,H1,I1,r1,q1⟩=>?_)
 obtain⟨c,rfl,q1⟩:=q1
 cases r1
 refine wpAny_truthy_bool ?_
 cases c with
 | true=>exact hb pins s1 σ H1 Q I1 q1
 | false=>exact⟨.bl false,H1,I1,rfl,q1⟩
theorem ybj(ha:PE X a ta)(hb:PE X (.BoolOp .Or (b::rest) pos) tb):PE X (.BoolOp .Or (a::b::rest) pos) (tOrV ta tb):=by
 intro pins s σ H Q I h
 refine BoolOp_or (thn (ha pins s σ H _ I h) λv s1 ⟨x,H1,I1,r1,q1⟩=>?_)
 obtain⟨c,rfl,q1⟩:=q1
 cases r1
 refine wpAny_truthy_bool ?_
 cases c with
 | false=>exact hb pins s1 σ H1 Q I1 q1
 | true=>exact⟨.bl true,H1,I1,rfl,q1⟩
def tIf(t:TT)(ta tb:TE):TE:=λσ H Q=>t σ H λc H1=>if c=true then ta σ H1 Q else tb σ H1 Q
theorem zyi{c:Expr}(hc:PT X c tA)(ha:PE X a ta)(hb:PE X b tb):PE X (.IfExp c a b pos) (tIf tA ta tb):=by
 intro pins s σ H Q I h
 refine wpAny_IfExp (thn (hc pins s σ H _ I h) λd s1 ⟨H1,I1,q1⟩=>?_)
 cases d with
 | true=>exact ha pins s1 σ H1 Q I1 q1
 | false=>exact hb pins s1 σ H1 Q I1 q1
end
def SqL(K:Qa)(H:Hp)(a:Addr)(xs:List V):Prop :=
 Rd H a (.lst xs) \/
  ∃ (o:Obj) (its:Array Value) (n:Nat),K.lookup a=some o/\o.cls = .type "list" /\ o.dict=none/\o.data = .seq its n/\its.size<=sizeLine/\Vals xs its.toList
def SqT(K:Qa)(H:Hp)(a:Addr)(xs:List V):Prop :=
 Rd H a (.tup xs) \/
  ∃ (o:Obj) (its:Array Value) (n:Nat),K.lookup a=some o/\o.cls = .type "tuple" /\ o.data = .seq its n/\its.size<=sizeLine/\Vals xs its.toList
def absV:Value->Option V
 | .none=>some .non
 | .bool b=>some (.bl b)
 | .int i _=>some (.int i)
 | .str x _=>some (.str x)
 | .bytes b _=>some (.byt b)
 | .float b _=>some (.flt b)
 | .ref a=>some (.ref a)
 | .type n=>some (.ty n)
 | _=>none
theorem RelV.abs{x:V}{u:Value}(r:RelV x u):absV u=some x:=by
 cases x with
 | non=>cases r;rfl
 | bl _=>cases r;rfl
 | int _=>obtain⟨t,rfl⟩:=r;rfl
 | str _=>obtain⟨t,rfl⟩:=r;rfl
 | byt _=>obtain⟨t,rfl⟩:=r;rfl
 | flt _=>obtain⟨t,rfl⟩:=r;rfl
 | ref _=>cases r;rfl
 | ty _=>cases r;rfl
theorem RelV.inj{x y:V}{u:Value}(r:RelV x u)(q:RelV y u):x=y:=Zy (r.abs.symm.trans q.abs)
theorem Vals.inj:∀ {xs ys:List V} {us:List Value},Vals xs us->Vals ys us->xs=ys
 | _,_,_,.nil,.nil=>rfl
 | _,_,_,.cons r t,.cons r' t'=>by rw[r.inj r',Vals.inj t t']
section
variable {X : Cx} {pins : List (Addr × Obj)} {σ : St} {H : Hp} {s : Shared} {a : Addr} {xs ys : List V}
theorem SqL.of{K:Qa}(h:H a=some (.lst xs)):SqL K H a xs := .inl (.inl h)
theorem SqT.of{K:Qa}(h:H a=some (.tup xs)):SqT K H a xs := .inl (.inl h)
theorem Inv.list(I:Inv X pins σ H s)(h:SqL X.K H a xs):∃ its:List Value,Vals xs its/\PlainL s.heap a its.toArray/\xs.length<=sizeLine:=by
 rcases h with h|⟨o,its,n,hk,hc,hd,hs,hz,r⟩
 ·obtain⟨z,its,n,r,e⟩:=h.ok I.hok
  exact⟨its,r,⟨_,n,e,rfl,rfl,rfl⟩,z⟩
 ·refine⟨its.toList,r,⟨o,n,I.kIn a o hk,hc,hd,by simpa using hs⟩,?_⟩
  have e:=r.length
  simp only[Ja] at e
  omega
theorem Inv.tuple(I:Inv X pins σ H s)(h:SqT X.K H a xs):∃ its:List Value,Vals xs its/\IsTup s.heap a its.toArray/\xs.length<=sizeLine:=by
 rcases h with h|⟨o,its,n,hk,hc,hs,hz,r⟩
 ·obtain⟨z,its,r,p⟩:=h.ok I.hok
  exact⟨its,r,p,z⟩
 ·refine⟨its.toList,r,⟨o,I.kIn a o hk,hc,n,by simpa using hs⟩,?_⟩
  have e:=r.length
  simp only[Ja] at e
  omega
theorem Inv.list_inj(I:Inv X pins σ H s)(h:SqL X.K H a xs)(h':SqL X.K H a ys):xs=ys:=by
 obtain⟨its,r,⟨o,n,e,_,_,d⟩,_⟩:=I.list h
 obtain⟨its',r',⟨o',n',e',_,_,d'⟩,_⟩:=I.list h'
 rw[e] at e';cases e'
 rw[d] at d'
 injection d' with d1 _
 have:its=its':=by simpa using congrArg zD d1
 subst this
 exact r.inj r'
theorem Inv.tuple_inj(I:Inv X pins σ H s)(h:SqT X.K H a xs)(h':SqT X.K H a ys):xs=ys:=by
 obtain⟨its,r,⟨o,e,_,n,d⟩,_⟩:=I.tuple h
 obtain⟨its',r',⟨o',e',_,n',d'⟩,_⟩:=I.tuple h'
 rw[e] at e';cases e'
 rw[d] at d'
 injection d' with d1 _
 have:its=its':=by simpa using congrArg zD d1
 subst this
 exact r.inj r'
end
abbrev Cx.wish(X:Cx)(E:Value->Shared->Prop):Cx:={ X with xe:=E }
abbrev Cx.nox(X:Cx):Cx:=X.wish λ_ _=>False
theorem Cx.Ok.wish{X:Cx}(ok:X.Ok)(E:Value->Shared->Prop):(X.wish E).Ok :=
 ⟨ok.mod,ok.kind,ok.glob,ok.blt,ok.above,ok.inj,ok.has,ok.cab,ok.hd,ok.frames,ok.stk,ok.exf,ok.bs,ok.bsz,ok.noex,ok.exfs,ok.funs,ok.frf⟩
theorem Cx.Ok.unwish{X:Cx}{E:Value->Shared->Prop}(ok:(X.wish E).Ok):X.Ok :=
 ⟨ok.mod,ok.kind,ok.glob,ok.blt,ok.above,ok.inj,ok.has,ok.cab,ok.hd,ok.frames,ok.stk,ok.exf,ok.bs,ok.bsz,ok.noex,ok.exfs,ok.funs,ok.frf⟩
section
variable {X : Cx} {pins : List (Addr × Obj)} {σ : St} {H : Hp} {s : Shared} {E : Value → Shared → Prop}
theorem Inv.wish(I:Inv X pins σ H s)(E:Value->Shared->Prop):Inv (X.wish E) pins σ H s:=⟨I.ok.wish E,I.os,I.bare,I.base,I.loc,I.cell,I.free,I.freeC,I.pin,I.hok,I.len⟩
theorem Inv.unwish(I:Inv (X.wish E) pins σ H s):Inv X pins σ H s:=⟨I.ok.unwish,I.os,I.bare,I.base,I.loc,I.cell,I.free,I.freeC,I.pin,I.hok,I.len⟩
theorem SP.unwish{D:Ends}{f:Flow}{s':Shared}(h:SP (X.wish E) pins D f s'):SP X pins D f s':=by
 cases f with
 | next=>obtain⟨σ',H',I,q⟩:=h;exact⟨σ',H',I.unwish,q⟩
 | brk=>obtain⟨σ',H',I,q⟩:=h;exact⟨σ',H',I.unwish,q⟩
 | cont=>obtain⟨σ',H',I,q⟩:=h;exact⟨σ',H',I.unwish,q⟩
 | ret u=>obtain⟨v,σ',H',I,r,q⟩:=h;exact⟨v,σ',H',I.unwish,r,q⟩
theorem PE.nox{e:Expr}{t:TE}(h:PE X.nox e t):PE X e t:=λpins s σ H Q I hw =>
 wpAny_mono (h pins s σ H Q (I.wish _) hw) (λ_ _ ⟨v,H',I',r,q⟩=>⟨v,H',I'.unwish,r,q⟩) λ_ _ z=>Z3 z
theorem PT.nox{e:Expr}{t:TT}(h:PT X.nox e t):PT X e t:=λpins s σ H Q I hw =>
 wpAny_mono (h pins s σ H Q (I.wish _) hw) (λ_ _ ⟨H',I',q⟩=>⟨H',I'.unwish,q⟩) λ_ _ z=>Z3 z
theorem PSs.nox{st:List Stmt}{t:TS}(h:PSs X.nox st t):PSs X st t:=λpins s σ H D I hw =>
 wpAny_mono (h pins s σ H D (I.wish _) hw) (λ_ _ q=>q.unwish) λ_ _ z=>Z3 z
end
section
variable {X : Cx} {st : Stmt} {rest : List Stmt} {t u : TS} {e : Expr} {te : TE} {pos : Pos}
def zjz:TS:=λD σ H=>D.nx σ H
def tSeq(t u:TS):TS:=λD σ H=>t { D with nx:=u D } σ H
theorem zi1:PSs X [] zjz:=λ_ _ σ H _ I h=>wpAny_execs_nil ⟨σ,H,I,h⟩
theorem zbo(h1:PS X st t)(h2:PSs X rest u):PSs X (st::rest) (tSeq t u):=by
 intro pins s σ H D I h
 refine wpAny_execs_cons (thn (h1 pins s σ H { D with nx:=u D } I h) λf s1 q=>?_)
 cases f with
 | next =>
   obtain⟨σ',H',I',q⟩:=q
   exact h2 pins s1 σ' H' D I' q
 | ret v=>exact q
 | brk=>exact q
 | cont=>exact q
theorem zdq(h1:PS X st t):PSs X [st] t:=by
 intro pins s σ H D I h
 refine wpAny_execs_cons (thn (h1 pins s σ H D I h) λf s1 q=>?_)
 cases f with
 | next=>exact wpAny_execs_nil q
 | ret v=>exact q
 | brk=>exact q
 | cont=>exact q
theorem Inv.quiet{pins:List (Addr × Obj)}{σ:St}{H:Hp}{s:Shared}(I:Inv X pins σ H s):interactive X.env=false:=by simp[interactive,I.ok.kind]
def zhn(te:TE):TS:=λD σ H=>te σ H λ_ H1=>D.nx σ H1
theorem zlc(he:PE X e te)(hs:swapsWith e none pos.line X.env=pure false:=by rfl):PS X (.Expr e pos) (zhn te):=by
 intro pins s σ H D I h
 exact wpAny_Expr_any (thn (he pins s σ H _ I h) λv s1 ⟨x,H1,I1,r1,q1⟩=>⟨σ,H1,I1,q1⟩) I.quiet hs
def tRet(te:TE):TS:=λD σ H=>te σ H D.rt
theorem zg4(he:PE X e te):PS X (.Return (some e) pos) (tRet te):=by
 intro pins s σ H D I h
 exact wpAny_Return_some (thn (he pins s σ H _ I h) λv s1 ⟨x,H1,I1,r1,q1⟩=>⟨x,σ,H1,I1,r1,q1⟩)
def tIfS(c:TT)(t u:TS):TS:=λD σ H=>c σ H λb H1=>if b=true then t D σ H1 else u D σ H1
theorem zi4{c:Expr}{a b:List Stmt}{tc:TT}(hc:PT X c tc)(ha:PSs X a t)(hb:PSs X b u):PS X (.If c a b pos) (tIfS tc t u):=by
 intro pins s σ H D I h
 refine wpAny_If (thn (hc pins s σ H _ I h) λd s1 ⟨H1,I1,q1⟩=>?_)
 cases d with
 | true=>exact ha pins s1 σ H1 D I1 q1
 | false=>exact hb pins s1 σ H1 D I1 q1
end
abbrev TG:=V->St->Hp->(St->Hp->Prop)->Prop
abbrev TGs:=List V->St->Hp->(St->Hp->Prop)->Prop
def PG(X:Cx)(target:Expr)(t:TG):Prop :=
 ∀ (pins:List (Addr × Obj)) (s:Shared) (σ:St) (H:Hp) (v:V) (u:Value) (Q:St->Hp->Prop),Inv X pins σ H s->RelV v u->t v σ H Q ->
   wpAny (model X.prog X.w) X.A (assign target X.env u) (λ_ s'=>∃ σ' H',Inv X pins σ' H' s'/\Q σ' H') X.xe s
def PGs(X:Cx)(ts:List Expr)(t:TGs):Prop :=
 ∀ (pins:List (Addr × Obj)) (s:Shared) (σ:St) (H:Hp) (vs:List V) (us:List Value) (Q:St->Hp->Prop),Inv X pins σ H s->Vals vs us->t vs σ H Q ->
   wpAny (model X.prog X.w) X.A (assignInOrder ((assignEach ts X.env).map (·.2)) us) (λ_ s'=>∃ σ' H',Inv X pins σ' H' s'/\Q σ' H') X.xe s
abbrev TSet:=V->V->V->Hp->(Hp->Prop)->Prop
def PSet(X:Cx)(t:TSet):Prop :=
 ∀ (pins:List (Addr × Obj)) (s:Shared) (σ:St) (H:Hp) (o i v:V) (ov iv u:Value) (Q:Hp->Prop),Inv X pins σ H s->RelV o ov->RelV i iv->RelV v u->t o i v H Q ->
   wpAny (model X.prog X.w) X.A (setItem ov iv u) (λ_ s'=>∃ H',Inv X pins σ H' s'/\Q H') X.xe s
section
variable {X : Cx} {pos : Pos}
def zbs(i:Nat):TG:=λv σ H Q=>Q (σ.set i (some v)) H
theorem zq9{i:Nat}{x:Str}(hN:X.N.Nodup)(hi:X.N[i]? = some x)(hx:Loc X.env.scope x)(hf:X.fn x=true\/X.env.scope.names.lookup x=some .local:=by first|exact .inl rfl|exact .inr rfl|assumption):PG X (.Name x pos) (zbs i):=by
 intro pins s σ H v u Q I r h
 exact wpAny_assign_Name (zgd I hN hi hx r (λs' I'=>⟨_,H,I',h⟩) hf)
def gNil:TGs:=λvs σ H Q=>vs = []/\Q σ H
def zkk(t:TG)(u:TGs):TGs:=λvs σ H Q=>∃ v r,vs=v::r/\t v σ H λσ' H'=>u r σ' H' Q
theorem z6b:PGs X [] gNil:=by
 intro pins s σ H vs us Q I r h
 obtain⟨e,h⟩:=h
 subst e
 cases r
 exact assignInOrder_nil ⟨σ,H,I,h⟩
theorem zza{e:Expr}{es:List Expr}{t:TG}{u:TGs}(h1:PG X e t)(h2:PGs X es u)
 (hs:(assignEach (e::es) X.env).map (·.2)=assign e X.env::(assignEach es X.env).map (·.2):=by rfl):PGs X (e::es) (zkk t u):=by
 intro pins s σ H vs us Q I r h
 obtain⟨v,vr,e1,h⟩:=h
 subst e1
 cases r with
 | cons r rr =>
   rw[hs]
   refine assignInOrder_cons (thn (h1 pins s σ H _ _ _ I r h) λ_ s1 ⟨σ1,H1,I1,q1⟩=>?_)
   exact h2 pins s1 σ1 H1 _ _ Q I1 rr q1
def gTup(K:Qa)(n:Nat)(t:TGs):TG:=λv σ H Q=>∃ a xs,v = .ref a/\SqT K H a xs/\xs.length=n/\t xs σ H Q
theorem z6m{es:List Expr}{k:Nat}{t:TGs}{n:Nat}(hc:X.calm=true)(h:PGs X es t)
 (hn:(assignEach es X.env).length=n:=by rfl) (hst:(assignEach es X.env).findIdx? (·.1)=none:=by rfl):PG X (.Tuple es k pos) (gTup X.K n t):=by
 intro pins s σ H v u Q I r hw
 obtain⟨a,xs,e1,hq,hl,hw⟩:=hw
 subst e1
 cases r
 obtain⟨its,rv,ht,hz⟩:=I.tuple hq
 refine assign_Tuple_tuple (I.ok.hd hc) ht (by simp[hn,<- hl,rv.length]) hst λh' hx=>?_
 have I1:Inv X pins σ H { s with heap:=h' }:=I.kept (t':=s.toks) λb o e=>hx b o (Q9 (Qn e)) e
 exact h pins _ σ H xs _ Q I1 (by simpa using rv) hw
def gSub(to ti:TE)(t:TSet):TG:=λv σ H Q=>to σ H λo H1=>ti σ H1 λi H2=>t o i v H2 λH3=>Q σ H3
theorem zh8{o i:Expr}{to ti:TE}{t:TSet}(ho:PE X o to)(hi:PE X i ti)(hs:PSet X t)
 (ha:∀ v,assign (.Subscript o i pos) X.env v=(do
  let ov <- holding [v] (eval o X.env)
  let iv <- holding [v,ov] (eval i X.env)
  standAt pos
  holding [v,ov,iv] (setItem ov iv v)
  release [v,ov,iv] []):=by intro _;rfl):PG X (.Subscript o i pos) (gSub to ti t):=by
 intro pins s σ H v u Q I r h
 rw[ha]
 refine wpAny_bind (wpAny_holding (thn (ho pins s σ H _ I h) λov s1 ⟨x,H1,I1,r1,q1⟩=>?_))
 refine wpAny_bind (wpAny_holding (thn (hi pins s1 σ H1 _ I1 q1) λiv s2 ⟨y,H2,I2,r2,q2⟩=>?_))
 refine wpAny_bind (wpAny_standAt (wpAny_bind (wpAny_holding (thn (hs pins s2 σ H2 x y v ov iv u _ I2 r1 r2 r q2) λ_ s3 ⟨H3,I3,q3⟩=>?_))))
 exact wpAny_release ⟨σ,H3,I3,q3⟩
def tAsg(te:TE)(g:TG):TS:=λD σ H=>te σ H λx H1=>g x σ H1 D.nx
theorem zir{tg e:Expr}{te:TE}{g:TG}(he:PE X e te)(hg:PG X tg g)(hs:swapsWithSole [tg] e pos.line X.env=pure false:=by rfl)(hw:swappedStores [tg] e X.env=pure none:=by rfl)
 (h1:(assignEach [tg] X.env).map (·.2) = [assign tg X.env]:=by rfl):PS X (.Assign [tg] e pos) (tAsg te g):=by
 intro pins s σ H D I h
 refine wpAny_Assign_stores (thn (he pins s σ H _ I h) λv s1 ⟨x,H1,I1,r1,q1⟩=>?_) hs hw
 rw[h1]
 exact thn (hg pins s1 σ H1 x v _ I1 r1 q1) λ_ s2 q=>q
theorem zdi{i:Nat}{x:Str}{e:Expr}{te:TE}{pos':Pos}(hN:X.N.Nodup)(hi:X.N[i]? = some x)(hx:Loc X.env.scope x)(he:PE X e te)(hs:swapsWith e (some (.Name x pos')) pos.line X.env=pure false:=by rfl)(hf:X.fn x=true\/X.env.scope.names.lookup x=some .local:=by first|exact .inl rfl|exact .inr rfl|assumption) :
 PS X (.Assign [.Name x pos'] e pos) (tAsg te (zbs i)):=by
 intro pins s σ H D I h
 refine wpAny_Assign_Name (thn (he pins s σ H _ I h) λv s1 ⟨y,H1,I1,r1,q1⟩=>?_) hs
 exact zgd I1 hN hi hx r1 (λs2 I2=>⟨_,H1,I2,q1⟩) hf
def tPar(i j:Nat)(ta:TA):TS:=λD σ H=>ta σ H λvs H1=>∃ v w,vs = [v,w]/\D.nx ((σ.set i (some v)).set j (some w)) H1
theorem z8d{i j:Nat}{x y:Str}{a b:Expr}{ta:TA}{px py pt:Pos}{kt k2 pt2}(hc:X.calm=true)(hN:X.N.Nodup)(hi:X.N[i]? = some x)(hj:X.N[j]? = some y)(hij:i ≠ j)
 (hx:X.env.scope.names.lookup x=some .local) (hy:X.env.scope.names.lookup y=some .local) (ha:PA X [a,b] ta)
 (hw:swappedStores [.Tuple [.Name x px,.Name y py] kt pt] (.Tuple [a,b] k2 pt2) X.env=pure (some [x,y]))
 (hs:swapsWithSole [.Tuple [.Name x px,.Name y py] kt pt] (.Tuple [a,b] k2 pt2) pos.line X.env=pure false:=by rfl) :
 PS X (.Assign [.Tuple [.Name x px,.Name y py] kt pt] (.Tuple [a,b] k2 pt2) pos) (tPar i j ta):=by
 intro pins s σ H D I h
 rw[exec_Assign_arm]
 refine wpAny_bind (wpAny_standAt ?_)
 rw[hs]
 refine wpAny_bind (wpAny_pure ?_)
 rw[if_neg (by decide)]
 refine wpAny_bind (Tuple_ (thn (ha _ pins s σ H _ I h) λus s1 ⟨vs,H1,I1,r1,q1⟩=>?_))
 obtain⟨v,w,e1,q1⟩:=q1
 subst e1
 obtain⟨u1,u2,rfl,rv,rw'⟩:∃ u1 u2,us = [u1,u2]/\RelV v u1/\RelV w u2:=by
  cases r1 with
  | cons p q =>
    cases q with
    | cons p' q' =>
      cases q'
      exact⟨_,_,rfl,p,p'⟩
 refine wpAny_newObj_type ?_ (by show 2<=sizeLine;decide)
 have I2:Inv X pins σ H1 { s1 with heap:=s1.heap.push { cls := .type "tuple", data := .seq [u1,u2].toArray } }:=I1.kept (t':=s1.toks) λb o e=>Qb _ e
 rw[hw]
 refine wpAny_bind (wpAny_pure ?_)
 show wpAny (model X.prog X.w) X.A (do rule "assign.swapped-stores"; let items <- unpackItems (.ref s1.heap.objs.size) 2 none;assignInOrder [λv=>bindName X.env y v,λv=>bindName X.env x v] items.reverse;pure Flow.next) _ _ _
 refine wpAny_bind (wpAny_rule (wpAny_bind (unpackItems_tuple (items:=#[u1,u2]) (I.ok.hd hc) (j8 s1.heap _) λh' hx'=>?_)))
 have I3:=I2.kept (h':=h') (t':=s1.toks) λb o e=>hx' b o (Q9 (Qn e)) e
 show wpAny _ _ (assignInOrder [λv=>bindName X.env y v,λv=>bindName X.env x v] [u2,u1] >>= λ_=>pure Flow.next) _ _ _
 refine wpAny_bind (assignInOrder_cons (wpAny_bindName (zgd I3 hN hj (.inl hy) rw' (λs2 I4=>?_) (.inr hy))))
 refine assignInOrder_cons (wpAny_bindName (zgd I4 hN hi (.inl hx) rv (λs3 I5=>assignInOrder_nil (wpAny_pure ?_)) (.inr hx)))
 rw[List.set_comm _ _ (ZY hij)] at I5
 exact⟨_,H1,I5,q1⟩
end
structure It where
 go:Nat->Hp->Prop
 yld:Nat->Hp->V->Hp->Prop
 stop:Nat->Hp->Prop
def FpOk(X:Cx)(pins:List (Addr × Obj))(H:Hp)(b:Addr):Prop :=
 H b=none/\b ≠ X.env.locals/\b ∉ X.fs/\(b ∈ X.ex\/X.s₀.heap.objs.size<=b)/\(∀ x c,X.env.cells.lookup x=some c->c ≠ b)/\∀ p ∈ X.pn++pins,p.1 ≠ b
theorem Inv.fpOk{X:Cx}{pins:List (Addr × Obj)}{σ:St}{H H':Hp}{s:Shared}{b:Addr}(I:Inv X pins σ H s)(hb:s.heap.objs.size<=b)(hn:H' b=none):FpOk X pins H' b:=by
 refine⟨hn,Zx (QL I.lt hb),I.nofs hb,.inr (Q2 I.sz hb),λx c e z=>?_,λp hp z=>?_⟩
 ·obtain⟨v,q⟩:=I.cell x c e
  exact absurd (QL q.lt (by rw[z];exact hb)) (ZI _)
 ·exact absurd (QL (Qn (I.pin p hp).1) (by rw[z];exact hb)) (ZI _)
structure Turn (P:Program) (w:World) (K:Qa) (tg:Expr) (J:It) (fp:List Addr) (it:Addr) (tn:Nat->Heap->Prop):Prop where
 mem:it ∈ fp
 obj:∀ i h,tn i h->∀ b ∈ fp,∃ o,h.get? b=some o/\∀ v,o.data ≠ .cell v
 keep:∀ i h h',tn i h->(∀ b ∈ fp,∀ o,h.get? b=some o->h'.get? b=some o)->tn i h'
 item:∀ (X:Cx),X.prog=P->X.w=w->X.K=K->X.calm=true->∀ (i:Nat) (pins:List (Addr × Obj)) (s:Shared) (σ:St) (H:Hp) (E:Value->Shared->Prop),Inv X pins σ H s->(∀ b ∈ fp,FpOk X pins H b)->tn i s.heap->J.go i H ->
  wpAny (model P w) X.A (pyNext (.ref it)) (λr s1=>∃ u,r=some u /\
   wpAny (model P w) X.A (letOwnedTupleGo tg (.ref it) u) (λ_ s2=>∃ x H',Inv X pins σ H' s2/\RelV x u/\J.yld i H x H'/\tn (i+1) s2.heap/\∀ b ∈ fp,H' b=none) E s1) E s
 done:∀ (X:Cx),X.prog=P->X.w=w->X.K=K->X.calm=true->∀ (i:Nat) (pins:List (Addr × Obj)) (s:Shared) (σ:St) (H:Hp) (E:Value->Shared->Prop),Inv X pins σ H s->(∀ b ∈ fp,FpOk X pins H b)->tn i s.heap->J.stop i H ->
  wpAny (model P w) X.A (pyNext (.ref it)) (λr s1=>r=none/\Inv X pins σ H s1) E s
 self:∀ (A:Around) (i:Nat) (s:Shared) (Q:Value->Shared->Prop) (E:Value->Shared->Prop),tn i s.heap->Q (.ref it) s->wpAny (model P w) A (pyIter (.ref it)) Q E s
abbrev TI:=St->Hp->(It->Hp->Prop)->Prop
def PIE(X:Cx)(pins:List (Addr × Obj))(σ:St)(tg:Expr)(R:It->Hp->Prop)(itv:Value)(s2:Shared):Prop :=
 ∃ (it:Addr) (fp:List Addr) (tn:Nat->Heap->Prop) (J:It) (H':Hp),itv = .ref it/\Inv X pins σ H' s2/\Turn X.prog X.w X.K tg J fp it tn/\tn 0 s2.heap/\(∀ b ∈ fp,FpOk X pins H' b)/\R J H'
def PI(X:Cx)(tg iter:Expr)(wi:TI):Prop :=
 ∀ (pins:List (Addr × Obj)) (s:Shared) (σ:St) (H:Hp) (R:It->Hp->Prop),Inv X pins σ H s->wi σ H R ->
   wpAny (model X.prog X.w) X.A (eval iter X.env) (λv s1=>wpAny (model X.prog X.w) X.A (pyIter v) (PIE X pins σ tg R) X.xe s1) X.xe s
theorem zns{M:Model}{A:Around}{E:Value->Shared->Prop}{s:Shared}{tg:Expr}{it:Addr}{u:Value}{o:Obj}{n:String}{vs:Array Value}{Q:Unit->Shared->Prop}(ho:s.heap.get? it=some o)(hc:o.cls = .type n)(hd:o.data = .fields vs)
 (hn:["enumerate", "zip", "dict_itemiterator", "dict_reverseitemiterator", "odict_iterator", "itertools.zip_longest", "itertools.pairwise"].contains n=false) (hQ:Q () s):wpAny M A (letOwnedTupleGo tg (.ref it) u) Q E s:=by
 unfold letOwnedTupleGo
 cases tg <;> first
  | exact wpAny_pure hQ
  | (cases u <;> first
   | exact wpAny_pure hQ
   | (refine wpAny_bind (wpAny_load ho ?_)
      rw[hc,hd]
      show wpAny M A (if(["enumerate", "zip", "dict_itemiterator", "dict_reverseitemiterator", "odict_iterator", "itertools.zip_longest", "itertools.pairwise"].contains n && vs[0]? == some (rawInt _))=true then _ else _) Q E s
      rw[if_neg (by intro h;rw[hn,QD] at h;cases h)]
      exact wpAny_pure hQ))
def Itl(K:Qa)(a:Addr):It :=
 ⟨λi H=>∃ xs x,SqL K H a xs/\xs[i]? = some x,λi H x H'=>H'=H/\∀ xs,SqL K H a xs->xs[i]? = some x,λi H=>∃ xs,SqL K H a xs/\xs.length<=i⟩
def Itt(K:Qa)(a:Addr):It :=
 ⟨λi H=>∃ xs x,SqT K H a xs/\xs[i]? = some x,λi H x H'=>H'=H/\∀ xs,SqT K H a xs->xs[i]? = some x,λi H=>∃ xs,SqT K H a xs/\xs.length<=i⟩
def Itr(lo:Int)(n:Nat):It:=⟨λi _=>i<n,λi H x H'=>H'=H/\x = .int (lo+i),λi _=>n<=i⟩
theorem ztp{P:Program}{w:World}{K:Qa}{tg:Expr}(a it:Addr):Turn P w K tg (Itl K a) [it] it (λi h=>h.IsListIter it a i) where
 mem:=by simp
 obj:=λi h st b hb=>by
  have e:b=it:=by simpa using hb
  subst e
  obtain⟨o,e,c,d⟩:=st
  exact⟨o,e,λv z=>by rw[d] at z;cases z⟩
 keep:=λi h h' st k=>st.at λo e=>k it (by simp) o e
 item:=by
  intro X hP hw hK hc i pins s σ H E I hf st hg
  subst hP hw hK
  obtain⟨xs,x,hq,hx⟩:=hg
  obtain⟨its,rv,p,hz⟩:=I.list hq
  obtain⟨u,hu,ru⟩:=rv.get hx
  obtain⟨f0,f1,f2,f3,f4,f5⟩:=hf it (by simp)
  refine wpAny_pyNext_list_item st p.isList (x:=u) (by simpa using hu) λh' st' sb=>?_
  have I1:Inv X pins σ H { s with heap:=h' }:=I.turned (t':=s.toks) (λb o hb e=>(sb.2 b hb).trans e) f0 f1 f3 f4 f5
  obtain⟨o,e,c,d⟩:=id st'
  exact⟨u,rfl,zns (s:={ s with heap:=h' }) e c d (by decide) ⟨x,H,I1,ru,⟨rfl,λys hy=>by rw[I.list_inj hy hq];exact hx⟩,st',λb hb=>(hf b hb).1⟩⟩
 done:=by
  intro X hP hw hK hc i pins s σ H E I hf st hg
  subst hP hw hK
  obtain⟨xs,hq,hx⟩:=hg
  obtain⟨its,rv,p,hz⟩:=I.list hq
  obtain⟨f0,f1,f2,f3,f4,f5⟩:=hf it (by simp)
  have hl:=rv.length
  exact wpAny_pyNext_list_end (I.ok.hd hc) st p.isList (by simp;omega) λh' eb=>⟨rfl,I.turned (t':=s.toks) (λb o hb e=>eb b o hb e) f0 f1 f3 f4 f5⟩
 self:=λ_ _ _ _ _ st h=>wpAny_pyIter_listiter st h
theorem zth{P:Program}{w:World}{K:Qa}{tg:Expr}(a it:Addr):Turn P w K tg (Itt K a) [it] it (λi h=>h.IsTupleIter it a i) where
 mem:=by simp
 obj:=λi h st b hb=>by
  have e:b=it:=by simpa using hb
  subst e
  obtain⟨o,e,c,d⟩:=st
  exact⟨o,e,λv z=>by rw[d] at z;cases z⟩
 keep:=λi h h' st k=>st.at λo e=>k it (by simp) o e
 item:=by
  intro X hP hw hK hc i pins s σ H E I hf st hg
  subst hP hw hK
  obtain⟨xs,x,hq,hx⟩:=hg
  obtain⟨its,rv,p,hz⟩:=I.tuple hq
  obtain⟨u,hu,ru⟩:=rv.get hx
  obtain⟨f0,f1,f2,f3,f4,f5⟩:=hf it (by simp)
  refine wpAny_pyNext_tuple_item st (show s.heap.IsTuple a its.toArray from p) (x:=u) (by simpa using hu) λh' st' sb=>?_
  have I1:Inv X pins σ H { s with heap:=h' }:=I.turned (t':=s.toks) (λb o hb e=>(sb.2 b hb).trans e) f0 f1 f3 f4 f5
  obtain⟨o,e,c,d⟩:=id st'
  exact⟨u,rfl,zns (s:={ s with heap:=h' }) e c d (by decide) ⟨x,H,I1,ru,⟨rfl,λys hy=>by rw[I.tuple_inj hy hq];exact hx⟩,st',λb hb=>(hf b hb).1⟩⟩
 done:=by
  intro X hP hw hK hc i pins s σ H E I hf st hg
  subst hP hw hK
  obtain⟨xs,hq,hx⟩:=hg
  obtain⟨its,rv,p,hz⟩:=I.tuple hq
  obtain⟨f0,f1,f2,f3,f4,f5⟩:=hf it (by simp)
  have hl:=rv.length
  exact wpAny_pyNext_tuple_end (I.ok.hd hc) st (show s.heap.IsTuple a its.toArray from p) (by simp;omega) λh' eb=>⟨rfl,I.turned (t':=s.toks) (λb o hb e=>eb b o hb e) f0 f1 f3 f4 f5⟩
 self:=λ_ _ _ _ _ st h=>wpAny_pyIter_tupleiter st h
theorem zsi{P:Program}{w:World}{K:Qa}{tg:Expr}(it:Addr)(lo:Int)(n:Nat):Turn P w K tg (Itr lo n) [it] it (λi h=>IsRangeIter h it (lo+(i:Nat) * 1) ((n:Int) - (i:Nat)) 1) where
 mem:=by simp
 obj:=λi h st b hb=>by
  have e:b=it:=by simpa using hb
  subst e
  exact⟨_,st,λv z=>by
   have z':Data.fields _=Data.cell v:=z
   cases z'⟩
 keep:=λi h h' st k=>k it (by simp) _ st
 item:=by
  intro X hP hw hK hc i pins s σ H E I hf st hg
  subst hP hw hK
  obtain⟨f0,f1,f2,f3,f4,f5⟩:=hf it (by simp)
  have W:=Walks.range (prog:=X.prog) (w:=X.w) (I.ok.hd hc) it lo 1 n
  refine W.item i s _ _ hg st λv h' tk hv st' kk=>?_
  obtain⟨t,rfl⟩:=hv
  have I1:Inv X pins σ H { s with heap:=h',toks:=tk }:=I.turned (λb o hb e=>kk b o (by simpa using hb) e) f0 f1 f3 f4 f5
  refine⟨_,rfl,zns (s:={ s with heap:=h',toks:=tk }) (n := "range_iterator") st' rfl rfl (by decide) ⟨.int (lo+i),H,I1,⟨t,?_⟩,⟨rfl,rfl⟩,st',λb hb=>(hf b hb).1⟩⟩
  rw[Int.mul_one]
 done:=by
  intro X hP hw hK hc i pins s σ H E I hf st hg
  subst hP hw hK
  obtain⟨f0,f1,f2,f3,f4,f5⟩:=hf it (by simp)
  exact wpAny_pyNext_range_end (I.ok.hd hc) st (by have:n<=i:=hg;omega) λh' eb=>⟨rfl,I.turned (t':=s.toks) (λb o hb e=>eb b o hb e) f0 f1 f3 f4 f5⟩
 self:=λ_ _ _ _ _ st h=>wpAny_pyIter_rangeiter st h
section
variable {X : Cx} {tg : Expr}
def zta(K:Qa)(tl:TE):TI:=λσ H R=>tl σ H λx H1=>∃ a,x = .ref a/\(∃ xs,SqL K H1 a xs)/\R (Itl K a) H1
def iTup(K:Qa)(tl:TE):TI:=λσ H R=>tl σ H λx H1=>∃ a,x = .ref a/\(∃ xs,SqT K H1 a xs)/\R (Itt K a) H1
theorem z2n{l:Expr}{tl:TE}(hl:PE X l tl):PI X tg l (zta X.K tl):=by
 intro pins s σ H R I h
 refine thn (hl pins s σ H _ I h) λv s1 ⟨x,H1,I1,r1,q1⟩=>?_
 obtain⟨a,e,⟨xs,hq⟩,q⟩:=q1
 subst e
 cases r1
 obtain⟨its,rv,p,hz⟩:=I1.list hq
 refine wpAny_pyIter_list p.isList ?_
 refine⟨s1.heap.objs.size,[s1.heap.objs.size],_,_,H1,rfl,I1.kept (t':=s1.toks) λb o e=>Qb _ e,ztp a _,⟨_,Qq _ rfl,rfl,rfl⟩,λb hb=>?_,q⟩
 have e:b=s1.heap.objs.size:=by simpa using hb
 subst e
 exact I1.fpOk (Qt _) (I1.hok.fresh (Qt _))
theorem z6s{l:Expr}{tl:TE}(hl:PE X l tl):PI X tg l (iTup X.K tl):=by
 intro pins s σ H R I h
 refine thn (hl pins s σ H _ I h) λv s1 ⟨x,H1,I1,r1,q1⟩=>?_
 obtain⟨a,e,⟨xs,hq⟩,q⟩:=q1
 subst e
 cases r1
 obtain⟨its,rv,p,hz⟩:=I1.tuple hq
 refine wpAny_pyIter_tuple (show s1.heap.IsTuple a its.toArray from p) ?_
 refine⟨s1.heap.objs.size,[s1.heap.objs.size],_,_,H1,rfl,I1.kept (t':=s1.toks) λb o e=>Qb _ e,zth a _,⟨_,Qq _ rfl,rfl,rfl⟩,λb hb=>?_,q⟩
 have e:b=s1.heap.objs.size:=by simpa using hb
 subst e
 exact I1.fpOk (Qt _) (I1.hok.fresh (Qt _))
theorem zo2{pins:List (Addr × Obj)}{σ:St}{H:Hp}{s:Shared}{R:It->Hp->Prop}{E:Value->Shared->Prop}{lo hi:Int}{t u v:Tok}{tk:Nat}(I:Inv X pins σ H s)(h1:-(2 ^ 62)<=lo)(h2:lo<2 ^ 62)(h3:-(2 ^ 62)<=hi)(h4:hi<2 ^ 62)
 (q:R (Itr lo (hi - lo).toNat) H):wpAny (model X.prog X.w) X.A (pyIter (.ref s.heap.objs.size)) (PIE X pins σ tg R) E { s with heap:=s.heap.push { cls := .type "range", data := .fields #[.int lo t,.int hi u,.int 1 v] },toks:=tk }:=by
 refine wpAny_pyIter_range (IsRange.new ..) (small_one h1 h2 h3 h4) ?_
 have I1:Inv X pins σ H { s with heap:=s.heap.push { cls := .type "range", data := .fields #[.int lo t,.int hi u,.int 1 v] },toks:=tk }:=I.kept λb o e=>Qb _ e
 refine⟨(s.heap.push { cls := .type "range", data := .fields #[.int lo t,.int hi u,.int 1 v] }).objs.size,[(s.heap.push { cls := .type "range", data := .fields #[.int lo t,.int hi u,.int 1 v] }).objs.size],_,_,H,rfl,
  I1.kept (t':=tk) λb o e=>Qb _ e,zsi _ lo (hi - lo).toNat,?_,λb hb=>?_,q⟩
 ·have e1:lo+((0:Nat):Int) * 1=lo:=by simp
  have e2:(((hi - lo).toNat:Nat):Int) - ((0:Nat):Int)=Builtin.Range.rangeSize lo hi 1:=by rw[rangeSize_one];split <;> omega
  show IsRangeIter _ _ (lo+((0:Nat):Int) * 1) ((((hi - lo).toNat:Nat):Int) - ((0:Nat):Int)) 1
  rw[e1,e2]
  exact Qq _ rfl
 ·have e:b=(s.heap.push { cls := .type "range", data := .fields #[.int lo t,.int hi u,.int 1 v] }).objs.size:=by simpa using hb
  subst e
  exact I1.fpOk (Qt _) (I1.hok.fresh (Qt _))
def zze(ta:TA):TI:=λσ H R=>ta σ H λvs H1=>∃ j:Int,vs = [.int j]/\-(2 ^ 62)<=j/\j<2 ^ 62/\R (Itr 0 j.toNat) H1
def zzj(ta:TA):TI:=λσ H R=>ta σ H λvs H1=>∃ i j:Int,vs = [.int i,.int j]/\(-(2 ^ 62)<=i/\i<2 ^ 62/\-(2 ^ 62)<=j/\j<2 ^ 62)/\R (Itr i (j - i).toNat) H1
theorem zt7{a:Expr}{ta:TA}{p pos:Pos}(hg:Gl X "range")(hm:X.mg "range" = none)(ha:PA X [a] ta)(hs:starEach [a] X.env = [(false,eval a X.env)]:=by rfl):PI X tg (.Call (.Name "range" p) [a] [] pos) (zze ta):=by
 intro pins s σ H R I h
 refine Call_ (zcf I hg hm boot_range (Zt (thn (ha pos pins s σ H _ I h) λus s1 ⟨vs,H1,I1,r1,q1⟩=>?_) hs rfl))
 obtain⟨j,e,q1,q2,q⟩:=q1
 subst e
 cases r1 with
 | cons r rr =>
   cases rr
   obtain⟨t,rfl⟩:=r
   exact call_range_1 (zo2 I1 (by omega) (by omega) q1 q2 (by simpa using q))
theorem zwv{a b:Expr}{ta:TA}{p pos:Pos}(hg:Gl X "range")(hm:X.mg "range" = none)(ha:PA X [a,b] ta)(hs:starEach [a,b] X.env = [(false,eval a X.env),(false,eval b X.env)]:=by rfl)(hs2:starEach [b] X.env = [(false,eval b X.env)]:=by rfl) :
 PI X tg (.Call (.Name "range" p) [a,b] [] pos) (zzj ta):=by
 intro pins s σ H R I h
 refine Call_ (zcf I hg hm boot_range (Zt (thn (ha pos pins s σ H _ I h) λus s1 ⟨vs,H1,I1,r1,q1⟩=>?_) (by rw[hs,hs2]) (by rw[hs2];rfl)))
 obtain⟨i,j,e,⟨q1,q2,q3,q4⟩,q⟩:=q1
 subst e
 cases r1 with
 | cons r rr =>
   cases rr with
   | cons r' rr =>
     cases rr
     obtain⟨t,rfl⟩:=r
     obtain⟨t',rfl⟩:=r'
     exact call_range_2 (zo2 I1 q1 q2 q3 q4 q)
def tFor(wi:TI)(g:TG)(tb:TS):TS:=λD σ H=>wi σ H λJ H1=>∃ W:Nat->Nat->St->Hp->Prop,(∃ m,W 0 m σ H1)/\∀ i m σ H,W i m σ H ->
 (J.stop i H/\D.nx σ H)\/(J.go i H/\∃ N:St->Hp->Prop,(∀ σ' H',N σ' H'->∃ m',m'<m/\W (i+1) m' σ' H')/\∀ x H',J.yld i H x H'->g x σ H' λσ2 H2=>tb { D with nx:=N,ct:=N,bk:=D.nx } σ2 H2)
def zg2(fp:List Addr)(h:Heap):List (Addr × Obj):=fp.filterMap λb=>(h.get? b).map λo=>(b,o)
theorem zdx{fp:List Addr}{h:Heap}{b:Addr}{o:Obj}(hb:b ∈ fp)(e:h.get? b=some o):(b,o) ∈ zg2 fp h:=qq.mpr ⟨b,hb,by rw[e];rfl⟩
theorem zt5{fp:List Addr}{h:Heap}{p:Addr × Obj}(hp:p ∈ zg2 fp h):p.1 ∈ fp/\h.get? p.1=some p.2:=by
 obtain⟨b,hb,e⟩:=qq.mp hp
 cases q:h.get? b with
 | none=>rw[q] at e;cases e
 | some o =>
   rw[q] at e
   have e':(b,o)=p:=Zy e
   subst e'
   exact⟨hb,q⟩
theorem Inv.pinned{pins:List (Addr × Obj)}{σ:St}{H:Hp}{s:Shared}{fp:List Addr}(I:Inv X pins σ H s)(hf:∀ b ∈ fp,FpOk X pins H b)(ho:∀ b ∈ fp,∃ o,s.heap.get? b=some o/\∀ v,o.data ≠ .cell v):Inv X (pins++zg2 fp s.heap) σ H s :=
 I.pins_of λp hp=>(Qx.mp hp).elim (λz=>I.pin p (QB _ z)) λz=>by
  obtain⟨hb,e⟩:=zt5 z
  obtain⟨f0,f1,f2,_⟩:=hf p.1 hb
  obtain⟨o,e',d⟩:=ho p.1 hb
  rw[e] at e';cases e'
  exact⟨e,f0,f1,f2,d⟩
theorem Inv.unpinned{pins pl:List (Addr × Obj)}{σ:St}{H:Hp}{s:Shared}(I:Inv X (pins++pl) σ H s):Inv X pins σ H s:=I.pins_of λp hp=>I.pin p (QB _ (QW _ hp))
theorem zuj{iter:Expr}{body:List Stmt}{wi:TI}{g:TG}{tb:TS}{pos:Pos}(hp:PassesOwn (model X.prog X.w) X.A X.env X.xe)(hc:X.calm=true)(hi:PI X tg iter wi)(hg:PG X tg g)(hb:PSs X body tb)
 (hs:∀ x,foldedSetIterable iter X.env x=pure x:=by intro _;rfl):PS X (.For tg iter body [] pos) (tFor wi g tb):=by
 intro pins s σ H D I h
 refine wpAny_For (thn (hi pins s σ H _ I h) λv s1 h1=>thn h1 λitv s2 h2=>?_) hs
 obtain⟨it,fp,tn,J,H2,e,I2,T,st2,f2,W,⟨m0,w0⟩,turn⟩:=h2
 subst e
 -- what stays true of the iterator's objects through the loop
 have stat:∀ {H':Hp},(∀ b ∈ fp,H' b=none)->∀ b ∈ fp,FpOk X pins H' b:=λhn b hb=>⟨hn b hb,(f2 b hb).2⟩
 refine codeAny_forLoop_any (λn s'=>∃ i σ' H',Inv X pins σ' H' s'/\tn i s'.heap/\(∀ b ∈ fp,H' b=none)/\W i n σ' H') ?_ m0 ⟨0,σ,H2,I2,st2,λb hb=>(f2 b hb).1,w0⟩
 rintro n s3 ⟨i,σ3,H3,I3,st3,fr3,w3⟩
 rcases turn i n σ3 H3 w3 with ⟨stop,qn⟩|⟨go,N,hN,step⟩
 ·refine wpAny_passesOwn hp (thn (T.done X rfl rfl rfl hc i pins s3 σ3 H3 X.xe I3 (stat fr3) st3 stop) λr s4 ⟨hr,I4⟩=>?_)
  subst hr
  exact wpAny_execs_nil ⟨σ3,H3,I4,qn⟩
 ·refine wpAny_passesOwn hp (thn (T.item X rfl rfl rfl hc i pins s3 σ3 H3 X.xe I3 (stat fr3) st3 go) λr s4 ⟨u,hr,h4⟩=>?_)
  subst hr
  refine wpAny_passesOwn hp (thn h4 λ_ s5 ⟨x,H5,I5,r5,y5,st5,fr5⟩=>?_)
  have I5':=I5.pinned (stat fr5) (T.obj _ _ st5)
  refine wpAny_passesOwn hp (thn (hg _ s5 σ3 H5 x u _ I5' r5 (step x H5 y5)) λ_ s6 ⟨σ6,H6,I6,q6⟩=>?_)
  refine wpAny_passesOwn hp (thn (hb _ s6 σ6 H6 _ I6 q6) λf s7 q7=>?_)
  have again:∀ {σ7:St} {H7:Hp},Inv X (pins++zg2 fp s5.heap) σ7 H7 s7->N σ7 H7->∃ m,m<n/\∃ i σ' H',Inv X pins σ' H' s7/\tn i s7.heap/\(∀ b ∈ fp,H' b=none)/\W i m σ' H':=λ{σ7 H7} I7 n7=>by
   obtain⟨m',hm,w7⟩:=hN σ7 H7 n7
   refine⟨m',hm,i+1,σ7,H7,I7.unpinned,T.keep _ _ _ st5 λb hb o e=>(I7.pin (b,o) (QB _ (QB _ (zdx hb e)))).1,λb hb=>?_,w7⟩
   obtain⟨o,e,d⟩:=T.obj _ _ st5 b hb
   exact(I7.pin (b,o) (QB _ (QB _ (zdx hb e)))).2.1
  cases f with
  | next=>obtain⟨σ7,H7,I7,n7⟩:=q7;exact again I7 n7
  | cont=>obtain⟨σ7,H7,I7,n7⟩:=q7;exact again I7 n7
  | brk=>obtain⟨σ7,H7,I7,q7⟩:=q7;exact⟨σ7,H7,I7.unpinned,q7⟩
  | ret v=>obtain⟨x7,σ7,H7,I7,r7,q7⟩:=q7;exact⟨x7,σ7,H7,I7.unpinned,r7,q7⟩
end
abbrev R2:=V->V->Hp->VK->Prop
def OpR(X:Cx)(f:Value->Value->Sem Value)(r:R2):Prop :=
 ∀ (pins:List (Addr × Obj)) (s:Shared) (σ:St) (H:Hp) (x y:V) (v u:Value) (Q:VK),Inv X pins σ H s->RelV x v->RelV y u->r x y H Q ->
   wpAny (model X.prog X.w) X.A (f v u) (EP X pins σ Q) X.xe s
def UnR(X:Cx)(f:Value->Sem Value)(r:V->Hp->VK->Prop):Prop :=
 ∀ (pins:List (Addr × Obj)) (s:Shared) (σ:St) (H:Hp) (x:V) (v:Value) (Q:VK),Inv X pins σ H s->RelV x v->r x H Q ->
   wpAny (model X.prog X.w) X.A (f v) (EP X pins σ Q) X.xe s
def CallR(X:Cx)(f:Value)(r:List V->Hp->VK->Prop):Prop :=
 ∀ (pins:List (Addr × Obj)) (s:Shared) (σ:St) (H:Hp) (xs:List V) (us:List Value) (Q:VK),Inv X pins σ H s->Vals xs us->r xs H Q ->
   wpAny (model X.prog X.w) X.A (call f us) (EP X pins σ Q) X.xe s
def TruR(X:Cx)(r:V->Hp->(Bool->Hp->Prop)->Prop):Prop :=
 ∀ (pins:List (Addr × Obj)) (s:Shared) (σ:St) (H:Hp) (x:V) (v:Value) (Q:Bool->Hp->Prop),Inv X pins σ H s->RelV x v->r x H Q ->
   wpAny (model X.prog X.w) X.A (truthy v) (TP X pins σ Q) X.xe s
def tOp(r:R2)(ta tb:TE):TE:=λσ H Q=>ta σ H λx H1=>tb σ H1 λy H2=>r x y H2 Q
def tUn(r:V->Hp->VK->Prop)(ta:TE):TE:=λσ H Q=>ta σ H λx H1=>r x H1 Q
def rI(C:Int->Int->Prop)(g:Int->Int->V):R2:=λx y H Q=>∃ i j,x = .int i/\y = .int j/\C i j/\Q (g i j) H
def rI0(g:Int->Int->V):R2:=λx y H Q=>∃ i j,x = .int i/\y = .int j/\Q (g i j) H
def rU(g:Int->V):V->Hp->VK->Prop:=λx H Q=>∃ i,x = .int i/\Q (g i) H
section
variable {X : Cx} {a b c : Expr} {ta tb tc : TE} {pos : Pos}
theorem binT(ha:PE X a ta)(hb:PE X b tb){pins:List (Addr × Obj)}{s:Shared}{σ:St}{H:Hp}{R:V->V->Hp->Prop}(I:Inv X pins σ H s)
 (h:ta σ H λx H1=>tb σ H1 λy H2=>R x y H2) {Q:Value->Shared->Prop} {f:Value->Value->Sem Value}
 (hf:∀ v u s2 x y H2,Inv X pins σ H2 s2->RelV x v->RelV y u->R x y H2->wpAny (model X.prog X.w) X.A (f v u) Q X.xe s2) :
 wpAny (model X.prog X.w) X.A (eval a X.env) (λv s₁=>wpAny (model X.prog X.w) X.A (eval b X.env) (λu s₂=>wpAny (model X.prog X.w) X.A (f v u) Q X.xe s₂) X.xe s₁) X.xe s:=by
 refine thn (ha pins s σ H _ I h) λv s1 ⟨x,H1,I1,r1,q1⟩=>?_
 refine thn (hb pins s1 σ H1 _ I1 q1) λu s2 ⟨y,H2,I2,r2,q2⟩=>?_
 exact hf v u s2 x y H2 I2 r1 r2 q2
theorem zbl{op:Operator}{r:R2}(ho:OpR X (binaryOp op) r)(ha:PE X a ta)(hb:PE X b tb):PE X (.BinOp a op b pos) (tOp r ta tb):=by
 intro pins s σ H Q I h
 exact wpAny_BinOp (binT ha hb I h λv u s2 x y H2 I2 rx ry q=>ho pins s2 σ H2 x y v u Q I2 rx ry q)
theorem ybc{op:UnaryOp}{r:V->Hp->VK->Prop}(ho:UnR X (unaryOp op) r)(ha:PE X a ta):PE X (.UnaryOp op a pos) (tUn r ta):=by
 intro pins s σ H Q I h
 exact UnaryOp_ (thn (ha pins s σ H _ I h) λv s1 ⟨x,H1,I1,r1,q1⟩=>ho pins s1 σ H1 x v Q I1 r1 q1)
theorem opI{f:Value->Value->Sem Value}{C:Int->Int->Prop}{g:Int->Int->Int}
 (rule:∀ (i j:Int) (t u:Tok) (s:Shared) (Q:Value->Shared->Prop) (E:Value->Shared->Prop),C i j->Q (.int (g i j) s.toks) { s with toks:=s.toks+1 }->wpAny (model X.prog X.w) X.A (f (.int i t) (.int j u)) Q E s) :
 OpR X f (rI C λi j => .int (g i j)):=by
 intro pins s σ H x y v u Q I rx ry h
 obtain⟨i,j,rfl,rfl,hc,q⟩:=h
 obtain⟨t,rfl⟩:=rx
 obtain⟨t',rfl⟩:=ry
 exact rule i j t t' s _ _ hc ⟨.int (g i j),H,I.tok _,⟨_,rfl⟩,q⟩
theorem opI0{f:Value->Value->Sem Value}{g:Int->Int->Int}
 (rule:∀ (i j:Int) (t u:Tok) (s:Shared) (Q:Value->Shared->Prop) (E:Value->Shared->Prop),Q (.int (g i j) s.toks) { s with toks:=s.toks+1 }->wpAny (model X.prog X.w) X.A (f (.int i t) (.int j u)) Q E s) :
 OpR X f (rI0 λi j => .int (g i j)):=by
 intro pins s σ H x y v u Q I rx ry h
 obtain⟨i,j,rfl,rfl,q⟩:=h
 obtain⟨t,rfl⟩:=rx
 obtain⟨t',rfl⟩:=ry
 exact rule i j t t' s _ _ ⟨.int (g i j),H,I.tok _,⟨_,rfl⟩,q⟩
theorem opB0{f:Value->Value->Sem Value}{g:Int->Int->Bool}
 (rule:∀ (i j:Int) (t u:Tok) (s:Shared) (Q:Value->Shared->Prop) (E:Value->Shared->Prop),Q (.bool (g i j)) s->wpAny (model X.prog X.w) X.A (f (.int i t) (.int j u)) Q E s) :
 OpR X f (rI0 λi j => .bl (g i j)):=by
 intro pins s σ H x y v u Q I rx ry h
 obtain⟨i,j,rfl,rfl,q⟩:=h
 obtain⟨t,rfl⟩:=rx
 obtain⟨t',rfl⟩:=ry
 exact rule i j t t' s _ _ ⟨.bl (g i j),H,I,rfl,q⟩
def CDiv(i j:Int):Prop:=0<j/\j<1073741824
def CPow(i j:Int):Prop:=0<=j/\j<=1000000/\i.natAbs<2 ^ 64
def CMul(i j:Int):Prop:=(-(2 ^ 64)<i/\i<2 ^ 64)\/(-(2 ^ 64)<j/\j<2 ^ 64)
theorem CMul.ok{i j:Int}(h:CMul i j):IntMulOk i j:=by
 rcases h with ⟨h1,h2⟩|⟨h1,h2⟩
 ·exact .of_left (intBits_le_64 h1 h2)
 ·exact .of_right (intBits_le_64 h1 h2)
theorem op_add:OpR X (binaryOp .Add) (rI0 λi j => .int (i+j)):=opI0 λ_ _ _ _ _ _ _ q=>add_int q
theorem z8z:OpR X (binaryOp .Sub) (rI0 λi j => .int (i - j)):=opI0 λ_ _ _ _ _ _ _ q=>sub_int q
theorem op_mul:OpR X (binaryOp .Mult) (rI CMul λi j => .int (i * j)):=opI λ_ _ _ _ _ _ _ hc q=>mul_int q hc.ok
theorem zru:OpR X (binaryOp .FloorDiv) (rI CDiv λi j => .int (i / j)):=opI λi j _ _ _ _ _ hc q=>by
 have h1:(0:Int)<j:=hc.1
 have h2:j<1073741824:=hc.2
 exact floordiv_int (by omega) (by rw[Int.fdiv_eq_ediv_of_nonneg i (by omega)];exact q) (.inl (PyProof.noPylong_small (by omega)))
theorem zeu:OpR X (binaryOp .Mod) (rI (λ_ j=>0<j) λi j => .int (i % j)):=opI λi j _ _ _ _ _ hc q=>by
 have h1:(0:Int)<j:=hc
 exact mod_int' (by omega) (by rw[Int.fmod_eq_emod_of_nonneg i (by omega)];exact q)
theorem z9g:OpR X (binaryOp .Pow) (rI CPow λi j => .int (i ^ j.toNat)):=opI λ_ _ _ _ _ _ _ hc q=>pow_int_small hc.1 hc.2.1 hc.2.2 q
theorem unI{f:Value->Sem Value}{g:Int->Int}
 (rule:∀ (i:Int) (t:Tok) (s:Shared) (Q:Value->Shared->Prop) (E:Value->Shared->Prop),Q (.int (g i) s.toks) { s with toks:=s.toks+1 }->wpAny (model X.prog X.w) X.A (f (.int i t)) Q E s) :
 UnR X f (rU λi => .int (g i)):=by
 intro pins s σ H x v Q I rx h
 obtain⟨i,rfl,q⟩:=h
 obtain⟨t,rfl⟩:=rx
 exact rule i t s _ _ ⟨.int (g i),H,I.tok _,⟨_,rfl⟩,q⟩
theorem yab:UnR X (unaryOp .USub) (rU λi => .int (-i)):=unI λ_ _ _ _ _ q=>neg_int q
end
section
variable {X : Cx} {a b c : Expr} {ta tb tc : TE} {pos : Pos}
theorem zid{pins:List (Addr × Obj)}{σ:St}{H:Hp}{s:Shared}{Q:VK}{k k':Bool}(I:Inv X pins σ H s)(q:Q (.bl k) H)(e:k=k'):EP X pins σ Q (.bool k') s:=by
 subst e
 exact⟨.bl k,H,I,rfl,q⟩
theorem zsw:OpR X (compareOp .Lt) (rI0 λi j => .bl (decide (i<j))):=opB0 λ_ _ _ _ _ _ _ q=>lt_int q
theorem zzg:OpR X (compareOp .LtE) (rI0 λi j => .bl (decide (i<=j))):=opB0 λ_ _ _ _ _ _ _ q=>le_int q
theorem zng:OpR X (compareOp .Gt) (rI0 λi j => .bl (decide (j<i))):=opB0 λ_ _ _ _ _ _ _ q=>gt_int q
theorem ybx:OpR X (compareOp .GtE) (rI0 λi j => .bl (decide (j<=i))):=opB0 λ_ _ _ _ _ _ _ q=>ge_int q
theorem zuh:OpR X (compareOp .Lt) (λx y H Q=>∃ i j,x = .str i/\y = .str j/\Q (.bl (decide (i.cps.toList<j.cps.toList))) H):=by
 intro pins s σ H x y v u Q I rx ry h
 obtain⟨i,j,rfl,rfl,q⟩:=h
 obtain⟨t,rfl⟩:=rx
 obtain⟨t',rfl⟩:=ry
 exact lt_str (zid I q rfl)
theorem op_in_str:OpR X (compareOp .In) (λx y H Q=>∃ i j,x = .str i/\y = .str j/\Q (.bl (!(QM j i 0 j.length 1).isEmpty)) H):=by
 intro pins s σ H x y v u Q I rx ry h
 obtain⟨i,j,rfl,rfl,q⟩:=h
 obtain⟨t,rfl⟩:=rx
 obtain⟨t',rfl⟩:=ry
 exact in_str (zid I q rfl)
theorem yai:OpR X (compareOp .Is) (λx y H Q=>y = .non/\Q (.bl (decide (x = .non))) H):=by
 intro pins s σ H x y v u Q I rx ry h
 obtain⟨rfl,q⟩:=h
 cases ry
 refine is_none_gen (zid I q ?_)
 cases x <;> first
  | (cases rx;rfl)
  | (obtain⟨t,rfl⟩:=rx;rfl)
theorem z5j:OpR X (compareOp .IsNot) (λx y H Q=>y = .non/\Q (.bl (!decide (x = .non))) H):=by
 intro pins s σ H x y v u Q I rx ry h
 obtain⟨rfl,q⟩:=h
 cases ry
 refine isnot_none_gen (zid I q ?_)
 cases x <;> first
  | (cases rx;rfl)
  | (obtain⟨t,rfl⟩:=rx;rfl)
theorem op_notin_str:OpR X (compareOp .NotIn) (λx y H Q=>∃ i j,x = .str i/\y = .str j/\Q (.bl (!(!(QM j i 0 j.length 1).isEmpty))) H):=by
 intro pins s σ H x y v u Q I rx ry h
 obtain⟨i,j,rfl,rfl,q⟩:=h
 obtain⟨t,rfl⟩:=rx
 obtain⟨t',rfl⟩:=ry
 exact notIn_str (zid I q rfl)
theorem OpR.or{f:Value->Value->Sem Value}{r r':R2}(h:OpR X f r)(h':OpR X f r'):OpR X f (λx y H Q=>r x y H Q\/r' x y H Q):=by
 intro pins s σ H x y v u Q I rx ry q
 rcases q with q|q
 ·exact h pins s σ H x y v u Q I rx ry q
 ·exact h' pins s σ H x y v u Q I rx ry q
theorem zb1(b:Expr){op:CmpOp}(h:op ≠ .In:=by decide)(h2:op ≠ .NotIn:=by decide):behindInMarks op b=false:=by
 have e1:(op == CmpOp.In)=false:=by cases op <;> first|rfl|exact absurd rfl h
 have e2:(op == CmpOp.NotIn)=false:=by cases op <;> first|rfl|exact absurd rfl h2
 cases b <;> simp[behindInMarks,e1,e2]
theorem z1f{op:CmpOp}{r:R2}(ho:OpR X (compareOp op) r)(ha:PE X a ta)(hb:PE X b tb)(hm:behindInMarks op b=false):PE X (.Compare a [op] [b] pos) (tOp r ta tb):=by
 intro pins s σ H Q I h
 exact wpAny_Compare1 (binT ha hb I h λv u s2 x y H2 I2 rx ry q=>ho pins s2 σ H2 x y v u Q I2 rx ry q) hm
def zix(t:TE):TT:=λσ H Q=>t σ H λx H'=>∃ k,x = .bl k/\Q k H'
theorem zhb{op:CmpOp}{r:R2}(ho:OpR X (compareOp op) r)(ha:PE X a ta)(hb:PE X b tb)(hm:behindInMarks op b=false):PT X (.Compare a [op] [b] pos) (zix (tOp r ta tb)):=by
 intro pins s σ H Q I h
 refine wpAny_isTrue_Compare1 (thn (ha pins s σ H _ I h) λv s1 ⟨x,H1,I1,r1,q1⟩=>thn (hb pins s1 σ H1 _ I1 q1) λu s2 ⟨y,H2,I2,r2,q2⟩ =>
  thn (ho pins s2 σ H2 x y v u _ I2 r1 r2 q2) λc s3 ⟨z,H3,I3,r3,k,e,q3⟩=>?_) hm
 subst e
 cases r3
 exact wpAny_truthy_bool ⟨H3,I3,q3⟩
def zuf(r r':R2)(ta tb tc:TE):TE:=λσ H Q=>ta σ H λx H1=>tb σ H1 λy H2=>r x y H2 λz H3=>∃ k,z = .bl k /\
 (if k=true then tc σ H3 λw' H4=>r' y w' H4 Q else Q (.bl false) H3)
theorem zym{op op':CmpOp}{r r':R2}(ho:OpR X (compareOp op) r)(ho':OpR X (compareOp op') r')(ha:PE X a ta)(hb:PE X b tb)(hc:PE X c tc)
 (hm:lastMarks [op,op'] [b,c]=false:=by with_unfolding_all rfl):PE X (.Compare a [op,op'] [b,c] pos) (zuf r r' ta tb tc):=by
 intro pins s σ H Q I h
 refine Compare_chain (thn (ha pins s σ H _ I h) λv s1 ⟨x,H1,I1,r1,q1⟩=>chain_link (thn (hb pins s1 σ H1 _ I1 q1) λu s2 ⟨y,H2,I2,r2,q2⟩ =>
  thn (ho pins s2 σ H2 x y v u _ I2 r1 r2 q2) λd s3 ⟨z,H3,I3,r3,k,e,q3⟩=>?_)) hm
 subst e
 cases r3
 refine wpAny_truthy_bool ?_
 cases k with
 | false=>exact ite_ff ⟨.bl false,H3,I3,rfl,q3⟩
 | true=>exact ite_tt (chain_last (thn (hc pins s3 σ H3 _ I3 q3) λw' s4 ⟨z',H4,I4,r4,q4⟩=>ho' pins s4 σ H4 y z' u w' Q I4 r2 r4 q4))
def TruV(K:Qa)(x:V)(H:Hp)(k:Bool):Prop :=
 match x with
 | .non=>k=false
 | .bl b=>k=b
 | .int i=>k=(i != 0)
 | .str y=>y.length<=sizeLine/\k=((y.length:Int) != 0)
 | .byt y=>y.size<=sizeLine/\k=((y.size:Int) != 0)
 | .ref p=>(∃ xs,SqL K H p xs/\k = !xs.isEmpty)\/(∃ xs,SqT K H p xs/\k = !xs.isEmpty)\/∃ kvs,H p=some (.dK kvs)/\k = !kvs.isEmpty
 | _=>False
theorem zs4{κ:Type}{kvs:List (κ × V)}{vs:List (κ × Value)}(r:KV kvs vs):(!vs.isEmpty) = !kvs.isEmpty:=by
 cases r <;> rfl
theorem zk0{xs:List V}{its:List Value}(r:Vals xs its):(!its.toArray.isEmpty) = !xs.isEmpty:=by
 cases r <;> simp
theorem zg6:(sizeLine:Nat)<2 ^ 63:=by rw[sizeLine_eq];decide
theorem yaq:TruR X (λx H Q=>∃ k,TruV X.K x H k/\Q k H):=by
 intro pins s σ H x v Q I rx h
 obtain⟨k,e,q⟩:=h
 have hl:=zg6
 have hs:sizeLine=16777216:=sizeLine_eq
 cases x with
 | non =>
   cases rx
   have e':k=false:=e
   subst e'
   exact truthy_none ⟨H,I,q⟩
 | bl b =>
   cases rx
   have e':k=b:=e
   subst e'
   exact wpAny_truthy_bool ⟨H,I,q⟩
 | int i =>
   obtain⟨t,rfl⟩:=rx
   have e':k=(i != 0):=e
   subst e'
   exact PySem.P.truthy_int ⟨H,I,q⟩
 | str y =>
   obtain⟨t,rfl⟩:=rx
   obtain⟨hy,e'⟩:y.length<=sizeLine/\k=((y.length:Int) != 0):=e
   subst e'
   exact PySem.P.truthy_str (by omega) ⟨H,I.tok _,q⟩
 | byt y =>
   obtain⟨t,rfl⟩:=rx
   obtain⟨hy,e'⟩:y.size<=sizeLine/\k=((y.size:Int) != 0):=e
   subst e'
   exact PySem.W.truthy_bytes (by omega) ⟨H,I.tok _,q⟩
 | ref p =>
   cases rx
   have e':(∃ xs,SqL X.K H p xs/\k = !xs.isEmpty)\/(∃ xs,SqT X.K H p xs/\k = !xs.isEmpty)\/∃ kvs,H p=some (.dK kvs)/\k = !kvs.isEmpty:=e
   rcases e' with ⟨xs,hx,e'⟩|⟨xs,hx,e'⟩|⟨kvs,hx,e'⟩
   ·subst e'
    obtain⟨its,r,pl,hz⟩:=I.list hx
    have hlen:=r.length
    exact wpAny_truthy_list pl.isList (by simp only[Qs];omega) ⟨H,I.tok _,by rw[zk0 r];exact q⟩
   ·subst e'
    obtain⟨its,r,pl,hz⟩:=I.tuple hx
    have hlen:=r.length
    exact truthy_tuple pl (by simp only[Qs];omega) ⟨H,I.tok _,by rw[zk0 r];exact q⟩
   ·subst e'
    obtain⟨hz,hS,vs,r,m⟩:kvs.length<=sizeLine/\(p == sysModules)=false/\∃ vs,KV kvs vs/\s.heap.DictOf (zcx X.prog X.w) p vs:=I.hok p _ hx
    have hlen:kvs.length=vs.length:=zt r
    exact wpAny_truthy_dict hS m (by omega) ⟨H,I.tok _,by rw[zs4 r];exact q⟩
 | _=>exact(show False from e).elim
theorem zxu(ha:PE X a ta)(he:∀ whole,isTrue a X.env whole=(do let v <- whole;standAt a.pos;holding [v] (truthy v))) :
 PT X a (λσ H Q=>ta σ H λx H'=>∃ k,TruV X.K x H' k/\Q k H'):=by
 intro pins s σ H Q I h
 exact isTrue_plain (thn (ha pins s σ H _ I h) λv s1 ⟨x,H1,I1,r1,q1⟩=>yaq pins s1 σ H1 x v Q I1 r1 q1) (he _)
theorem op_add_str:OpR X (binaryOp .Add) (λx y H Q=>∃ i j,x = .str i/\y = .str j/\i.length+j.length<=sizeLine/\Q (.str (i++j)) H):=by
 intro pins s σ H x y v u Q I rx ry h
 obtain⟨i,j,rfl,rfl,hz,q⟩:=h
 obtain⟨t,rfl⟩:=rx
 obtain⟨t',rfl⟩:=ry
 exact add_str (λt' tk=>⟨.str (i++j),H,I.tok _,⟨_,rfl⟩,q⟩) hz
theorem zgk{x:V}{us:List Value}(r:Vals [x] us):∃ u,us = [u]/\RelV x u:=by
 cases r with
 | cons r1 r2=>cases r2;exact⟨_,rfl,r1⟩
theorem zwq:CallR X (.type "int") (λxs H Q=>(∃ i,xs = [.int i]/\Q (.int i) H)\/∃ k,xs = [.bl k]/\Q (.int (if k then 1 else 0)) H):=by
 intro pins s σ H xs us Q I r h
 rcases h with ⟨i,rfl,q⟩|⟨k,rfl,q⟩
 ·obtain⟨u,rfl,t,rfl⟩:=zgk r
  exact call_int_int ⟨.int i,H,I,⟨_,rfl⟩,q⟩
 ·obtain⟨u,rfl,r1⟩:=zgk r
  cases r1
  exact call_int_bool ⟨.int (if k then 1 else 0),H,I.tok _,⟨_,rfl⟩,q⟩
theorem zn2:CallR X (.type "str") (λxs H Q=>∃ i,xs = [.int i]/\i.natAbs.log2<1920/\Q (.str (toString i)) H):=by
 intro pins s σ H xs us Q I r h
 obtain⟨i,rfl,hz,q⟩:=h
 obtain⟨u,rfl,t,rfl⟩:=zgk r
 exact PySem.P.str_of_int hz ⟨.str _,H,I.tok _,⟨_,rfl⟩,q⟩
def LenV(K:Qa)(x:V)(H:Hp)(n:Nat):Prop :=
 match x with
 | .str y=>y.length<=sizeLine/\n=y.length
 | .byt y=>y.size<=sizeLine/\n=y.size
 | .ref p=>(∃ xs,SqL K H p xs/\n=xs.length)\/∃ xs,SqT K H p xs/\n=xs.length
 | _=>False
theorem zhh:CallR X (.builtin "len") (λxs H Q=>∃ x n,xs = [x]/\LenV X.K x H n/\Q (.int n) H):=by
 intro pins s σ H xs us Q I r h
 obtain⟨x,n,rfl,e,q⟩:=h
 obtain⟨u,rfl,rx⟩:=zgk r
 have hl:=zg6
 have hs:sizeLine=16777216:=sizeLine_eq
 cases x with
 | str y =>
   obtain⟨t,rfl⟩:=rx
   obtain⟨hy,e'⟩:y.length<=sizeLine/\n=y.length:=e
   subst e'
   exact len_str (by omega) ⟨.int _,H,I.tok _,⟨_,rfl⟩,q⟩
 | byt y =>
   obtain⟨t,rfl⟩:=rx
   obtain⟨hy,e'⟩:y.size<=sizeLine/\n=y.size:=e
   subst e'
   exact PySem.W.len_bytes (by omega) ⟨.int _,H,I.tok _,⟨_,rfl⟩,q⟩
 | ref p =>
   cases rx
   have e':(∃ xs,SqL X.K H p xs/\n=xs.length)\/∃ xs,SqT X.K H p xs/\n=xs.length:=e
   rcases e' with ⟨xs,hx,e'⟩|⟨xs,hx,e'⟩
   ·subst e'
    obtain⟨its,r',pl,hz⟩:=I.list hx
    have hlen:=r'.length
    exact Calls.call_len_list pl.isList (by simp only[Qs];omega) ⟨.int xs.length,H,I.tok _,⟨_,by simp only[Qs];rw[hlen]⟩,q⟩
   ·subst e'
    obtain⟨its,r',pl,hz⟩:=I.tuple hx
    have hlen:=r'.length
    exact len_tuple pl (by simp only[Qs];omega) ⟨.int xs.length,H,I.tok _,⟨_,by simp only[Qs];rw[hlen]⟩,q⟩
 | _=>exact(show False from e).elim
end
structure ObjM (h:Heap) (x dx C:Addr) (mA:Str->Option Value):Prop where
 obj:h.get? x=some (jL C dx)
 ns:h.Ns1 dx mA
 ne:dx ≠ x
theorem zmf{h:Heap}{dx:Addr}{mA:Str->Option Value}(n:h.Ns1 dx mA):∃ od,h.get? dx=some od/\∀ name,Ys name od=some (mA name):=by
 obtain⟨o,es,ep,ho,hd,hk,_,hm⟩:=n
 refine⟨o,ho,λname=>?_⟩
 have e:=hm name
 unfold nsFind findBy at e
 rw[<- Array.find?_toList] at e
 unfold Ys
 rw[hd]
 dsimp only
 split
 ·rename_i y q
  rw[q] at e
  exact congrArg some e
 ·rename_i q
  rw[q] at e
  have a:es.toList.any (·.refKey)=false:=by
   rw[List.any_eq_false]
   intro y hy
   obtain⟨z,t,hkey⟩:=hk y (YF.mp hy)
   simp[DictEntry.refKey,hkey]
  have a':¬ es.toList.any (·.refKey)=true:=by rw[a];exact Qc
  rw[if_neg a']
  exact congrArg some e
theorem ObjM.look{h:Heap}{x dx C:Addr}{mA:Str->Option Value}(I:ObjM h x dx C mA):∃ od,JN h x (jL C dx) C (some od)/\∀ name,Ys name od=some (mA name) :=
 let ⟨od,ho,hl⟩:=zmf I.ns
 ⟨od,⟨I.obj,rfl,rfl,ho⟩,hl⟩
def putF(f:Str)(v:V):List (Str × V)->List (Str × V)
 | [] => [(f,v)]
 | (g,x)::r=>if g=f then(g,v)::r else(g,x)::putF f v r
theorem zjj(f g:Str)(v:V):∀ fs:List (Str × V),(putF f v fs).lookup g=if g=f then some v else fs.lookup g
 | []=>by
   show Jl g [(f,v)]=_
   by_cases h:g=f
   ·have hb:(g == f)=true:=beq_iff_eq.mpr h
    simp only[Jl,hb,if_pos h]
   ·have hb:(g == f)=false:=beq_eq_false_iff_ne.mpr h
    simp only[Jl,hb,if_neg h]
 | (k,x)::r=>by
   have ih:=zjj f g v r
   rw[show putF f v ((k,x)::r)=(if k=f then(k,v)::r else(k,x)::putF f v r) from rfl]
   by_cases hk:k=f
   ·rw[if_pos hk]
    by_cases h:g=k
    ·have hb:(g == k)=true:=beq_iff_eq.mpr h
     simp only[Jl,hb,if_pos (h.trans hk)]
    ·have hb:(g == k)=false:=beq_eq_false_iff_ne.mpr h
     simp only[Jl,hb,if_neg (λe:g=f=>h (e.trans hk.symm))]
   ·rw[if_neg hk]
    by_cases h:g=k
    ·have hb:(g == k)=true:=beq_iff_eq.mpr h
     simp only[Jl,hb,if_neg (λe:g=f=>hk (h.symm.trans e))]
    ·have hb:(g == k)=false:=beq_eq_false_iff_ne.mpr h
     simp only[Jl,hb]
     exact ih
theorem RelO.some_of{v:V}{o:Option Value}(r:RelO (some v) o):∃ u,o=some u/\RelV v u:=by
 cases o with
 | none=>exact(show False from r).elim
 | some u=>exact⟨u,rfl,r⟩
section
variable {P : Program} {w : World} {H H' : Hp} {h h' : Heap} {a C dx : Addr} {fs fs' : List (Str × V)}
theorem z1y(hok:HOk P w H h)(e:H a=some (.ins C dx fs)):∃ mA,ObjM h a dx C mA/\(∀ f,RelO (fs.lookup f) (mA f))/\zC mA (fs.map (·.1))/\fs.length<=1000/\H dx=some (.own a):=by
 obtain⟨d,z,ne,ob,mA,n,r,q⟩:=(show ObjOk P w H h a (.ins C dx fs) from hok a _ e)
 exact⟨mA,⟨ob,n,ne⟩,r,q,z,d⟩
end
structure Cls (K:Qa) (C:Addr):Prop where
 pg:qP K C Str.empty=true
 hd:jl K C=true
 po:PySem.W.plainOver K C=true
 sa:QS K (.ref C) "__setattr__" = some (some (.builtin "object.__setattr__"))
theorem Cls.get{K:Qa}{C:Addr}(c:Cls K C)(f:Str):qP K C f=true:=c.pg
section
variable {X : Cx} {pins : List (Addr × Obj)} {σ : St} {H : Hp} {s : Shared} {a C dx : Addr} {fs : List (Str × V)} {f : Str} {v : V} {A : Around} {E : Value → Shared → Prop}
theorem z5f{prog:Program}{w:World}{env:Env}{e:Expr}{f:Str}{pos:Pos}{s:Shared}{Q:Value->Shared->Prop}(hb:attributeBase e f env (eval e env)=eval e env)
 (h:wpAny (model prog w) A (eval e env) (λo s₁=>wpAny (model prog w) A (getAttr o f true) Q E s₁) E s):wpAny (model prog w) A (eval (.Attribute e f pos) env) Q E s :=
 Attribute_any_ h (by rw[arm_eval_Attribute,hb])
end
section
variable {X : Cx} {pins : List (Addr × Obj)} {σ : St} {H : Hp} {s : Shared} {A : Around} {E : Value → Shared → Prop} {Q : Value → Shared → Prop} {c : Value} {b : Bool}
inductive TyOf (K:Qa) (H:Hp):V->Value->Prop where
 | non:TyOf K H .non (.type "NoneType")
 | bl (x:Bool):TyOf K H (.bl x) (.type "bool")
 | int (i:Int):TyOf K H (.int i) (.type "int")
 | str (x:Str):TyOf K H (.str x) (.type "str")
 | flt (x:UInt64):TyOf K H (.flt x) (.type "float")
 | lst {a:Addr} {xs:List V} (e:H a=some (.lst xs)):TyOf K H (.ref a) (.type "list")
 | frz {a:Addr} {o:Obj} {xs:List V} (e:H a=some (.frz o (.lst xs))):TyOf K H (.ref a) (.type "list")
 | tup {a:Addr} {xs:List V} (e:H a=some (.tup xs)):TyOf K H (.ref a) (.type "tuple")
 | dK {a:Addr} {kvs:List (Key × V)} (e:H a=some (.dK kvs)):TyOf K H (.ref a) (.type "dict")
 | dT {a:Addr} {kvs:List (List Key × V)} (e:H a=some (.dT kvs)):TyOf K H (.ref a) (.type "dict")
 | ins {a C dx:Addr} {fs:List (Str × V)} (e:H a=some (.ins C dx fs)) (cl:Cls K C) (ha:QS K (.ref C) "__class__" = some (some (.builtin "object.__class__")))
  (hn:jm K (.builtin "object.__class__") "__get__" = some (some (.builtin "getset_descriptor.__get__"))) (htk:jN K (.builtin "object.__class__")=some true)
  (hm:Zk K C (.type "object")=some true):TyOf K H (.ref a) (.ref C)
theorem zfb{x:V}{u t:Value}(I:Inv X pins σ H s)(rx:RelV x u)(ty:TyOf X.K H x t)(e:Zm X.K t c=some b)(h:∀ tk,Q (.bool b) { s with toks:=tk }) :
 wpAny (model X.prog X.w) A (call (.builtin "isinstance") [u,c]) Q E s:=by
 cases ty with
 | non=>cases (show u=Zh from rx);exact Zz PySem.W.kitx_none I.kIn YX e (λz=>nomatch z) h
 | bl y=>cases (show u=ZE y from rx);exact Zz PySem.W.kitx_bool I.kIn YX e (λz=>nomatch z) h
 | int i=>obtain⟨t,q⟩:=(show ∃ t,u=j7 i t from rx);cases q;exact Zz PySem.W.kitx_int I.kIn YX e (λz=>nomatch z) h
 | str y=>obtain⟨t,q⟩:=(show ∃ t,u=JS y t from rx);cases q;exact Zz PySem.W.kitx_str I.kIn YX e (λz=>nomatch z) h
 | flt y=>obtain⟨t,q⟩:=(show ∃ t,u=Value.float y t from rx);cases q;exact Zz PySem.W.kitx_float I.kIn YX e (λz=>nomatch z) h
 | @lst a xs ea =>
   cases (show u=QC a from rx)
   obtain⟨_,_,n,_,h1⟩:=(show ObjOk X.prog X.w H s.heap a (.lst xs) from I.hok a _ ea)
   exact Zz qC I.kIn ⟨_,h1,rfl⟩ e (λz=>nomatch z) h
 | @frz a ob xs ea =>
   cases (show u=QC a from rx)
   obtain⟨_,_,_,n,_,h1⟩:=(show ObjOk X.prog X.w H s.heap a (.frz ob (.lst xs)) from I.hok a _ ea)
   exact Zz qC I.kIn ⟨_,h1,rfl⟩ e (λz=>nomatch z) h
 | @tup a xs ea =>
   cases (show u=QC a from rx)
   obtain⟨_,_,_,p⟩:=(show ObjOk X.prog X.w H s.heap a (.tup xs) from I.hok a _ ea)
   obtain⟨o,h1,h2,_⟩:=p
   exact Zz qt I.kIn ⟨o,h1,h2⟩ e (λz=>nomatch z) h
 | @dK a kvs ea =>
   cases (show u=QC a from rx)
   obtain⟨_,_,vs,_,p⟩:=(show ObjOk X.prog X.w H s.heap a (.dK kvs) from I.hok a _ ea)
   obtain⟨o,es,ep,h1,h2,_⟩:=p
   exact Zz qD I.kIn ⟨o,h1,h2.1⟩ e (λz=>nomatch z) h
 | @dT a kvs ea =>
   cases (show u=QC a from rx)
   obtain⟨_,_,xs,_,o,es,ep,h1,h2,_⟩:=(show ObjOk X.prog X.w H s.heap a (.dT kvs) from I.hok a _ ea)
   exact Zz qD I.kIn ⟨o,h1,h2.1⟩ e (λz=>nomatch z) h
 | @ins a C dx fs ea cl ha hn htk hm =>
   cases (show u=QC a from rx)
   obtain⟨mA,O,_⟩:=z1y I.hok ea
   obtain⟨od,J,_⟩:=O.look
   exact Zz (PySem.W.kitx_own (cl.get _) cl.hd ha hn htk hm) I.kIn J e (λz=>nomatch z) h
end
structure Room (k:Nat) (A:Around):Prop where
 hd:A.handled=none
 dp:A.depth+3 * k+5<recursionLimit
 un:A.units+16 * k+200<cLine
 gd:A.guards=some []
theorem Room.mono{j k:Nat}{A:Around}(r:Room k A)(h:j<=k):Room j A:=⟨r.hd,by have:=r.dp;omega,by have:=r.un;omega,r.gd⟩
theorem Room.deeper{k:Nat}{A:Around}(r:Room (k+1) A)(env:Env):Room k (A.deeper env) :=
 ⟨r.hd,by have:=r.dp;show A.depth+1+3 * k+5<_;omega,by have:=r.un;show A.units+3+16 * k+200<_;omega,r.gd⟩
theorem zs8{A:Around}{C:Addr}{us:List Value}{kw:List (Str × Value)}:(A.under (.builtin "type.__call__" ⟨.ref C::us,kw⟩)).depth=A.depth+1:=by
 first|rfl|simp[jE,Code.weight,Code.isCreation,Code.isGuard,Code.isCaller,Code.frames,qE,guardIds]
theorem zst{A:Around}{C:Addr}{us:List Value}{kw:List (Str × Value)}:(A.under (.builtin "type.__call__" ⟨.ref C::us,kw⟩)).units=A.units+1:=by
 first|rfl|simp[jE,Code.cUnits,Code.frames,qE]
theorem Room.make{k:Nat}{A:Around}(r:Room (k+1) A)(C:Addr)(us:List Value)(kw:List (Str × Value)):Room k (A.under (.builtin "type.__call__" ⟨.ref C::us,kw⟩)) :=
 ⟨r.hd,by have:=r.dp;rw[zs8];omega,by have:=r.un;rw[zst];omega,by first|exact r.gd|(simpa[jE,Code.isGuard,guardIds] using r.gd)⟩
theorem Room.depth{k:Nat}{A:Around}(r:Room k A):A.depth<recursionLimit:=by have:=r.dp;omega
theorem Room.units{k:Nat}{A:Around}(r:Room k A):A.units+64<cLine:=by have:=r.un;omega
def tNil:TA:=λ_ H Q=>Q [] H
def zbb(ta:TE)(tr:TA):TA:=λσ H Q=>ta σ H λx H1=>tr σ H1 λxs H2=>Q (x::xs) H2
section
variable {X : Cx} {e : Expr} {es : List Expr} {te : TE} {t : TA} {pos : Pos}
theorem zb9:PA X [] tNil:=λ_ _ _ _ H Q I h=>ZA ⟨[],H,I,.nil,h⟩
theorem za7(ha:PE X e te)(hr:PA X es t)(hs:starEach (e::es) X.env=(false,eval e X.env)::starEach es X.env:=by rfl):PA X (e::es) (zbb te t):=by
 intro pos pins s σ H Q I h
 rw[hs]
 show wpAny _ _ (spliced ((false,eval e X.env)::backTo pos (starEach es X.env))) _ _ s
 refine Zi (thn (ha pins s σ H _ I h) λu s1 ⟨x,H1,I1,r1,q1⟩=>?_)
 exact thn (hr pos pins s1 σ H1 _ I1 q1) λus s2 ⟨xs,H2,I2,r2,q2⟩=>⟨x::xs,H2,I2,.cons r1 r2,q2⟩
def tTup(t:TA):TE:=λσ H Q=>t σ H λxs H1=>xs.length<=sizeLine/\∀ p,H1 p=none->Q (.ref p) (upd H1 p (.tup xs))
def tLst(t:TA):TE:=λσ H Q=>t σ H λxs H1=>xs.length<=sizeLine/\∀ p,H1 p=none->Q (.ref p) (upd H1 p (.lst xs))
theorem zkz{x1}(h:PA X es t):PE X (.Tuple es x1 pos) (tTup t):=by
 intro pins s σ H Q I hq
 refine wpAny_Tuple_spliced (thn (h pos pins s σ H _ I hq) λus s1 ⟨xs,H1,I1,r,z,q⟩=>⟨by rw[<- r.length];exact z,?_⟩)
 have hf:H1 s1.heap.objs.size=none:=I1.hok.fresh (Qt _)
 refine⟨.ref s1.heap.objs.size,upd H1 s1.heap.objs.size (.tup xs),I1.laid (t':=s1.toks) (λb u e=>Qb _ e) (Qt _) ?_,rfl,q _ hf⟩
 exact⟨z,us,r,⟨_,Qq _ rfl,rfl,_,rfl⟩⟩
theorem zj0(h:PA X es t):PE X (.List es pos) (tLst t):=by
 intro pins s σ H Q I hq
 refine wpAny_List_spliced (thn (h pos pins s σ H _ I hq) λus s1 ⟨xs,H1,I1,r,z,q⟩=>⟨by rw[<- r.length];exact z,?_⟩)
 have hf:H1 s1.heap.objs.size=none:=I1.hok.fresh (Qt _)
 refine⟨.ref s1.heap.objs.size,upd H1 s1.heap.objs.size (.lst xs),I1.laid (t':=s1.toks) (λb u e=>Qb _ e) (Qt _) ?_,rfl,q _ hf⟩
 exact⟨z,us,0,r,Qq _ rfl⟩
end
abbrev Sp:=List V->Hp->VK->XK->Prop
abbrev CXT:=List Env->Hp->Shared->XK->Value->Shared->Prop
structure Env0 (P:Program) (w:World) (K:Qa) (mg:Str->Option Value) (base:Heap) (A:Around) (outer:List Env) (s:Shared) (H:Hp):Prop where
 frames:A.frames=some outer
 mod:Mod K mg base
 bs:∀ b o,base.get? b=some o->s.heap.get? b=some o/\H b=none
 bsz:base.objs.size<=s.heap.objs.size
 funs:s.heap.FunFrames base outer
 frf:∀ b ∈ frs outer,H b=none
 hok:HOk P w H s.heap
 bare:AllBare s.gens
def CE(outer:List Env)(P:Program)(w:World)(H:Hp)(s:Shared)(Q:VK)(u:Value)(s':Shared):Prop :=
 ∃ v H',s'.os=s.os/\AllBare s'.gens/\Un (frs outer) [] H H' s.heap s'.heap/\HOk P w H' s'.heap/\RelV v u/\Q v H'
def CR(CX:CXT)(outer:List Env)(P:Program)(w:World)(H:Hp)(s:Shared)(Q:VK)(E:XK)(r:Result)(s':Shared):Prop :=
 match r with
 | .ok (.ret u)=>CE outer P w H s Q u s'
 | .ok _=>False
 | .error e=>CX outer H s E e s'
structure FnOk (P:Program) (w:World) (K:Qa) (mg:Str->Option Value) (base:Heap) (CX:CXT) (k:Nat) (f:Addr) (fd:FuncData) (ps:List Str) (sp:Sp):Prop where
 len:∀ vs H Q E,sp vs H Q E->vs.length=ps.length
 run:∀ (A:Around) (outer:List Env) (s:Shared) (H:Hp) (args:Args) (us:List Value) (vs:List V) (Q:VK) (E:XK),Room k A->Env0 P w K mg base A outer s H->BindsTo s fd args (ps.zip us)->Vals vs us->sp vs H Q E ->
  codeAny (model P w) A (.call (.ref f) args) (CR CX outer P w H s Q E) s
theorem FnOk.mono{P:Program}{w:World}{K:Qa}{mg:Str->Option Value}{base:Heap}{CX:CXT}{j k:Nat}{f:Addr}{fd:FuncData}{ps:List Str}{sp:Sp}(F:FnOk P w K mg base CX j f fd ps sp)(h:j<=k) :
 FnOk P w K mg base CX k f fd ps sp:=⟨F.len,λA outer s H args us vs Q E hr=>F.run A outer s H args us vs Q E (hr.mono h)⟩
theorem Env0.make{P:Program}{w:World}{K:Qa}{mg:Str->Option Value}{base:Heap}{A:Around}{outer:List Env}{s:Shared}{H:Hp}(e:Env0 P w K mg base A outer s H)(C:Addr)(us:List Value)(kw:List (Str × Value)) :
 Env0 P w K mg base (A.under (.builtin "type.__call__" ⟨.ref C::us,kw⟩)) outer s H:=⟨by first|exact e.frames|(simpa[jE,Code.envs,qE,pushEnvs] using e.frames),e.mod,e.bs,e.bsz,e.funs,e.frf,e.hok,e.bare⟩
section
variable {X : Cx} {pins : List (Addr × Obj)} {σ : St} {H : Hp} {s s' : Shared}
theorem Inv.env0(I:Inv X pins σ H s):Env0 X.prog X.w X.K X.mg X.base X.A X.stack s H :=
 ⟨I.ok.frames,I.ok.mod,I.bs,Q2 I.ok.bsz I.sz,I.stack,I.stkFree,I.hok,I.bare⟩
theorem Inv.after{Q:VK}{u:Value}(I:Inv X pins σ H s)(h:CE X.stack X.prog X.w H s Q u s'):EP X pins σ Q u s':=by
 obtain⟨v,H',os,bare,un,hok,r,q⟩:=h
 obtain⟨hh,g,d,t,os'⟩:=s'
 obtain rfl:os'=s.os:=os
 exact⟨v,H',I.call (h':=hh) (g':=g) (d':=d) (t':=t) (ch := []) un hok bare (λb z=>absurd z (by simp)),r,q⟩
end
def zd6(sp:Sp)(dvs:List V)(E:XK)(t:TA):TE:=λσ H Q=>t σ H λvs H1=>sp (vs++dvs) H1 Q E
def Binds(K:Qa)(fd:FuncData)(ps:List Str)(ds:List Value):Prop :=
 ∀ (s:Shared) (us:List Value),K.In s.heap->(us++ds).length=ps.length->BindsTo s fd ⟨us,[]⟩ (ps.zip (us++ds))
theorem Binds.all{K:Qa}{fd:FuncData}{ps:List Str}(h:∀ us:List Value,us.length=ps.length->bindArgs fd ⟨us,[]⟩=pure (ps.zip us)):Binds K fd ps []:=λs us _ hl=>by
 rw[QU] at hl ⊢
 exact .of_eq (h us hl)
def zkj(CX:CXT)(X:Cx)(E:XK):Prop:=∀ (pins:List (Addr × Obj)) (σ:St) (H:Hp) (s:Shared) (e:Value) (s':Shared),Inv X pins σ H s->CX X.stack H s E e s'->X.xe e s'
section
variable {X : Cx} {CX : CXT} {k : Nat} {f C : Addr} {fd : FuncData} {ps : List Str} {sp : Sp} {dvs : List V} {ds : List Value} {E : XK} {x m : Str} {p pos apos : Pos} {e o : Expr} {es : List Expr} {ta : TE} {t : TA}
theorem zu3{pins:List (Addr × Obj)}{σ:St}{H:Hp}{s:Shared}{Q:VK}{us:List Value}{vs:List V}(F:FnOk X.prog X.w X.K X.mg X.base CX k f fd ps sp)(hr:Room k X.A)(hb:Binds X.K fd ps ds)(hd:Vals dvs ds)(hx:zkj CX X E)
 (I:Inv X pins σ H s) (r:Vals vs us) (h:sp (vs++dvs) H Q E):wpAny (model X.prog X.w) X.A (call (.ref f) us) (EP X pins σ Q) X.xe s:=by
 have r2:Vals (vs++dvs) (us++ds):=r.append hd
 have hl:(us++ds).length=ps.length:=by rw[<- r2.length];exact F.len _ _ _ _ h
 refine wpAny_call (codeAny_mono (F.run X.A X.stack s H ⟨us,[]⟩ (us++ds) (vs++dvs) Q E hr I.env0 (hb s us I.kIn hl) r2 h) λr s' hq=>?_)
 cases r with
 | error e=>exact hx pins σ H s e s' I hq
 | ok fl =>
   cases fl with
   | ret u=>exact I.after hq
   | next=>exact Z3 hq
   | brk=>exact Z3 hq
   | cont=>exact Z3 hq
theorem zln(F:FnOk X.prog X.w X.K X.mg X.base CX k f fd ps sp)(hr:Room k X.A)(hg:Gl X x)(hm:X.mg x=some (.ref f))(hk:Z5 X.K (.ref f)=true)(hb:Binds X.K fd ps ds)(hd:Vals dvs ds)(hx:zkj CX X E)
 (ha:PA X (e::es) t) (hdb:(x == ("__debug__" : Str))=false:=by decide) (he:starEach (e::es) X.env=(false,eval e X.env)::starEach es X.env:=by rfl) (hpl:(backTo pos (starEach es X.env)).any (·.1)=false:=by rfl) :
 PE X (.Call (.Name x p) (e::es) [] pos) (zd6 sp dvs E t):=by
 intro pins s σ H Q I h
 refine wpAny_Call_Name_kw (zdg I hg hm ?_ hdb)
 refine Ym (h₀:=X.base) I.ok.mod.kin hk (thn (ha pos pins s σ H _ I h) λus s1 ⟨vs,H1,I1,r,q⟩=>⟨I1.kIn,?_⟩) he hpl
 exact zu3 F hr hb hd hx I1 r q
end
structure FnScope (N P:List Str) (sc:Scope):Prop where
 kind:sc.kind = .function
 co:sc.isCoroutine=false
 gen:sc.isGenerator=false
 nd:N.Nodup
 pre:N.take P.length=P
 par:∀ x ∈ P,sc.names.lookup x=some .local\/sc.names.lookup x=some .cell
 nofree:∀ y ∈ sc.names,y.2 ≠ .free
theorem zm0{kindOf:Str->Option NameKind}{x:Str}:∀ {binds:List (Str × Value)} {m:Str->Option Value},(∀ v,(x,v) ∉ binds)->bindL kindOf binds m x=m x
 | [],_,_=>rfl
 | (n,v)::r,m,h=>by
   unfold bindL
   rw[zm0 λw hw=>h w (Qj _ hw)]
   split
   ·have:x ≠ n:=by rintro rfl;exact h v Q8
    simp[this]
   ·rfl
theorem zms{kindOf:Str->Option NameKind}{x:Str}:∀ {binds:List (Str × Value)} {m:Str->Option Value},(∀ v,(x,v) ∉ binds)->bindC kindOf binds m x=m x
 | [],_,_=>rfl
 | (n,v)::r,m,h=>by
   unfold bindC
   rw[zms λw hw=>h w (Qj _ hw)]
   split
   ·rfl
   ·have:x ≠ n:=by rintro rfl;exact h v Q8
    simp[this]
theorem zl8{kindOf:Str->Option NameKind}{x:Str}{v:Value}:∀ {P:List Str} {vs:List Value} {i:Nat} {m:Str->Option Value},P.Nodup->P[i]? = some x->vs[i]? = some v->kindOf x=some .local ->
 bindL kindOf (P.zip vs) m x=some v
 | [],_,_,_,_,h,_,_=>by simp at h
 | _::_,[],_,_,_,_,h,_=>by simp at h
 | p::P,w::vs,0,m,nd,h1,h2,hk=>by
   simp at h1 h2;subst h1;subst h2
   show bindL kindOf ((p,w)::P.zip vs) m p=_
   unfold bindL
   rw[zm0 λv hv=>(Zr.mp nd).1 (jO hv).1,if_pos hk]
   simp
 | p::P,w::vs,i+1,m,nd,h1,h2,hk=>by
   show bindL kindOf ((p,w)::P.zip vs) m x=_
   unfold bindL
   exact zl8 (i:=i) (Zr.mp nd).2 (by simpa using h1) (by simpa using h2) hk
theorem zmo{kindOf:Str->Option NameKind}{x:Str}{v:Value}:∀ {P:List Str} {vs:List Value} {i:Nat} {m:Str->Option Value},P.Nodup->P[i]? = some x->vs[i]? = some v->kindOf x ≠ some .local ->
 bindC kindOf (P.zip vs) m x=some v
 | [],_,_,_,_,h,_,_=>by simp at h
 | _::_,[],_,_,_,_,h,_=>by simp at h
 | p::P,w::vs,0,m,nd,h1,h2,hk=>by
   simp at h1 h2;subst h1;subst h2
   show bindC kindOf ((p,w)::P.zip vs) m p=_
   unfold bindC
   rw[zms λv hv=>(Zr.mp nd).1 (jO hv).1,if_neg hk]
   simp
 | p::P,w::vs,i+1,m,nd,h1,h2,hk=>by
   show bindC kindOf ((p,w)::P.zip vs) m x=_
   unfold bindC
   exact zmo (i:=i) (Zr.mp nd).2 (by simpa using h1) (by simpa using h2) hk
def start(N:List Str)(vs:List V):St:=vs.map some++Qm (N.length - vs.length) none
def cxOf(CX:CXT)(P:Program)(w:World)(K:Qa)(mg:Str->Option Value)(base:Heap)(N:List Str)(qual:Str)(scope:Scope)(f:Addr)(cd:Value)(A:Around)(outer:List Env)(s:Shared)(H:Hp)(E:XK):Cx where
 prog:=P
 w:=w
 K:=K
 mg:=mg
 base:=base
 A:=A.deeper (envOfC qual scope s.heap.objs.size f cd)
 N:=N
 s₀:=s
 H₀:=H
 env:=envOfC qual scope s.heap.objs.size f cd
 outer:=outer
 stack:=envOfC qual scope s.heap.objs.size f cd::outer
 ex := []
 calm:=true
 fn:=λ_=>true
 pn := []
 xe:=λe s'=>wpAny (model P w) (A.deeper (envOfC qual scope s.heap.objs.size f cd)) (leaving (envOfC qual scope s.heap.objs.size f cd) e) (λ_ s''=>CX outer H s E e s'') (λe' s''=>CX outer H s E e' s'') s'
theorem zn6{sc:Scope}{n:Nat}{x:Str}(h:sc.names.lookup x=some .cell):∃ c,(cellsFrom n sc.names []).lookup x=some c:=by
 have q:=jF sc.names n [] (.inl h)
 exact jw.mp q
theorem zut{CX:CXT}{P:Program}{w:World}{K:Qa}{mg:Str->Option Value}{base:Heap}{N ps:List Str}{qual:Str}{scope:Scope}{f:Addr}{cd:Value}{A:Around}{outer:List Env}{s s1:Shared}{H:Hp}{E:XK}{us:List Value}{vs:List V}
 (S:FnScope N ps scope) (hd:A.handled=none) (e0:Env0 P w K mg base A outer s H) (hl:vs.length=ps.length) (r:Vals vs us)
 (x:InCallC s s.heap.objs.size (bindL (envOfC qual scope s.heap.objs.size f cd).kindOf (ps.zip us) λ_=>none) (cellsFrom (s.heap.objs.size+1) scope.names []) (bindC (envOfC qual scope s.heap.objs.size f cd).kindOf (ps.zip us) λ_=>none) s1) :
 Inv (cxOf CX P w K mg base N qual scope f cd A outer s H E) [] (start N vs) H s1:=by
 have hpl:ps.length<=N.length:=by have:=congrArg jT S.pre;rw[ZJ] at this;omega
 obtain⟨h1,tk,rfl,hk⟩:=x.done
 have noA:∀ b:Addr,b ∉ (cxOf CX P w K mg base N qual scope f cd A outer s H E).ex:=λb z=>absurd (show b ∈ ([]:List Addr) from z) (by simp)
 refine⟨⟨e0.mod,S.kind,rfl,rfl,Qt _,λy z c h1 h2=>?_,λy hy=>?_,λy c _ h=>?_,λ_=>hd,Around.frames_deeper e0.frames,.inr ⟨rfl,rfl⟩,λb z=>absurd z (noA b),e0.bs,e0.bsz,λb _ _=>noA b,λb z=>absurd z (noA b),e0.funs,e0.frf⟩,
  rfl,e0.bare,Un.kept hk,⟨_,x.toInCall.ns,λi y v h1 h2 h3=>?_⟩,λy c h=>⟨_,x.cell y c h⟩,e0.hok.fresh (Qt _),λy c h=>?_,λp hp=>absurd (show p ∈ ([]:List (Addr × Obj)) from hp) (by simp),e0.hok.kept hk,?_⟩
 ·exact name_of_addr x.apart (Z6 h1) (Z6 h2)
 ·have hy:scope.names.lookup y=some .cell\/scope.names.lookup y=some .free:=hy
  rcases hy with hy|hy
  ·exact zn6 hy
  ·exact absurd rfl (S.nofree _ (Z6 hy))
 ·exact Jj (x.above y c (Z6 h))
 ·have hi:i<vs.length:=by
   unfold start at h2
   by_cases hi:i<vs.length
   ·exact hi
   ·rw[ZF (by simpa using hi)] at h2
    rw[ZD] at h2
    split at h2 <;> cases h2
  have ha:vs[i]? = some v:=by
   unfold start at h2
   rw[Zp (by simpa using hi),Q4] at h2
   cases e:vs[i]? with
   | none=>rw[e] at h2;cases h2
   | some a=>rw[e] at h2;cases h2;rfl
  obtain⟨u,hu,rv⟩:=r.get ha
  have hp:ps[i]? = some y:=by
   rw[<- S.pre,List.getElem?_take_of_lt (by omega)];exact h1
  have ndP:ps.Nodup:=by rw[<- S.pre];exact S.nd.sublist (List.take_sublist _ _)
  refine⟨u,rv,?_⟩
  rcases S.par y (Zl hp) with k|k
  ·exact .inl ⟨k,zl8 ndP hp hu k⟩
  ·obtain⟨c,e⟩:=zn6 (n:=s.heap.objs.size+1) k
   refine .inr ⟨.inl k,c,e,?_⟩
   have q:=x.cell y c e
   rw[zmo ndP hp hu (by show scope.names.lookup y ≠ _;rw[k];decide)] at q
   exact q
 ·exact e0.hok.fresh (Jj (x.above y c (Z6 h)))
 ·unfold start
  show _=N.length
  rw[Qf,Qe,Zv]
  omega
theorem zs3{CX:CXT}{P:Program}{w:World}{K:Qa}{mg:Str->Option Value}{base:Heap}{k:Nat}{f:Addr}{name qual:Str}{params:Arguments}{body:List Stmt}{scope:Scope}{dV kV doc pm cdv ct oc:Value}{an od:Option Addr}
 {osl:Array (Option Value)} {N ps:List Str} {sp:Sp} (lk:K.lookup f=some ⟨oc,od,.func (Z4 name qual params body scope dV kV doc pm an cdv ct),osl⟩) (hcd:J2 K cdv qual=true) (S:FnScope N ps scope)
 (len:∀ vs H Q E,sp vs H Q E->vs.length=ps.length)
 (hbody:∀ (A:Around) (outer:List Env) (s:Shared) (H:Hp) (vs:List V) (Q:VK) (E:XK),Room k (A.deeper (envOfC qual scope s.heap.objs.size f cdv))->sp vs H Q E ->
  ∃ t,PSs (cxOf CX P w K mg base N qual scope f cdv A outer s H E) body t/\t { nx:=λ_ H'=>Q .non H',rt:=Q } (start N vs) H) :
 FnOk P w K mg base CX (k+1) f (Z4 name qual params body scope dV kV doc pm an cdv ct) ps sp:=by
 refine⟨len,λA outer s H args us vs Q E hr e0 hb r hsp=>?_⟩
 have hl:=len _ _ _ _ hsp
 have KX:K.In s.heap:=e0.mod.kin.keeps λb o e=>(e0.bs b o e).1
 have lim:s.heap.NoLimit:=e0.mod.nolimit.keeps λb o e=>(e0.bs b o e).1
 have hkind:∀ y ∈ ps.zip us,scope.names.lookup y.1=some .local\/(scope.names.lookup y.1=some .cell/\((cellsFrom (s.heap.objs.size+1) scope.names []).lookup y.1).isSome=true):=λ⟨n,v⟩ hy=>by
  rcases S.par n (jO hy).1 with q|q
  ·exact .inl q
  ·exact .inr ⟨q,jF _ _ _ (.inl q)⟩
 refine codeAny_call_function hr.depth (KX _ _ lk) rfl S.co S.gen rfl (PySem.W.codeRec_of KX hcd) (hb _ _ _ _ ?_)
 refine wpAny_newFunctionEnv_cells S.kind hkind λenv he s1 x=>?_
 subst he
 refine⟨lim.keeps x.toInCall.keep,codeAny_func ?_⟩
 obtain⟨t,ht,hq⟩:=hbody A outer s H vs Q E (hr.deeper _) hsp
 have I:Inv (cxOf CX P w K mg base N qual scope f cdv A outer s H E) [] (start N vs) H s1:=zut S hr.hd e0 hl r x
 refine wpAny_mono (ht [] s1 (start N vs) H _ I hq) (λfl s' hs=>?_) λe s' hs=>hs
 have fin:∀ {σ':St} {H':Hp} {v:V} {u:Value},Inv (cxOf CX P w K mg base N qual scope f cdv A outer s H E) [] σ' H' s'->RelV v u->Q v H'->CE outer P w H s Q u s' :=
  λ{σ' H' v u} J rv q=>⟨v,H',J.os,J.bare,J.base,J.hok,rv,q⟩
 cases fl with
 | ret u =>
   obtain⟨v,σ',H',J,rv,q⟩:=hs
   exact fin J rv q
 | next =>
   obtain⟨σ',H',J,q⟩:=hs
   exact fin (v:=V.non) (u:=Zh) J rfl q
 | brk =>
   obtain⟨_,_,_,q⟩:=hs
   exact Z3 q
 | cont =>
   obtain⟨_,_,_,q⟩:=hs
   exact Z3 q
section
variable {X : Cx} {x : Str} {p pos : Pos} {e : Expr} {es : List Expr} {t : TA} {id T : String} {r : List V → Hp → VK → Prop}
def tCB(r:List V->Hp->VK->Prop)(t:TA):TE:=λσ H Q=>t σ H λvs H1=>r vs H1 Q
theorem zhr(hc:CallR X (.builtin id) r)(hg:Gl X x)(hm:X.mg x=none)(hv:bootBuiltins x=some (.builtin id))(ha:PA X (e::es) t)(hn:x ≠ "__name__" := by decide)(hdb:(x == ("__debug__" : Str))=false:=by decide)
 (he:starEach (e::es) X.env=(false,eval e X.env)::starEach es X.env:=by rfl) (hpl:(backTo pos (starEach es X.env)).any (·.1)=false:=by rfl):PE X (.Call (.Name x p) (e::es) [] pos) (tCB r t):=by
 intro pins s σ H Q I h
 refine wpAny_Call_Name_kw (zcf I hg hm hv ?_ hn hdb)
 exact Z0 (thn (ha pos pins s σ H _ I h) λus s1 ⟨vs,H1,I1,r1,q1⟩=>hc pins s1 σ H1 vs us Q I1 r1 q1) he hpl
theorem zmc(hc:CallR X (.type T) r)(hg:Gl X x)(hm:X.mg x=none)(hv:bootBuiltins x=some (.type T))(ha:PA X (e::es) t)(hn:x ≠ "__name__" := by decide)(hdb:(x == ("__debug__" : Str))=false:=by decide)
 (he:starEach (e::es) X.env=(false,eval e X.env)::starEach es X.env:=by rfl) (hpl:(backTo pos (starEach es X.env)).any (·.1)=false:=by rfl):PE X (.Call (.Name x p) (e::es) [] pos) (tCB r t):=by
 intro pins s σ H Q I h
 refine wpAny_Call_Name_kw (zcf I hg hm hv ?_ hn hdb)
 exact Zt (thn (ha pos pins s σ H _ I h) λus s1 ⟨vs,H1,I1,r1,q1⟩=>hc pins s1 σ H1 vs us Q I1 r1 q1) he hpl
end
end L2
namespace HT
open PySem PyProof.Rows
section
variable {prog : Program} {w : World} {A : Around} {E : Value → Shared → Prop} {s : Shared}
theorem cat_tup{t b:Addr}{vs ws:List Value}{Q:Value->Shared->Prop}(ht:IsTup s.heap t vs.toArray)(hb:IsTup s.heap b ws.toArray)(hv:vs ≠ [])
 (h1:ws = []->Q (.ref t) s) (h2:ws ≠ []->Q (.ref s.heap.objs.size) { s with heap:=s.heap.push { cls := .type "tuple", data := .seq (vs++ws).toArray } })
 (hsz:vs.length+ws.length<=sizeLine):wpAny (model prog w) A (binaryOp .Add (.ref t) (.ref b)) Q E s:=by
 obtain⟨⟨cls,dd,data,sl⟩,ho,hc,n,hd⟩:=id ht
 obtain⟨⟨cls2,dd2,data2,sl2⟩,ho2,hc2,n2,hd2⟩:=id hb
 simp only at hc hd hc2 hd2
 subst hc hd hc2 hd2
 have e:vs.toArray++ws.toArray=(vs++ws).toArray:=by simp
 by_cases hw:ws = []
 ·exact concat_meets ⟨_,ho,rfl⟩ ⟨_,ho2,rfl⟩ noFill_tuple_add seq_tuple_add Yt Yo (Yg _ _)
   (tuple_addW1 t b vs.toArray ws.toArray n n2 dd dd2 sl sl2 (by simpa using hv) (by simp[hw])) ⟨ho,ho2,h1 hw⟩
 ·refine concat_meets ⟨_,ho,rfl⟩ ⟨_,ho2,rfl⟩ noFill_tuple_add seq_tuple_add Yt Yo (Yg _ _)
   (tuple_addW2 t b vs.toArray ws.toArray n n2 dd dd2 sl sl2 (by simpa using hv) (by simpa using hw) (by rw[Qs,Qs];exact hsz)) ⟨ho,ho2,?_⟩
  rw[e]
  exact h2 hw
def sIx(n d:Nat):Option Int->Nat
 | none=>d
 | some v=>if v<0 then(v+(n:Int)).toNat else min v.toNat n
theorem sIx_le(n d:Nat)(hd:d<=n)(o:Option Int):sIx n d o<=n:=by
 cases o with
 | none=>exact hd
 | some v =>
   show(if v<0 then(v+(n:Int)).toNat else min v.toNat n)<=n
   by_cases hv:v<0
   ·rw[if_pos hv];omega
   ·rw[if_neg hv];exact Nat.min_le_right _ _
theorem clip_eq(v:Int)(n d:Nat):(if v<0 then max (v+(n:Int)) 0 else min v (n:Int))=((sIx n d (some v):Nat):Int):=by
 show(if v<0 then max (v+(n:Int)) 0 else min v (n:Int))=(((if v<0 then(v+(n:Int)).toNat else min v.toNat n):Nat):Int)
 by_cases hv:v<0
 ·simp only[if_pos hv];omega
 ·simp only[if_neg hv];omega
theorem zs0(lo hi:Option Int)(n:Nat):JZ lo hi 1 (n:Int)=(((sIx n 0 lo:Nat):Int),((sIx n n hi:Nat):Int)):=by
 have h1:¬ ((1:Int)<0):=by omega
 unfold JZ
 simp only[h1,if_false]
 refine Prod.ext ?_ ?_
 ·cases lo with
  | none=>rfl
  | some v=>exact clip_eq v n 0
 ·cases hi with
  | none=>rfl
  | some v=>exact clip_eq v n n
theorem zso(i j:Nat):Jt (i:Int) (j:Int) 1=j - i:=by
 unfold Jt
 have h1:(1:Int) > 0:=by omega
 simp only[h1,if_true,Int.ediv_one]
 split <;> omega
theorem zj6{v:Value}{o:Option Int}{Q:Option Int->Shared->Prop}(p:IsPart v o)(h:Q o s):wpAny (model prog w) A (Builtin.Slice.slicePartIndex v) Q E s:=by
 cases p with
 | none=>exact slicePart_none h
 | int i t=>exact slicePart_int h
theorem sliceApplied_gen{sl:Addr}{vl vu:Value}{lo hi:Option Int}{n:Nat}{Q:Int × Int × Nat->Shared->Prop}(hs:s.heap.IsSliceOf sl vl vu .none)(pl:IsPart vl lo)(pu:IsPart vu hi)
 (h:Q (((sIx n 0 lo:Nat):Int),1,sIx n n hi - sIx n 0 lo) s):wpAny (model prog w) A (YY (.ref sl) (pure (n:Int))) Q E s:=by
 obtain⟨os,hos,hcs,hds⟩:=id hs
 unfold YY Builtin.Slice.sliceFields
 refine wpAny_bind (wpAny_bind (wpAny_field hos hds (x:=vl) rfl (wpAny_bind (wpAny_field hos hds (x:=vu) rfl (wpAny_bind (wpAny_field hos hds (x := .none) rfl (wpAny_pure ?_)))))))
 refine wpAny_bind (slicePart_none ?_)
 show wpAny _ _ (if((1:Int) == 0)=true then _ else _) _ _ s
 rw[if_neg (by decide)]
 refine wpAny_bind (zj6 pl (wpAny_bind (zj6 pu (wpAny_bind (wpAny_pure ?_)))))
 show wpAny _ _ (match JZ lo hi 1 (n:Int) with|(lo,hi)=>pure (lo,(1:Int),Jt lo hi 1)) _ _ s
 rw[zs0 lo hi n]
 show wpAny _ _ (pure (((sIx n 0 lo:Nat):Int),(1:Int),Jt ((sIx n 0 lo:Nat):Int) ((sIx n n hi:Nat):Int) 1)) _ _ s
 rw[zso]
 exact wpAny_pure h
theorem zw3(xs:Array Value)(i k:Nat):((Yl k).filterMap λ(m:Nat)=>xs[((i:Int)+(m:Int) * 1).toNat]?).toArray=((xs.toList.drop i).take k).toArray:=by
 have e:(λ(m:Nat)=>xs[((i:Int)+(m:Int) * 1).toNat]?)=λm=>xs[i+m]?:=by
  funext m
  have:((i:Int)+(m:Int) * 1).toNat=i+m:=by omega
  rw[this]
 rw[e]
 have:=pick_run xs i k
 rw[List.filterMap_map] at this
 have e2:((λx=>xs[x]?) ∘ λx=>i+x)=λm=>xs[i+m]?:=rfl
 rw[e2] at this
 rw[this]
theorem getItem_tuple_cut{t sl:Addr}{items:Array Value}{vl vu:Value}{lo hi:Option Int}{Q:Value->Shared->Prop}(ht:IsTup s.heap t items)(hs:s.heap.IsSliceOf sl vl vu .none)(pl:IsPart vl lo)(pu:IsPart vu hi)
 (hw:¬ (sIx items.size 0 lo=0/\sIx items.size items.size hi=items.size))
 (h:Q (.ref s.heap.objs.size) { s with heap:=s.heap.push { cls := .type "tuple", data := .seq ((items.toList.drop (sIx items.size 0 lo)).take (sIx items.size items.size hi - sIx items.size 0 lo)).toArray } })
 (hsz:items.size<=sizeLine):wpAny (model prog w) A (getItem (.ref t) (.ref sl)) Q E s:=by
 have htake:sizeOk (.seq ((items.toList.drop (sIx items.size 0 lo)).take (sIx items.size items.size hi - sIx items.size 0 lo)).toArray):=by
  show((items.toList.drop (sIx items.size 0 lo)).take (sIx items.size items.size hi - sIx items.size 0 lo)).toArray.size<=sizeLine
  rw[Qs,ZJ,Z1,Ja]
  omega
 have hj:sIx items.size items.size hi<=items.size:=sIx_le _ _ (Qt _) hi
 obtain⟨os,hos,hcs,hds⟩:=id hs
 have hTs:s.TypeIs (.ref sl) "slice" := ⟨os,hos,hcs⟩
 unfold getItem
 try with_reducible refine wpAny_holding ?_
 first|refine wpAny_bind (wpAny_pure ?_)|skip
 refine wpAny_bind (wpAny_sequenceKey ht.typeIs (by decide) ?_)
 refine wpAny_bind (wpAny_callSpecial?_slot (name:=Qi "__getitem__") ht.typeIs Zu
  (wpAny_call_entry Zu ht.typeIs entry_tuple_getitem ?_ (args_tuple_getitem _ _)))
 show wpAny _ _ (YZ (.ref t) >>= _) _ _ s
 refine wpAny_bind (tupleItemsOf_ ht ?_)
 refine wpAny_bind (wpAny_typeOf hTs ?_)
 rw[if_pos (by decide)]
 refine wpAny_bind (sliceApplied_gen hs pl pu ?_)
 have hno:¬ ((((sIx items.size 0 lo:Nat):Int) == 0 && (1:Int) == 1 && (sIx items.size items.size hi - sIx items.size 0 lo) == items.size)=true):=by
  intro q
  rw[Qp,Qp] at q
  have q1:((sIx items.size 0 lo:Nat):Int)=0:=eq_of_beq q.1.1
  have q2:sIx items.size items.size hi - sIx items.size 0 lo=items.size:=eq_of_beq q.2
  exact hw ⟨by omega,by omega⟩
 show wpAny _ _ (if(((sIx items.size 0 lo:Nat):Int) == 0 && (1:Int) == 1 && (sIx items.size items.size hi - sIx items.size 0 lo) == items.size)=true then _ else _) _ _ s
 rw[if_neg hno,zw3]
 first
  | exact wpAny_bind (m:=Jy _) (wpAny_newObj_type (wpAny_pure ⟨_,rfl,wpAny_pure h⟩) htake)
  | exact wpAny_bind (m:=Jy _) (wpAny_newObj_type (wpAny_bind (wpAny_pure (wpAny_pure ⟨_,rfl,wpAny_pure h⟩))) htake)
  | exact wpAny_bind (wpAny_bind (m:=Jy _) (wpAny_newObj_type (wpAny_pure (wpAny_pure ⟨_,rfl,wpAny_pure h⟩)) htake))
  | exact wpAny_bind (wpAny_bind (m:=Jy _) (wpAny_newObj_type (wpAny_pure ⟨_,rfl,wpAny_pure h⟩) htake))
end
end HT
namespace L2
open PySem PySem.Spec PyProof.Rows
abbrev TO:=St->Hp->(Option Int->Hp->Prop)->Prop
def PO(X:Cx)(e:Option Expr)(t:TO):Prop :=
 ∀ (pins:List (Addr × Obj)) (s:Shared) (σ:St) (H:Hp) (Q:Option Int->Hp->Prop),Inv X pins σ H s->t σ H Q ->
   wpAny (model X.prog X.w) X.A (evalPart e X.env) (λu s'=>∃ o H',Inv X pins σ H' s'/\IsPart u o/\Q o H') X.xe s
def zqo:TO:=λ_ H Q=>Q none H
def zzn(t:TE):TO:=λσ H Q=>t σ H λx H1=>∃ i,x = .int i/\Q (some i) H1
section
variable {X : Cx} {e : Expr} {te : TE} {lo hi : Option Expr} {tl th : TO} {pos p2 : Pos}
theorem z2v:PO X none zqo:=by
 intro pins s σ H Q I h
 rw[evalPart_none]
 exact wpAny_pure ⟨none,H,I,.none,h⟩
theorem z1e(h:PE X e te):PO X (some e) (zzn te):=by
 intro pins s σ H Q I hw
 rw[evalPart_some]
 refine thn (h pins s σ H _ I hw) λu s1 ⟨x,H1,I1,r1,q1⟩=>?_
 obtain⟨i,rfl,q⟩:=q1
 obtain⟨t,rfl⟩:=r1
 exact⟨some i,H1,I1,.int i t,q⟩
def SlR(X:Cx)(r:V->Option Int->Option Int->Hp->VK->Prop):Prop :=
 ∀ (pins:List (Addr × Obj)) (s:Shared) (σ:St) (H:Hp) (x:V) (v vl vu:Value) (lo hi:Option Int) (sl:Addr) (Q:VK),Inv X pins σ H s->RelV x v->s.heap.IsSliceOf sl vl vu .none->IsPart vl lo->IsPart vu hi->r x lo hi H Q ->
   ∃ T id,typeLookup (.type T) "__getitem__" = pure (some (.builtin id))/\s.TypeIs v T/\wpAny (model X.prog X.w) X.A (getItem v (.ref sl)) (EP X pins σ Q) X.xe s
theorem SlR.or{r r':V->Option Int->Option Int->Hp->VK->Prop}(h:SlR X r)(h':SlR X r'):SlR X (λx lo hi H Q=>r x lo hi H Q\/r' x lo hi H Q):=by
 intro pins s σ H x v vl vu lo hi sl Q I rx hs pl pu q
 rcases q with q|q
 ·exact h pins s σ H x v vl vu lo hi sl Q I rx hs pl pu q
 ·exact h' pins s σ H x v vl vu lo hi sl Q I rx hs pl pu q
def tSl(r:V->Option Int->Option Int->Hp->VK->Prop)(te:TE)(tl th:TO):TE:=λσ H Q=>te σ H λx H1=>tl σ H1 λl H2=>th σ H2 λu H3=>r x l u H3 Q
theorem zy1{r:V->Option Int->Option Int->Hp->VK->Prop}(hr:SlR X r)(he:PE X e te)(hl:PO X lo tl)(hu:PO X hi th):PE X (.Subscript e (.Slice lo hi none p2) pos) (tSl r te tl th):=by
 intro pins s σ H Q I h
 refine Subscript_ (thn (he pins s σ H _ I h) λv s1 ⟨x,H1,I1,r1,q1⟩=>?_)
 refine wpAny_Slice (thn (hl pins s1 σ H1 _ I1 q1) λvl s2 ⟨l,H2,I2,pl,q2⟩=>thn (hu pins s2 σ H2 _ I2 q2) λvu s3 ⟨u,H3,I3,pu,q3⟩=>?_)
 rw[evalPart_none]
 refine wpAny_pure ?_
 have I4:Inv X pins σ H3 { s3 with heap:=s3.heap.push { cls := .type "slice", data := .fields #[vl,vu,.none] } }:=I3.kept (t':=s3.toks) λb ob q=>Qb _ q
 obtain⟨T,id,hT,ht,hg⟩:=hr pins { s3 with heap:=s3.heap.push { cls := .type "slice", data := .fields #[vl,vu,.none] } } σ H3 x v vl vu l u s3.heap.objs.size Q I4 r1 (Heap.IsSliceOf.new ..) pl pu q3
 show wpAny (model X.prog X.w) X.A (subscriptTail e (.Slice lo hi none p2) v (.ref s3.heap.objs.size)) (EP X pins σ Q) X.xe { s3 with heap:=s3.heap.push { cls := .type "slice", data := .fields #[vl,vu,.none] } }
 exact tail_any (ops := [.ref s3.heap.objs.size,v]) ht hT hg (by with_unfolding_all rfl)
def cutV(xs:List V)(lo hi:Option Int):List V:=(xs.drop (HT.sIx xs.length 0 lo)).take (HT.sIx xs.length xs.length hi - HT.sIx xs.length 0 lo)
theorem zjm(xs:List V)(lo hi:Option Int):(cutV xs lo hi).length<=xs.length:=by
 unfold cutV
 rw[ZJ,Z1]
 omega
def rSlT(K:Qa):V->Option Int->Option Int->Hp->VK->Prop:=λx lo hi H Q=>∃ a xs,x = .ref a/\SqT K H a xs /\
 ¬ (HT.sIx xs.length 0 lo=0/\HT.sIx xs.length xs.length hi=xs.length)/\∀ p,H p=none->Q (.ref p) (upd H p (.tup (cutV xs lo hi)))
theorem sl_tup:SlR X (rSlT X.K):=by
 intro pins s σ H x v vl vu lo hi sl Q I rx hs pl pu h
 obtain⟨a,xs,rfl,hx,hw,q⟩:=h
 cases rx
 obtain⟨its,r,ht,hz⟩:=I.tuple hx
 have hlen:its.toArray.size=xs.length:=by rw[Qs];exact r.length.symm
 refine⟨"tuple", _,Zu.lookup,ht.typeIs,?_⟩
 refine HT.getItem_tuple_cut ht hs pl pu (by rw[hlen];exact hw) ?_ (by rw[hlen];exact hz)
 rw[hlen]
 refine⟨.ref s.heap.objs.size,_,I.laid (t':=s.toks) (o := .tup (cutV xs lo hi)) (λb ob q=>Qb _ q) (Qt _) ?_,rfl,q _ (I.hok.fresh (Qt _))⟩
 exact⟨Q2 (zjm xs lo hi) hz,_,(r.drop (HT.sIx xs.length 0 lo)).take (HT.sIx xs.length xs.length hi - HT.sIx xs.length 0 lo),j8 _ _⟩
def zzl(K:Qa):R2:=λx y H Q=>∃ a b xs ys,x = .ref a/\y = .ref b/\SqT K H a xs/\SqT K H b ys/\xs ≠ []/\xs.length+ys.length<=sizeLine /\
 (ys = []->Q (.ref a) H)/\(ys ≠ []->∀ p,H p=none->Q (.ref p) (upd H p (.tup (xs++ys))))
theorem Vals.nil_iff{xs:List V}{us:List Value}(r:Vals xs us):us = []↔xs = []:=by
 cases r with
 | nil=>simp
 | cons _ _=>simp
theorem op_catT:OpR X (binaryOp .Add) (zzl X.K):=by
 intro pins s σ H x y v u Q I rx ry h
 obtain⟨a,b,xs,ys,rfl,rfl,ha,hb,hx,hz,q1,q2⟩:=h
 cases rx
 cases ry
 obtain⟨its,r1,p1,_⟩:=I.tuple ha
 obtain⟨its2,r2,p2,_⟩:=I.tuple hb
 refine HT.cat_tup p1 p2 (λz=>hx (r1.nil_iff.mp z)) (λz=>⟨.ref a,H,I,rfl,q1 (r2.nil_iff.mp z)⟩) (λz=>?_) (by rw[<- r1.length,<- r2.length];exact hz)
 refine⟨.ref s.heap.objs.size,_,I.laid (t':=s.toks) (o := .tup (xs++ys)) (λb ob q=>Qb _ q) (Qt _) ?_,rfl,q2 (λw=>z (r2.nil_iff.mpr w)) _ (I.hok.fresh (Qt _))⟩
 exact⟨by rw[Qf];exact hz,_,r1.append r2,j8 _ _⟩
end
def ixN(n:Nat)(i:Int):Option Nat:=if 0<=i then(if i<n then some i.toNat else none) else if -(n:Int)<=i then some (i+n).toNat else none
def atI{α:Type}(xs:List α)(i:Int):Option α:=(ixN xs.length i).bind λj=>xs[j]?
theorem zqf{n:Nat}{i:Int}{j:Nat}(h:ixN n i=some j):seqIndex? i n=some j/\j<n/\-(n:Int)<=i/\i<n:=by
 unfold ixN at h
 by_cases h0:0<=i
 ·rw[if_pos h0] at h
  by_cases h1:i<n
  ·rw[if_pos h1] at h
   have e:i.toNat=j:=Zy h
   exact⟨by rw[seqIndex_of h0 h1,e],by omega,by omega,h1⟩
  ·rw[if_neg h1] at h;cases h
 ·rw[if_neg h0] at h
  by_cases h1:-(n:Int)<=i
  ·rw[if_pos h1] at h
   have e:(i+n).toNat=j:=Zy h
   exact⟨by rw[seqIndex_neg (by omega) h1,e],by omega,h1,by omega⟩
  ·rw[if_neg h1] at h;cases h
theorem zl2{α:Type}{xs:List α}{i:Int}{v:α}(h:atI xs i=some v):∃ j,seqIndex? i xs.length=some j/\xs[j]? = some v/\j<xs.length/\-(xs.length:Int)<=i/\i<xs.length:=by
 unfold atI at h
 cases e:ixN xs.length i with
 | none=>rw[e] at h;cases h
 | some j =>
   rw[e] at h
   obtain⟨h1,h2,h3,h4⟩:=zqf e
   exact⟨j,h1,h,h2,h3,h4⟩
theorem zg0{α:Type}{xs:List α}{j:Nat}{v:α}(h:xs[j]? = some v):atI xs (j:Int)=some v:=by
 have hj:j<xs.length:=(QE.mp h).1
 have e:ixN xs.length (j:Int)=some j:=by
  unfold ixN
  rw[if_pos (by omega),if_pos (by omega)];simp
 unfold atI;rw[e];exact h
def zha(b:Expr):Prop:=∀ o i,subscripted b false o i=operate [o,i] (getItem o i)
def IxR(X:Cx)(r:R2):Prop :=
 ∀ (value slice:Expr) (pins:List (Addr × Obj)) (s:Shared) (σ:St) (H:Hp) (x y:V) (v u:Value) (Q:VK),Inv X pins σ H s->RelV x v->RelV y u->r x y H Q ->
   subscripted slice false v u=operate [v,u] (getItem v u)->wpAny (model X.prog X.w) X.A (subscriptTail value slice v u) (EP X pins σ Q) X.xe s
def MtR(X:Cx)(id:String)(r:V->List V->Hp->VK->Prop):Prop :=
 ∀ (pins:List (Addr × Obj)) (s:Shared) (σ:St) (H:Hp) (x:V) (xs:List V) (v:Value) (us:List Value) (Q:VK),Inv X pins σ H s->RelV x v->Vals xs us->r x xs H Q ->
   wpAny (model X.prog X.w) X.A (call (.builtin id) (v::us)) (EP X pins σ Q) X.xe s
section
variable {X : Cx} {a b : Expr} {ta tb : TE} {pos : Pos}
theorem IxR.or{r r':R2}(h:IxR X r)(h':IxR X r'):IxR X (λx y H Q=>r x y H Q\/r' x y H Q):=by
 intro value slice pins s σ H x y v u Q I rx ry q hs
 rcases q with q|q
 ·exact h value slice pins s σ H x y v u Q I rx ry q hs
 ·exact h' value slice pins s σ H x y v u Q I rx ry q hs
theorem zby{r:R2}(hr:IxR X r)(ha:PE X a ta)(hb:PE X b tb)(hs:zha b):PE X (.Subscript a b pos) (tOp r ta tb):=by
 intro pins s σ H Q I h
 exact Subscript_ (binT ha hb I h λv u s2 x y H2 I2 rx ry q=>hr a b pins s2 σ H2 x y v u Q I2 rx ry q (hs _ _))
def rIxL(K:Qa):R2:=λx y H Q=>∃ p xs i v,x = .ref p/\y = .int i/\SqL K H p xs/\atI xs i=some v/\Q v H
def rIxT(K:Qa):R2:=λx y H Q=>∃ p xs i v,x = .ref p/\y = .int i/\SqT K H p xs/\atI xs i=some v/\Q v H
def rIxS:R2:=λx y H Q=>∃ z i c,x = .str z/\y = .int i/\z.length<=sizeLine/\atI z.cps.toList i=some c/\Q (.str ⟨#[c]⟩) H
theorem ix_list:IxR X (rIxL X.K):=by
 intro value slice pins s σ H x y v u Q I rx ry h hs
 obtain⟨p,xs,i,z,rfl,rfl,hq,he,q⟩:=h
 cases rx
 obtain⟨t,rfl⟩:=ry
 obtain⟨its,r,pl,hz⟩:=I.list hq
 obtain⟨j,h1,h2,h3,h4,h5⟩:=zl2 he
 obtain⟨w,ew,rw'⟩:=r.get h2
 have hl:=r.length
 have hn:=zg6
 have fin:EP X pins σ Q w s:=⟨z,H,I,rw',q⟩
 by_cases h0:0<=i
 ·have hj:i.toNat=j:=by
   rw[seqIndex_of h0 h5] at h1
   exact Zy h1
  exact item_listR pl.isList h0 (by omega) (by rw[hj];simpa using ew) fin hs
 ·have hj:(i+(its.toArray.size:Int)).toNat=j:=by
   rw[seqIndex_neg (by omega) h4] at h1
   rw[Qs,<- hl]
   exact Zy h1
  exact subscriptTail_builtinR (x:=w) pl.isList.typeIs slot_list_getitem.lookup
   (wpAny_getItem_list_neg (Q:=λr s'=>r=w/\EP X pins σ Q r s') pl.isList (by omega) (by rw[Qs] <;> omega) (by omega) (by rw[hj];simpa using ew) ⟨rfl,fin⟩) hs
theorem ix_tup:IxR X (rIxT X.K):=by
 intro value slice pins s σ H x y v u Q I rx ry h hs
 obtain⟨p,xs,i,z,rfl,rfl,hq,he,q⟩:=h
 cases rx
 obtain⟨t,rfl⟩:=ry
 obtain⟨its,r,pl,hz⟩:=I.tuple hq
 obtain⟨j,h1,h2,h3,h4,h5⟩:=zl2 he
 obtain⟨w,ew,rw'⟩:=r.get h2
 have hl:=r.length
 have hn:=zg6
 have fin:EP X pins σ Q w s:=⟨z,H,I,rw',q⟩
 exact subscriptTail_builtinR (x:=w) pl.typeIs slot_tuple_getitem.lookup
  (getItem_tuple (j:=j) (Q:=λr s'=>r=w/\EP X pins σ Q r s') pl (by omega) (by omega) (by rw[Qs,<- hl];exact h1) (by simpa using ew) ⟨rfl,fin⟩) hs
theorem z9a:IxR X rIxS:=by
 intro value slice pins s σ H x y v u Q I rx ry h hs
 obtain⟨z,i,c,rfl,rfl,hz,he,q⟩:=h
 obtain⟨t,rfl⟩:=rx
 obtain⟨t',rfl⟩:=ry
 obtain⟨j,h1,h2,h3,h4,h5⟩:=zl2 he
 have hl:z.cps.toList.length=z.length:=by simp[ja]
 rw[hl] at h1 h4 h5
 have hn:=zg6
 exact tail_any (typeIs_str s z t) slot_str_getitem.lookup (getItem_str (c:=c) (by
  have e1:decide (i < -(2 ^ 63:Int))=false:=decide_eq_false (by omega)
  have e2:decide (i ≥ 2 ^ 63)=false:=decide_eq_false (by omega)
  rw[e1,e2,qk]) (by rw[h1];simpa using h2) ⟨.str ⟨#[c]⟩,H,I.tok _,⟨_,rfl⟩,q⟩) hs
def rIx(K:Qa):R2:=λx y H Q=>rIxL K x y H Q\/rIxT K x y H Q\/rIxS x y H Q
theorem zkh:IxR X (rIx X.K):=ix_list.or (ix_tup.or z9a)
theorem zsk(its:List Value)(n j:Nat)(u:Value):ZM (·.setIfInBounds j u) { cls := .type "list", data := .seq its.toArray n } = { cls := .type "list", data := .seq (its.set j u).toArray n }:=by
 simp[ZM]
theorem Inv.lst{pins:List (Addr × Obj)}{σ:St}{H:Hp}{s:Shared}{p:Addr}{xs:List V}(I:Inv X pins σ H s)(h:H p=some (.lst xs)) :
 ∃ (its:List Value) (n:Nat),Vals xs its/\s.heap.get? p=some { cls := .type "list", data := .seq its.toArray n }/\xs.length<=sizeLine:=by
 obtain⟨z,its,n,r,e⟩:=I.hok p _ h
 exact⟨its,n,r,e,z⟩
theorem Inv.lstUpd{pins:List (Addr × Obj)}{σ:St}{H:Hp}{s:Shared}{p:Addr}{xs ys:List V}{its its':List Value}{n n':Nat}{f:Obj->Obj}(I:Inv X pins σ H s)(h:H p=some (.lst xs))
 (ho:s.heap.get? p=some { cls := .type "list", data := .seq its.toArray n }) (hf:f { cls := .type "list", data := .seq its.toArray n } = { cls := .type "list", data := .seq its'.toArray n' }) (r:Vals ys its') (hz:ys.length<=sizeLine) (t:Nat) :
 Inv X pins σ (upd H p (.lst ys)) { s with heap:=s.heap.update p f,toks:=t }:=by
 have e:(s.heap.update p f).get? p=some { cls := .type "list", data := .seq its'.toArray n' }:=by
  rw[QT f ho (by rw[hf] <;> rfl),hf]
 refine I.write (x:=p) (e:=p) (by rw[h];trivial) (.inl rfl) (λb u hb q=>(QJ _ _ (ZY hb)).trans q) ⟨_,e⟩ ?_
 exact⟨hz,its',n',r,e⟩
def zhy:V->V->V->Hp->(Hp->Prop)->Prop:=λo i v H Q=>∃ p xs k j,o = .ref p/\i = .int k/\H p=some (.lst xs)/\ixN xs.length k=some j/\Q (upd H p (.lst (xs.set j v)))
theorem zgh:PSet X zhy:=by
 intro pins s σ H o i v ov iv u Q I ro ri rv h
 obtain⟨p,xs,k,j,rfl,rfl,hp,hj,q⟩:=h
 cases ro
 obtain⟨t,rfl⟩:=ri
 obtain⟨its,n,r,ho,hz⟩:=I.lst hp
 obtain⟨h1,h2,h3,h4⟩:=zqf hj
 have hl:=r.length
 have hn:=zg6
 have I':Inv X pins σ (upd H p (.lst (xs.set j v))) { s with heap:=s.heap.update p (ZM (·.setIfInBounds j u)) } :=
  I.lstUpd hp ho (zsk its n j u) (r.set rv j) (by rw[Zj];exact hz) s.toks
 by_cases h0:0<=k
 ·have hk:k.toNat=j:=by
   rw[seqIndex_of h0 h4] at h1
   exact Zy h1
  exact PySem.W.ki_setAt ho h0 (by omega) (by rw[Qs,<- hl];exact h4) (by rw[hk];exact⟨_,I',q⟩)
 ·have hk:(k+(its.toArray.size:Int)).toNat=j:=by
   rw[seqIndex_neg (by omega) h3] at h1
   rw[Qs,<- hl]
   exact Zy h1
  exact PySem.W.ki_setBack ho (by omega) (by rw[Qs,<- hl];exact h3) (by omega) (by rw[hk];exact⟨_,I',q⟩)
theorem zpf(lo hi:Option Int)(n:Nat):(sliceBounds lo hi none n).1=((HT.sIx n 0 lo:Nat):Int)/\(sliceBounds lo hi none n).2.1=((HT.sIx n n hi:Nat):Int)/\(sliceBounds lo hi none n).2.2=1:=by
 refine⟨?_,?_,rfl⟩
 ·cases lo with
  | none=>simp[sliceBounds,HT.sIx]
  | some i =>
    simp only[sliceBounds,HT.sIx,qQ,show(1:Int) > 0 by decide,if_true]
    by_cases h:i<0
    ·simp only[h,if_true] <;> omega
    ·simp only[h,if_false] <;> omega
 ·cases hi with
  | none=>simp[sliceBounds,HT.sIx]
  | some i =>
    simp only[sliceBounds,HT.sIx,qQ,show(1:Int) > 0 by decide,if_true]
    by_cases h:i<0
    ·simp only[h,if_true] <;> omega
    ·simp only[h,if_false] <;> omega
theorem zm9(its:List Value)(lo hi:Option Int):slicePick its.toArray lo hi none=((its.drop (HT.sIx its.length 0 lo)).take (HT.sIx its.length its.length hi - HT.sIx its.length 0 lo)).toArray:=by
 obtain⟨h1,h2,h3⟩:=zpf lo hi its.toArray.size
 unfold slicePick
 rw[h1,h2,h3]
 simp only[sliceRange_one,pick_run,Qs] <;> rfl
def rSlL(K:Qa):V->Option Int->Option Int->Hp->VK->Prop:=λx lo hi H Q=>∃ a xs,x = .ref a/\SqL K H a xs/\∀ p,H p=none->Q (.ref p) (upd H p (.lst (cutV xs lo hi)))
theorem sl_list:SlR X (rSlL X.K):=by
 intro pins s σ H x v vl vu lo hi sl Q I rx hs pl pu h
 obtain⟨a,xs,rfl,hx,q⟩:=h
 cases rx
 obtain⟨its,r,ht,hz⟩:=I.list hx
 have hlen:=r.length
 refine⟨"list", _,slot_list_getitem.lookup,ht.isList.typeIs,?_⟩
 refine wpAny_getItem_list_slice ht.isList hs pl pu .none (by simp) ?_ (by rw[Qs] <;> omega)
 rw[zm9,<- hlen]
 refine⟨.ref s.heap.objs.size,_,I.laid (t':=s.toks) (o := .lst (cutV xs lo hi)) (λb ob q=>Qb _ q) (Qt _) ?_,rfl,q _ (I.hok.fresh (Qt _))⟩
 exact⟨Q2 (zjm xs lo hi) hz,_,0,(r.drop (HT.sIx xs.length 0 lo)).take (HT.sIx xs.length xs.length hi - HT.sIx xs.length 0 lo),Qq _ rfl⟩
theorem CallR.or{f:Value}{r r':List V->Hp->VK->Prop}(h:CallR X f r)(h':CallR X f r'):CallR X f (λxs H Q=>r xs H Q\/r' xs H Q):=by
 intro pins s σ H xs us Q I rs q
 rcases q with q|q
 ·exact h pins s σ H xs us Q I rs q
 ·exact h' pins s σ H xs us Q I rs q
theorem zic:CallR X (.type "list") (λxs H Q=>∃ p ys,xs = [.ref p]/\(SqL X.K H p ys\/SqT X.K H p ys)/\∀ l,H l=none->Q (.ref l) (upd H l (.lst ys))):=by
 intro pins s σ H xs us Q I r h
 obtain⟨p,ys,rfl,hq,q⟩:=h
 obtain⟨u,rfl,rx⟩:=zgk r
 cases rx
 have fin:∀ (its:List Value),Vals ys its->ys.length<=sizeLine->∀ (h':Heap) (c':Nat),(∀ b o',s.heap.get? b=some o'->h'.get? b=some o') ->
  h'.get? s.heap.objs.size=some { cls := .type "list", dict:=none,data := .seq its.toArray c',slots:=#[] }->EP X pins σ Q (.ref s.heap.objs.size) { s with heap:=h' }:=λits r' hz h' c' kp e =>
  ⟨.ref s.heap.objs.size,_,I.laid (t':=s.toks) kp (Qt _) (show ObjOk X.prog X.w _ h' _ (.lst ys) from⟨hz,its,c',r',e⟩),rfl,q _ (I.hok.fresh (Qt _))⟩
 rcases hq with hq|hq
 ·obtain⟨its,r',pl,hz⟩:=I.list hq
  have hlen:=r'.length
  obtain⟨o,ho,hc,n,hd⟩:=pl.isList
  exact call_list_seq p (.inl rfl) ho hc hd (λh' c' kp e=>fin its r' hz h' c' kp e) (by simp only[Qs] <;> omega)
 ·obtain⟨its,r',pl,hz⟩:=I.tuple hq
  have hlen:=r'.length
  obtain⟨o,ho,hc,n,hd⟩:=pl
  exact call_list_seq p (.inr rfl) ho hc hd (λh' c' kp e=>fin its r' hz h' c' kp e) (by simp only[Qs] <;> omega)
theorem znc:CallR X (.type "tuple") (λxs H Q=>∃ p ys,xs = [.ref p]/\((SqL X.K H p ys/\∀ l,H l=none->Q (.ref l) (upd H l (.tup ys)))\/(SqT X.K H p ys/\Q (.ref p) H))):=by
 intro pins s σ H xs us Q I r h
 obtain⟨p,ys,rfl,h⟩:=h
 obtain⟨u,rfl,rx⟩:=zgk r
 cases rx
 rcases h with ⟨hq,q⟩|⟨hq,q⟩
 ·obtain⟨its,r',pl,hz⟩:=I.list hq
  have hlen:=r'.length
  refine call_tuple_list pl.isList (λh' kp=>?_) (by simp only[Qs] <;> omega)
  have I1:Inv X pins σ H { s with heap:=h' }:=I.kept (t':=s.toks) kp
  have I2:Inv X pins σ (upd H h'.objs.size (.tup ys)) { s with heap:=h'.push { cls := .type "tuple", data := .seq its.toArray } } :=
   I1.laid (t':=s.toks) (λb o e=>Qb _ e) (Qt _) (show ObjOk X.prog X.w _ _ _ (.tup ys) from⟨hz,its,r',j8 _ _⟩)
  exact⟨.ref h'.objs.size,_,I2,rfl,q _ (I1.hok.fresh (Qt _))⟩
 ·obtain⟨its,r',pl,hz⟩:=I.tuple hq
  exact call_tuple_same pl ⟨.ref p,H,I,rfl,q⟩
def tyV(K:Qa)(T:String)(x:V)(H:Hp):Prop:=match x with
 | .str _=>T = "str"
 | .int _=>T = "int"
 | .ref p=>(T = "list" /\ ∃ xs,SqL K H p xs)\/(T = "tuple" /\ ∃ o,K.lookup p=some o/\o.cls = .type "tuple" /\ o.dict=none) \/
  (T = "dict" /\ ((∃ kvs,H p=some (.dK kvs))\/∃ kvs,H p=some (.dT kvs)))\/(T = "set" /\ ∃ S n,H p=some (.set S n))
 | _=>False
theorem z9w{pins:List (Addr × Obj)}{σ:St}{H:Hp}{s:Shared}{T:String}{x:V}{v:Value}(I:Inv X pins σ H s)(r:RelV x v)(ty:tyV X.K T x H) :
 s.TypeIs v T/\∀ a,v = .ref a->∃ ob,s.heap.get? a=some ob/\ob.dict=none:=by
 cases x with
 | str z =>
   obtain⟨t,rfl⟩:=r
   cases (show T = "str" from ty)
   exact⟨typeIs_str s z t,λ_ e=>nomatch e⟩
 | int i =>
   obtain⟨t,rfl⟩:=r
   cases (show T = "int" from ty)
   exact⟨typeIs_int s i t,λ_ e=>nomatch e⟩
 | ref p =>
   cases r
   rcases ty with ⟨rfl,xs,hq⟩|⟨rfl,o,hk,hc,hd⟩|⟨rfl,hk⟩|⟨rfl,S,n,hk⟩
   ·obtain⟨its,_,pl,_⟩:=I.list hq
    refine⟨pl.isList.typeIs,λa e=>?_⟩
    cases e
    obtain⟨o,n,e,c,hd,_⟩:=pl
    exact⟨o,e,hd⟩
   ·refine⟨⟨o,I.kIn p o hk,hc⟩,λa e=>?_⟩
    cases e
    exact⟨o,I.kIn _ o hk,hd⟩
   ·have z:∃ o,s.heap.get? p=some o/\o.ExactDict:=by
     rcases hk with ⟨kvs,hk⟩|⟨kvs,hk⟩
     ·obtain⟨_,_,_,_,o,_,_,e,ex,_⟩:=I.hok p _ hk
      exact⟨o,e,ex⟩
     ·obtain⟨_,_,_,_,o,_,_,e,ex,_⟩:=I.hok p _ hk
      exact⟨o,e,ex⟩
    obtain⟨o,e,ex⟩:=z
    refine⟨⟨o,e,ex.1⟩,λa e2=>?_⟩
    cases e2
    exact⟨o,e,ex.2.1⟩
   ·obtain⟨o,_,_,_,e,ex,_⟩:=I.hok p _ hk
    refine⟨⟨o,e,ex.1⟩,λa e2=>?_⟩
    cases e2
    exact⟨o,e,ex.2.1⟩
 | _=>exact Z3 ty
def tBM(K:Qa)(T:String)(r:V->List V->Hp->VK->Prop)(to:TE)(t:TA):TE:=λσ H Q=>to σ H λx H1=>tyV K T x H1/\t σ H1 λxs H2=>r x xs H2 Q
variable {o e : Expr} {es : List Expr} {to : TE} {t : TA} {name : Str} {apos cpos : Pos} {T id : String} {r : V → List V → Hp → VK → Prop}
theorem zj1(pa:PlainAttrs T)(slot:Slot T name id)(hty:typeOf (.builtin id)=pure (.type "method_descriptor"))(hm:MtR X id r)(ho:PE X o to)(ha:PA X (e::es) t)
 (hbase:attributeBase o name X.env (eval o X.env)=eval o X.env:=by rfl)
 (hfew:((backTo cpos (starEach (e::es) X.env)).all (λx=>!x.1) && (backToKw cpos (keywordEach [] X.env)).all (λx=>x.1.isSome)
  && decide ((e::es).length+([]:List Keyword).length+(if([]:List Keyword).isEmpty then 0 else 1)<30))=true:=by rfl)
 (hline:(apos.endLine == cpos.line)=true:=by rfl) (hs:starEach (e::es) X.env=(false,eval e X.env)::starEach es X.env:=by rfl) (hplain:(backTo cpos (starEach es X.env)).any (·.1)=false:=by rfl) :
 PE X (.Call (.Attribute o name apos) (e::es) [] cpos) (tBM X.K T r to t):=by
 intro pins s σ H Q I h
 refine wpAny_Call_method_late hbase hfew hline rfl (thn (ho pins s σ H _ I h) λv s1 ⟨x,H1,I1,r1,ty,q1⟩=>?_)
 obtain⟨h1,h2⟩:=z9w I1 r1 ty
 refine⟨T,id,pa,slot,hty,h1,h2,?_⟩
 have hA:=ha cpos pins s1 σ H1 _ I1 q1
 rw[hs] at hA ⊢
 refine Calls.callWith_builtin (by show(false || (backTo cpos (starEach es X.env)).any (·.1))=false;rw[hplain] <;> rfl) (Calls.evalArgs_plain ?_)
 exact thn hA λus s2 ⟨vs,H2,I2,r2,q2⟩=>hm pins s2 σ H2 x vs v us Q I2 r1 r2 q2
/- xs.append(e),list.index on a module's tuple .. are MtR facts of 06m -/
end
def MtM(X:Cx)(id:String)(r:V->List V->Hp->VK->Prop):Prop :=
 ∀ (pins:List (Addr × Obj)) (s:Shared) (σ:St) (H:Hp) (x:V) (xs:List V) (v:Value) (us:List Value) (Q:VK),Inv X pins σ H s->RelV x v->Vals xs us->r x xs H Q ->
   wpAny (model X.prog X.w) X.A (call (.builtin id) (v::us)) (EP X pins σ Q) X.xe s
theorem Vals.one:∀ {x:V} {us:List Value},Vals [x] us->∃ u,us = [u]/\RelV x u
 | _,_,h=>by
   cases h with
   | cons r t=>cases t;exact⟨_,rfl,r⟩
theorem Vals.two:∀ {x y:V} {us:List Value},Vals [x,y] us->∃ u v,us = [u,v]/\RelV x u/\RelV y v
 | _,_,_,h=>by
   cases h with
   | cons r t =>
     cases t with
     | cons q t=>cases t;exact⟨_,_,rfl,r,q⟩
theorem Vals.rep{xs:List V}{us:List Value}(h:Vals xs us):∀ k:Nat,Vals (Qm k xs).flatten (Qm k us).flatten
 | 0 => .nil
 | k+1=>by
   rw[Z7,Z7,ZB,ZB]
   exact Vals.append h (Vals.rep h k)
theorem zh5(its:List Value):∀ (k:Nat) (acc:List Value),
 Y8 (λx1 x2=>x1++x2) acc.toArray (Qm k its.toArray)=(acc++(Qm k its).flatten).toArray
 | 0,acc=>by simp
 | k+1,acc=>by
   have e:acc.toArray++its.toArray=(acc++its).toArray:=by simp
   have e2:(acc++its)++(Qm k its).flatten=acc++(Qm (k+1) its).flatten:=by
    rw[Z7,ZB,Qw]
   rw[<- e2,<- zh5 its k (acc++its),<- e,Z7,Ju]
section
variable {X : Cx} {pins : List (Addr × Obj)} {σ : St} {H : Hp} {s : Shared} {l b : Addr} {xs ys zs : List V}
theorem Inv.lset{its its':List Value}{n:Nat}{f:Array Value->Array Value}{t':Nat}(I:Inv X pins σ H s)(hH:H l=some (.lst xs))
 (e:s.heap.get? l=some { cls := .type "list", data := .seq its.toArray n }) (hf:f its.toArray=its'.toArray) (hv:Vals ys its') (hz:ys.length<=sizeLine) :
 Inv X pins σ (upd H l (.lst ys)) { s with heap:=s.heap.update l (ZM f),toks:=t' }:=by
 have q:=PySem.IsL.update e f
 rw[hf] at q
 refine I.write (x:=l) (e:=l) (by rw[hH];exact trivial) (.inl rfl) (λb' u hb hu=>(QJ s.heap (ZM f) (ZY hb)).trans hu) ⟨_,q⟩ ?_
 exact⟨hz,its',_,hv,q⟩
theorem Inv.lnew{its:List Value}{t':Nat}(I:Inv X pins σ H s)(hv:Vals ys its)(hz:ys.length<=sizeLine) :
 Inv X pins σ (upd H s.heap.objs.size (.lst ys)) { s with heap:=s.heap.push { cls := .type "list", data := .seq its.toArray },toks:=t' } :=
 I.laid (λ_ _ q=>Qb _ q) (Qt _) ⟨hz,its,0,hv,Qq _ rfl⟩
theorem Inv.fresh(I:Inv X pins σ H s):H s.heap.objs.size=none:=I.hok.fresh (Qt _)
theorem Inv.lstM(I:Inv X pins σ H s)(hH:H l=some (.lst xs)):xs.length<=sizeLine/\∃ (its:List Value) (n:Nat),Vals xs its/\xs.length=its.length/\s.heap.get? l=some { cls := .type "list", data := .seq its.toArray n }:=by
 obtain⟨z,its,n,r,e⟩:=I.hok l _ hH
 exact⟨z,its,n,r,r.length,e⟩
theorem zpp{n:Nat}(h:n<=sizeLine):Jz n=false:=by
 unfold Jz
 exact decide_eq_false (by omega)
end
section
variable {X : Cx}
def zfx:V->List V->Hp->VK->Prop:=λx vs H Q=>∃ l xs y,x = .ref l/\vs = [y]/\H l=some (.lst xs)/\xs.length<sizeLine/\Q .non (upd H l (.lst (xs ++ [y])))
theorem zih:MtM X "list.append" zfx:=by
 intro pins s σ H x vs v us Q I rx rv h
 obtain⟨l,xs,y,rfl,rfl,hH,hz,q⟩:=h
 cases rx
 obtain⟨u,rfl,ru⟩:=rv.one
 obtain⟨z,its,n,r,hl,e⟩:=I.lstM hH
 refine call_meets F.slot_list_append ⟨_,e,rfl⟩ F.entry_list_append (F.args_list_append_2 _ _) (PySem.list_append l its.toArray n u (by rw[Qs];omega)) ⟨e,?_⟩
 refine⟨.non,_,I.lset (its':=its ++ [u]) hH e (by simp) (r.append (.cons ru .nil)) ?_,rfl,q⟩
 rw[Qf,Z8]
 omega
def zi0:V->List V->Hp->VK->Prop:=λx vs H Q=>∃ l b xs zs,x = .ref l/\vs = [.ref b]/\H l=some (.lst xs)/\H b=some (.lst zs)/\xs.length+zs.length<=sizeLine/\Q .non (upd H l (.lst (xs++zs)))
theorem zwj:MtM X "list.extend" zi0:=by
 intro pins s σ H x vs v us Q I rx rv h
 obtain⟨l,b,xs,zs,rfl,rfl,hH,hB,hz,q⟩:=h
 cases rx
 obtain⟨u,rfl,ru⟩:=rv.one
 cases ru
 obtain⟨z,its,n,r,hl,e⟩:=I.lstM hH
 obtain⟨z2,its2,n2,r2,hl2,e2⟩:=I.lstM hB
 have hsz:its.toArray.size+its2.toArray.size<=sizeLine:=by rw[Qs,Qs];omega
 have hlong:¬ (!its.toArray.isEmpty && Jz (its.toArray.size+its2.toArray.size))=true:=by
  rw[zpp hsz,QI]
  exact Qc
 refine call_meets F.slot_list_extend ⟨_,e,rfl⟩ F.entry_list_extend (F.args_list_extend_2 _ _)
  (AutoSeq1.list_extend_list_list_0 l its.toArray n b its2.toArray n2 hlong (by rw[Qs];omega) (by omega)) ⟨e,e2,?_⟩
 refine⟨.non,_,I.lset (its':=its++its2) hH e (by simp) (r.append r2) ?_,rfl,q⟩
 rw[Qf]
 omega
def rCat:R2:=λx y H Q=>∃ l b xs zs,x = .ref l/\y = .ref b/\H l=some (.lst xs)/\H b=some (.lst zs)/\xs.length+zs.length<=sizeLine/\∀ p,H p=none->Q (.ref p) (upd H p (.lst (xs++zs)))
theorem op_cat:OpR X (binaryOp .Add) rCat:=by
 intro pins s σ H x y v u Q I rx ry h
 obtain⟨l,b,xs,zs,rfl,rfl,hH,hB,hz,q⟩:=h
 cases rx
 cases ry
 obtain⟨z,its,n,r,hl,e⟩:=I.lstM hH
 obtain⟨z2,its2,n2,r2,hl2,e2⟩:=I.lstM hB
 refine PySem.P.add_list e e2 ?_ (by rw[Qs,Qs];omega)
 have ea:its.toArray++its2.toArray=(its++its2).toArray:=by simp
 rw[ea]
 exact⟨.ref _,_,I.lnew (t':=s.toks) (r.append r2) (by rw[Qf];omega),rfl,q _ I.fresh⟩
def rRep:R2:=λx y H Q=>∃ l k xs,x = .ref l/\y = .int k/\H l=some (.lst xs)/\-(2 ^ 63)<=k/\k<2 ^ 63/\xs.length * k.toNat<=sizeLine /\
 ∀ p,H p=none->Q (.ref p) (upd H p (.lst (Qm k.toNat xs).flatten))
theorem ziz{α:Type}(xs:List α)(k:Nat):(Qm k xs).flatten.length=k * xs.length:=by
 induction k with
 | zero=>simp
 | succ k ih=>rw[Z7,ZB,Qf,ih,qF,Nat.add_comm]
theorem op_rep:OpR X (binaryOp .Mult) rRep:=by
 intro pins s σ H x y v u Q I rx ry h
 obtain⟨l,k,xs,rfl,rfl,hH,h1,h2,hz,q⟩:=h
 cases rx
 obtain⟨t,rfl⟩:=ry
 obtain⟨z,its,n,r,hl,e⟩:=I.lstM hH
 have hlen:its.toArray.size * k.toNat<=sizeLine:=by rw[Qs,<- hl];exact hz
 have hcap:¬ its.toArray.size * k.toNat > (2 ^ 63 - 1) / 8:=by
  have:(sizeLine:Nat)<=(2 ^ 63 - 1) / 8:=by decide
  omega
 have hfit:¬ (!Builtin.List.listFitsIndex k)=true:=by
  rw[fitsIndex_both h1 h2]
  exact Qc
 have hlong:¬ Jz (its.toArray.size * k.toNat)=true:=by
  rw[zpp hlen]
  exact Qc
 have hnew:Y8 (λx1 x2=>x1++x2) #[] (Qm (if its.toArray.isEmpty=true then 0 else k.toNat) its.toArray)=(Qm k.toNat its).flatten.toArray:=by
  have f0:∀ m:Nat,Y8 (λx1 x2=>x1++x2) #[] (Qm m its.toArray)=(Qm m its).flatten.toArray:=λm=>by
   have:=zh5 its m []
   rw[Yj] at this
   exact this
  rw[f0]
  cases its with
  | nil=>simp
  | cons a r'=>rw[if_neg (by simp)]
 refine wpAny_binaryOp_repeat_ref (T := "list") (U := "int") (by decide) ⟨_,e,rfl⟩ (λs'=>typeIs_int s' k t) noFill_list_mul F.fills_int_mul YJ repeat_list qR.lookup
  (call_meets YJ (typeIs_int s k t) qS (qG _ _) (int___rmul___int_list k t l its.toArray n)
   ⟨e,rfl,⟨_,e,rfl⟩,call_meets F.slot_list_mul ⟨_,e,rfl⟩ F.entry_list_mul (F.args_list_mul_2 _ _) (AutoListH.list___mul___list_int_3 l its.toArray n k t hfit hcap hlong) ⟨e,?_⟩⟩)
 rw[hnew]
 exact⟨.ref _,_,I.lnew (t':=s.toks) (r.rep k.toNat) (by rw[ziz,jG];exact hz),rfl,q _ I.fresh⟩
end
section
variable {κ : Type} [DecidableEq κ]
def valV(kvs:List (κ × V))(k:κ):Option V:=(kvs.find? λkv=>decide (kv.1=k)).map (·.2)
theorem zo6{p:κ × V}{r:List (κ × V)}{k:κ}(e:p.1=k):valV (p::r) k=some p.2:=by simp[valV,YK,e]
theorem zn0{p:κ × V}{r:List (κ × V)}{k:κ}(e:¬ p.1=k):valV (p::r) k=valV r k:=by simp[valV,YK,e]
theorem RelO.isSome_eq{o:Option V}{u:Option Value}(r:RelO o u):o.isSome=u.isSome:=by
 cases o with
 | none=>cases u with
   | none=>rfl
   | some _=>exact(show False from r).elim
 | some _=>cases u with
   | none=>exact(show False from r).elim
   | some _=>rfl
theorem KV.val{kvs:List (κ × V)}{vs:List (κ × Value)}(r:KV kvs vs)(k:κ):RelO (valV kvs k) (valueAt vs k):=by
 unfold KV at r
 induction r with
 | nil=>exact YX
 | @cons p q ps qs h t ih =>
   obtain⟨h1,h2⟩:=h
   by_cases e:p.1=k
   ·have e':q.1=k:=h1.symm.trans e
    have b:valueAt (q::qs) k=some q.2:=by simp[valueAt,YK,e']
    rw[zo6 e,b];exact h2
   ·have e':¬ q.1=k:=λz=>e (h1.trans z)
    have b:valueAt (q::qs) k=valueAt qs k:=by simp[valueAt,YK,e']
    rw[zn0 e,b];exact ih
end
theorem zz0{P:Program}{w:World}{k:Key}{u:Value}(r:RelV (kV k) u):(zcx P w).is k u=true:=by
 cases k with
 | inl i=>obtain⟨t,e⟩:=(show ∃ t,u=j7 i t from r);subst e;exact zqd P w i t
 | inr x=>obtain⟨t,e⟩:=(show ∃ t,u=JS x t from r);subst e;exact zje P w x t
def NoSl(i:Expr):Prop:=∀ ov iv,subscripted i false ov iv=operate [ov,iv] (getItem ov iv)
theorem z2z{prog:Program}{w:World}{A:Around}{E:Value->Shared->Prop}{s:Shared}{env:Env}{value slice:Expr}{pos:Pos}{T id:String}{Q:Value->Shared->Prop}
 (hl:typeLookup (.type T) "__getitem__" = pure (some (.builtin id))) (hs:NoSl slice)
 (h:wpAny (model prog w) A (eval value env) (λo s₁=>wpAny (model prog w) A (eval slice env) (λi s₂=>s₂.TypeIs o T/\wpAny (model prog w) A (getItem o i) Q E s₂) E s₁) E s) :
 wpAny (model prog w) A (eval (.Subscript value slice pos) env) Q E s:=by
 refine Subscript_ (wpAny_mono h (λo s₁ h₁=>wpAny_mono h₁ (λi s₂ h₂=>?_) λ_ _ x=>x) λ_ _ x=>x)
 obtain⟨hT,h₂⟩:=h₂
 unfold subscriptTail
 refine wpAny_bind ?_
 rw[getitemInPython_of_ne hT.not_modules]
 refine wpAny_bind (wpAny_specialOf hT hl ?_)
 have fin:wpAny (model prog w) A (subscripted slice false o i) (λr s₃=>wpAny (model prog w) A (letTemporaryGo value o r >>= λ_=>pure r) Q E s₃) E s₂:=by
  rw[hs o i]
  exact wpAny_operating (wpAny_mono h₂ (λr s₃ h₃=>wpAny_bind (wpAny_letTemporaryGo (wpAny_pure h₃))) λ_ _ x=>x)
 first
  | exact wpAny_pure (wpAny_bind fin)
  | exact wpAny_bind (wpAny_pure (wpAny_bind fin))
  | exact wpAny_bind fin
end L2
namespace Att
open PySem PySem.W PySem.Calls PyProof.Rows
theorem zkn{P:Params}{h:Heap}:∀ (ns:List Int) (vs:List Value),WellAll P h vs (ns.map WData.int)->IntsAre vs ns:=by
 intro ns
 induction ns with
 | nil =>
   intro vs w
   rw[List.map_nil] at w
   cases w
   exact .nil
 | cons n ns ih =>
   intro vs w
   rw[Q3] at w
   cases w with
   | cons a b =>
     cases a
     exact .cons _ _ (ih _ b)
theorem zuu{l:OpenLaw}{n:Nat}(hn:l.most=some n){P:Params}{h:Heap}{args:List WData}{vals:List Value}
 (hpre:l.row.toRowW.claim.pre args=true) (hwl:WellAll P h vals args) :
 ∃ a vs ns,vals = [QC a]/\args = [WData.list (ns.map WData.int)]/\h.get? a=some { cls := .type "list", data := .seq vs.toArray }/\IntsAre vs ns/\ns.length<=n:=by
 have hsh:WShape.hasAll [] args [.list .int]=true:=(pre_splitW hpre).1
 have hc:l.pre.holds [] { args:=args }=true:=(pre_splitW hpre).2
 obtain⟨d,r,rfl,h1,h2⟩:=hasAllW_cons hsh
 obtain rfl:=hasAllW_nil h2
 obtain⟨xs,rfl,h3⟩:=hasW_list h1
 obtain⟨ns,rfl⟩:=items_int h3
 have hlen:ns.length<=n:=by
  unfold OpenLaw.pre at hc
  have h4:(WTm.not (.lt (.lit (.int (n:Int))) (.len (.arg 0)))).holds [] { args := [.list (ns.map .int)] }=true:=by
   have h4:=(holds_andW hc).1
   rw[hn] at h4
   exact h4
  have h5:=condW_of h4 (w_not (w_lt w_lit (w_len_list (w_arg rfl))))
  rw[Qe] at h5
  refine j9 λq=>?_
  have q':(n:Int)<((ns.length:Nat):Int):=by omega
  first
   | (rw[decide_eq_true q'] at h5;exact absurd h5 (by decide))
   | (simp at h5;omega)
 cases hwl with
 | cons w1 w2 =>
   cases w2
   cases w1 with
   | list ho hall=>exact⟨_,_,ns,rfl,rfl,ho,zkn ns _ hall,hlen⟩
theorem zv6(l:OpenLaw)(args:List WData):l.row.toRowW.claim.post args (.bool true) args=true :=
 postW_of (r:=l.row.toRowW) (X:=(true == true))
  (show WShape.has [] (.bool true) .bool=true by first|rfl|decide|simp[WShape.has,WShape.arms,WShape.armsAll])
  (show(WTm.eq .res (.lit (.bool true))).value [] { args:=args,res:=some (.bool true),after:=args }=some (.bool (true == true)) from w_eq_bool (w_res rfl) w_lit) rfl
theorem attach_call{l:OpenLaw}{n:Nat}{q:Program}{loose:List Str}{XP:(Str->Option Value)->Heap->Prop}{YP:World->Heap->Prop}{d:DefRec}
 (hn:l.most=some n) (hdf:d.params.defaults = [])
 (call:∀ (w:World) (s₀ s₁:Shared) (mg mb:Str->Option Value) (fa:Addr) (o:Obj) (pm cd doc:Value) (a:Addr) (vs:List Value) (ns:List Int),
  Ground q loose [] XP w s₀ mg mb s₁.heap->YP w s₁.heap ->
  s₁.heap.get? fa=some o->o.data = .func (docDef d.name d.params d.body d.scope pm cd doc)->s₁.heap.CodeRec cd d.name->mg d.name=some (.ref fa) ->
  s₁.heap.get? a=some { cls := .type "list", data := .seq vs.toArray }->IntsAre vs ns->ns.length<=n->s₁.gens = #[] ->
  codeAny (model l.prog w) callerA (.call (.ref fa) ⟨[.ref a],[]⟩) (λr s'=>r = .ok (.ret (.bool true))/\OldK s₁.heap s'.heap/\s'.os=s₁.os/\AllBare s'.gens) s₁) :
 WalkO q loose XP YP l.row.toRowW d [] (λf vs=>zi f vs):=by
 intro w s₀ s₁ mg mb G Y fa o pm cd doc dV kV ho hd hcd hD hmg hg args vals as hpre hlay hrd hwl hlo
 obtain rfl:dV = .none:=Dflts.none hD hdf
 obtain rfl:kV = .none:=Dflts.noKw hD
 obtain⟨a,vs,ns,rfl,rfl,hobj,hints,hlen⟩:=zuu hn hpre hwl
 refine enter_call (codeAny_mono (call w s₀ s₁ mg mb fa o pm cd doc a vs ns G Y ho (fd_plain hd) hcd hmg hobj hints hlen hg) λr s' hq=>?_)
 obtain⟨rfl,h2,h3,h4⟩:=hq
 exact⟨.inl ⟨.bool true,.bool true,[],rfl,λ_=>rfl,.bool true,zv6 l _,λ_=>⟨List.Pairwise.nil,λ_ hm=>(nomatch hm)⟩⟩,h2,h3,h4⟩
end Att
namespace L2
open PySem PySem.Spec PyProof.Rows
theorem zmu:∀ {vs:List Value} {ns:List Int},IntsAre vs ns->Vals (ns.map V.int) vs
 | _,_,.nil => .nil
 | _,_,.cons n t h => .cons ⟨t,rfl⟩ (zmu h)
def Only(H:Hp):Prop:=∀ b,H b=none\/∃ o xs,H b=some (.frz o (.lst xs))
theorem zxq{P:Program}{w:World}{K:Qa}{mg mb:Str->Option Value}{CX:CXT}{k:Nat}{fa a:Addr}{fd:FuncData}{x:Str}{sp:Sp}{s₁:Shared}{vs:List Value}{ns:List Int}
 (KX:K.In s₁.heap) (hns:s₁.heap.Ns mainGlobals mg) (hb:s₁.heap.Ns builtinsNs mb) (hbb:∀ x:Str,x ≠ "__name__" -> mb x=bootBuiltins x) (hlim:s₁.heap.NoLimit) (hg:s₁.gens = #[])
 (ha:s₁.heap.get? a=some { cls := .type "list", data := .seq vs.toArray }) (hi:IntsAre vs ns) (hl:ns.length<=sizeLine) (hr:Room k callerA)
 (F:∀ base:Heap,K.In base->base.Ns mainGlobals mg->FnOk P w K mg base CX k fa fd [x] sp) (hbind:∀ (s:Shared) (u:Value),BindsTo s fd ⟨[u],[]⟩ [(x,u)])
 (hsp:∀ H:Hp,Only H->SqL K H a (ns.map V.int)->sp [.ref a] H (λv _=>v = .bl true) λ_ _ _=>False)
 (hCX:∀ H e s',CX [] H s₁ (λ_ _ _=>False) e s'->False) :
 codeAny (model P w) callerA (.call (.ref fa) ⟨[.ref a],[]⟩) (λr s'=>r = .ok (.ret (.bool true))/\OldK s₁.heap s'.heap/\s'.os=s₁.os/\AllBare s'.gens) s₁:=by
 have rv:=zmu hi
 have lenV:=hi.length
 -- from an abstract heap in which nothing but the script may be tracked
 have core:∀ H:Hp,Only H->SqL K H a (ns.map V.int)->HOk P w H s₁.heap->(∀ b,H b ≠ none->b=a)->(H a ≠ none->K.lookup a=none) ->
  codeAny (model P w) callerA (.call (.ref fa) ⟨[.ref a],[]⟩) (λr s'=>r = .ok (.ret (.bool true))/\OldK s₁.heap s'.heap/\s'.os=s₁.os/\AllBare s'.gens) s₁:=by
  intro H hO hS hok hA hK
  have base_of:∀ {b:Addr} {o:Obj},s₁.heap.get? b=some o->H b=none->(hidT s₁.heap H).get? b=some o:=λe n=>zw6 e n
  have noA:∀ {b:Addr} {o:Obj} {es:Array DictEntry} {ep:Nat},s₁.heap.get? b=some o->o.data = .dict es ep->H b=none:=λ{b o es ep} e d=>by
   cases q:H b with
   | none=>rfl
   | some u =>
     have e':b=a:=hA b (by rw[q];simp)
     subst e'
     rw[ha] at e;cases e
     have d':zF vs.toArray _=Data.dict es ep:=d
     cases d'
  have nsK:∀ {b:Addr} {m:Str->Option Value},s₁.heap.Ns b m->(hidT s₁.heap H).Ns b m:=λ{b m} ⟨o,es,ep,e,d,r⟩=>⟨o,es,ep,base_of e (noA e d),d,r⟩
  have hKb:K.In (hidT s₁.heap H):=λb o e=>base_of (KX b o e) (by
   cases q:H b with
   | none=>rfl
   | some u =>
     have e':b=a:=hA b (by rw[q];simp)
     subst e'
     rw[hK (by rw[q];simp)] at e;cases e)
  have hM:Mod K mg (hidT s₁.heap H):=⟨hKb,nsK hns,⟨mb,nsK hb,hbb⟩,let ⟨mc,h1,h2⟩:=hlim; ⟨mc,nsK h1,h2⟩⟩
  have e0:Env0 P w K mg (hidT s₁.heap H) callerA [] s₁ H:=⟨rfl,hM,λb o e=>z1h e,Yu (zu0 _ _),trivial,λb hb=>absurd (show b ∈ ([]:List Addr) from hb) (by simp),hok,.of_eq hg⟩
  refine codeAny_mono ((F _ hKb (nsK hns)).run callerA [] s₁ H ⟨[.ref a],[]⟩ [.ref a] [.ref a] _ _ hr e0 (hbind s₁ (.ref a)) (.cons rfl .nil) (hsp H hO hS)) λr s' h=>?_
  cases r with
  | error e=>exact(hCX H e s' h).elim
  | ok fl =>
    cases fl with
    | next=>exact Z3 h
    | brk=>exact Z3 h
    | cont=>exact Z3 h
    | ret u =>
      obtain⟨v,H',os,bare,un,hok',r',q⟩:=h
      have q':v = .bl true:=q
      subst q'
      obtain rfl:u=ZE true:=r'
      refine⟨rfl,OldK.of_keep λb o e=>?_,os,bare⟩
      cases q:H b with
      | none=>exact un.keep b o e q (by intro z;exact absurd (show b ∈ ([]:List Addr) from z) (by simp)) (by simp)
      | some u =>
        rcases hO b with z|⟨ob,xs,z⟩
        ·rw[q] at z;cases z
        ·have z2:=un.frzs b ob _ z
         obtain⟨e1,_⟩:=hok b _ z
         obtain⟨e2,_⟩:=hok' b _ z2
         rw[e] at e1;cases e1
         exact e2
 cases hk:K.lookup a with
 | some o =>
   -- the script is one of the module's own objects
   have e:=KX a o hk
   rw[ha] at e
   cases e
   refine core (λ_=>none) (λ_ => .inl rfl) (.inr ⟨_,vs.toArray,_,hk,rfl,rfl,rfl,by rw[Qs,lenV];exact hl,by simpa using rv⟩) (λb u z=>by have z':(none:Option HO)=some u:=z;cases z') (λb z=>absurd rfl z) λz=>absurd rfl z
 | none =>
   refine core (λb=>if b=a then some (.frz { cls := .type "list", data := .seq vs.toArray } (.lst (ns.map V.int))) else none) (λb=>?_) (.inl (.inr ⟨{ cls := .type "list", data := .seq vs.toArray },if_pos rfl⟩)) (λb u z=>?_) (λb z=>?_) λ_=>hk
   ·by_cases hb:b=a
    ·exact .inr ⟨_,_,if_pos hb⟩
    ·exact .inl (if_neg hb)
   ·by_cases hb:b=a
    ·have z':=(if_pos hb).symm.trans z
     cases z'
     subst hb
     exact⟨ha,by rw[Qe];exact hl,vs,_,rv,ha⟩
    ·have z':=(if_neg hb).symm.trans z
     cases z'
   ·by_cases hb:b=a
    ·exact hb
    ·exact absurd (if_neg hb) z
theorem walk_of{l:jP}{n k:Nat}{q:Program}{loose:List Str}{XP:(Str->Option Value)->Heap->Prop}{YP:World->Heap->Prop}{d:DefRec}{K:Params->Qa}{CX:World->CXT}{sp:World->Sp}{x:Str}
 (hn:l.most=some n) (hn2:n<=sizeLine) (hdf:d.params.defaults = []) (hr:Room k callerA)
 (hY:∀ (w:World) (h:Heap),YP w h->(K w.params).In h)
 (F:∀ (w:World) (mg:Str->Option Value) (fa:Addr) (h:Heap),(K w.params).In h->h.Ns mainGlobals mg->mg d.name=some (.ref fa) ->
  ∃ fd:FuncData,(∀ (s:Shared) (u:Value),BindsTo s fd ⟨[u],[]⟩ [(x,u)]) /\
    ∀ base:Heap,(K w.params).In base->base.Ns mainGlobals mg->FnOk l.prog w (K w.params) mg base (CX w) k fa fd [x] (sp w))
 (hsp:∀ (w:World) (H:Hp) (a:Addr) (ns:List Int),ns.length<=n->Only H->SqL (K w.params) H a (ns.map V.int)->sp w [.ref a] H (λv _=>v = .bl true) λ_ _ _=>False)
 (hCX:∀ (w:World) (H:Hp) (s:Shared) (e:Value) (s':Shared),CX w [] H s (λ_ _ _=>False) e s'->False) :
 zw q loose XP YP l.row.toRowW d [] (λf vs=>zi f vs):=by
 refine Att.attach_call hn hdf λw s₀ s₁ mg mb fa o pm cd doc a vs ns G Y ho hd hcd hmg hobj hints hlen hg=>?_
 have KX:=hY w _ Y
 obtain⟨fd,hb,hF⟩:=F w mg fa _ KX G.T.g hmg
 exact zxq KX G.T.g G.T.b G.T.builtins G.T.nolimit hg hobj hints (Q2 hlen hn2) hr hF hb (λH hO hS=>hsp w H a ns hlen hO hS) λH e s'=>hCX w H s₁ e s'
def zdf(s:Stmt):Arguments:=match s with
 | .FunctionDef _ a _ _ _ _ _ _ _ _=>a
 | _=>{ posonlyargs := [],args := [],vararg:=none,kwonlyargs := [],kw_defaults := [],kwarg:=none,defaults := [] }
def zbu(s:Stmt):List Stmt:=match s with
 | .FunctionDef _ _ b _ _ _ _ _ _ _=>b
 | _ => []
def zah(s:Stmt):Scope:=match s with
 | .FunctionDef _ _ _ _ _ _ sc _ _ _=>sc
 | _=>{ kind := .function,names := [],isGenerator:=false,isCoroutine:=false }
abbrev CX0:CXT:=λ_ _ _ _ _ _=>False
abbrev E0:XK:=λ_ _ _=>False
theorem zsz{X:Cx}:zkj CX0 X E0:=λ_ _ _ _ _ _ _ h=>h.elim
structure Fun (K:Qa) (x qual:Str) (st:Stmt) (f:Addr) (fd:FuncData):Prop where
 ex:∃ (oc:Value) (od:Option Addr) (kV doc pm:Value) (an:Option Addr) (cdv ct:Value) (osl:Array (Option Value)),
  fd=Z4 x qual (zdf st) (zbu st) (zah st) .none kV doc pm an cdv ct/\K.lookup f=some ⟨oc,od,.func fd,osl⟩/\J2 K cdv qual=true
 kp:Z5 K (.ref f)=true
section
variable {P : Program} {w : World} {K : Qa} {mg : Str → Option Value} {base : Heap}
theorem Fun.ok{x qual:Str}{st:Stmt}{f:Addr}{fd:FuncData}{N ps:List Str}{k:Nat}{sp:Sp}(F:Fun K x qual st f fd)(S:FnScope N ps (zah st))(len:∀ vs H Q E,sp vs H Q E->vs.length=ps.length)
 (hbody:∀ (cdv:Value) (A:Around) (outer:List Env) (s:Shared) (H:Hp) (vs:List V) (Q:VK) (E:XK),Room k (A.deeper (envOfC qual (zah st) s.heap.objs.size f cdv))->sp vs H Q E ->
  ∃ t,PSs (cxOf CX0 P w K mg base N qual (zah st) f cdv A outer s H E).nox (zbu st) t/\t { nx:=λ_ H'=>Q .non H',rt:=Q } (start N vs) H):FnOk P w K mg base CX0 (k+1) f fd ps sp:=by
 obtain⟨oc,od,kV,doc,pm,an,cdv,ct,osl,rfl,lk,hcd⟩:=F.ex
 refine zs3 lk hcd S len λA outer s H vs Q E hr hsp=>?_
 obtain⟨t,h,q⟩:=hbody cdv A outer s H vs Q E hr hsp
 exact⟨t,h.nox,q⟩
theorem Fun.binds{x qual:Str}{st:Stmt}{f:Addr}{fd:FuncData}{ps:List Str}(F:Fun K x qual st f fd)
 (h:∀ (kV doc pm:Value) (an:Option Addr) (cdv ct:Value) (us:List Value),us.length=ps.length->bindArgs (Z4 x qual (zdf st) (zbu st) (zah st) .none kV doc pm an cdv ct) ⟨us,[]⟩=pure (ps.zip us)):Binds K fd ps []:=by
 obtain⟨oc,od,kV,doc,pm,an,cdv,ct,osl,rfl,lk,hcd⟩:=F.ex
 exact .all (h kV doc pm an cdv ct)
theorem zwg{x qual:Str}{st:Stmt}{f:Addr}{oc:Value}{od an:Option Addr}{osl:Array (Option Value)}{kV doc pm cdv ct:Value}(l:K.lookup f=some ⟨oc,od,.func (Z4 x qual (zdf st) (zbu st) (zah st) .none kV doc pm an cdv ct),osl⟩)
 (c:J2 K cdv qual=true) (k:Z5 K (.ref f)=true):Fun K x qual st f (Z4 x qual (zdf st) (zbu st) (zah st) .none kV doc pm an cdv ct):=⟨⟨oc,od,kV,doc,pm,an,cdv,ct,osl,rfl,l,c⟩,k⟩
end
theorem iteF{A B:Prop}(h:B):if false=true then A else B:=by
 rw[if_neg Qc]
 exact h
theorem iteT{A B:Prop}(h:A):if true=true then A else B:=by
 rw[if_pos rfl]
 exact h
theorem ite2{c A B:Prop}[Decidable c](h1:c->A)(h2:¬ c->B):if c then A else B:=by
 by_cases h:c
 ·rw[if_pos h]
  exact h1 h
 ·rw[if_neg h]
  exact h2 h
def Same(H H':Hp):Prop:=∀ b o,H b=some o->H' b=some o
theorem Same.refl(H:Hp):Same H H:=λ_ _ h=>h
end L2
set_option maxHeartbeats 4000000
namespace L3
open PySem PySem.Spec
open PyProof.Rows hiding St
open L2
theorem ztd{α β:Type}{l:List α}{f:α->β->Sem (ForInStep β)}(g:α->β->β):∀ (c:β),(∀ x ∈ l,∀ c,f x c=pure (.yield (g x c)))->forIn l c f=pure (l.foldl (λc x=>g x c) c):=by
 induction l with
 | nil=>intro c _;rfl
 | cons x l ih =>
   intro c h
   rw[Jc,h x Q8,pure_bind]
   exact ih (g x c) λy hy=>h y (Qj _ hy)
def clOf(ns:List (Str × NameKind))(env:Env):List (Str × Addr):=ns.foldl (λcs x=>if x.2 == .free then(x.1,(env.cells.lookup x.1).getD 0)::cs else cs) []
theorem zj4{scope:Scope}{env:Env}(h:∀ p ∈ scope.names,p.2 = .free->∃ c,env.cells.lookup p.1=some c):closureFor scope env=pure (clOf scope.names env):=by
 simp only[closureFor]
 unfold clOf
 rw[ztd (λ(x:Str × NameKind) (cs:List (Str × Addr))=>if x.2 == .free then(x.1,(env.cells.lookup x.1).getD 0)::cs else cs)]
 ·rfl
 ·intro x hx c
  obtain⟨n,k⟩:=x
  dsimp only
  by_cases hk:k = .free
  ·subst hk
   obtain⟨a,ha⟩:=h _ hx rfl
   have ha':env.cells.lookup n=some a:=ha
   simp only[beq_self_eq_true,if_true,cellOf,ha',pure_bind,Option.getD_some]
  ·have hb:(k == Zs)=false:=by simpa using hk
   simp only[hb,ZH,if_false]
theorem z6f{env:Env}{x:Str}:∀ (ns:List (Str × NameKind)) (acc:List (Str × Addr)) (c:Addr),
 (ns.foldl (λcs y=>if y.2 == .free then(y.1,(env.cells.lookup y.1).getD 0)::cs else cs) acc).lookup x=some c->acc.lookup x=some c\/((x,Zs) ∈ ns/\c=(env.cells.lookup x).getD 0):=by
 intro ns
 induction ns with
 | nil=>intro acc c h;exact .inl h
 | cons y r ih =>
   intro acc c h
   obtain⟨n,k⟩:=y
   rw[Ju] at h
   rcases ih _ c h with h1|⟨h1,h2⟩
   ·by_cases hk:k = .free
    ·subst hk
     simp only[beq_self_eq_true,if_true] at h1
     by_cases hx:x=n
     ·subst hx
      rw[ZP] at h1
      cases h1
      exact .inr ⟨Q8,rfl⟩
     ·have hb:(x == n)=false:=by simpa using hx
      rw[Je,hb] at h1
      exact .inl h1
    ·have hb:(k == Zs)=false:=by simpa using hk
     simp only[hb,ZH,if_false] at h1
     exact .inl h1
   ·exact .inr ⟨Qj _ h1,h2⟩
theorem zp0{env:Env}{x:Str}:∀ (ns:List (Str × NameKind)) (acc:List (Str × Addr)),(acc.lookup x).isSome=true\/(x,Zs) ∈ ns ->
 ((ns.foldl (λcs y=>if y.2 == .free then(y.1,(env.cells.lookup y.1).getD 0)::cs else cs) acc).lookup x).isSome=true:=by
 intro ns
 induction ns with
 | nil => intro acc h;rcases h with h|h
          ·exact h
          ·exact absurd h (by simp)
 | cons y r ih =>
   intro acc h
   obtain⟨n,k⟩:=y
   rw[Ju]
   refine ih _ ?_
   by_cases hk:k = .free
   ·subst hk
    simp only[beq_self_eq_true,if_true]
    by_cases hx:x=n
    ·subst hx
     left
     rw[ZP]
     rfl
    ·have hb:(x == n)=false:=by simpa using hx
     rw[Je,hb]
     rcases h with h|h
     ·exact .inl h
     ·rcases Ql.mp h with z|z
      ·injection z with z1 _
       exact absurd z1 hx
      ·exact .inr z
   ·have hb:(k == Zs)=false:=by simpa using hk
    simp only[hb,ZH,if_false]
    rcases h with h|h
    ·exact .inl h
    ·rcases Ql.mp h with z|z
     ·injection z with _ z2
      exact absurd z2.symm hk
     ·exact .inr z
theorem zsv{ns:List (Str × NameKind)}{env:Env}{x:Str}{c:Addr}(h:(clOf ns env).lookup x=some c):(x,Zs) ∈ ns/\c=(env.cells.lookup x).getD 0:=by
 rcases z6f ns [] c h with z|z
 ·cases z
 ·exact z
theorem zws{ns:List (Str × NameKind)}{env:Env}{x:Str}{c:Addr}(h:(x,Zs) ∈ ns)(e:env.cells.lookup x=some c):(clOf ns env).lookup x=some c:=by
 obtain⟨d,hd⟩:=jw.mp (zp0 (env:=env) ns [] (.inr h))
 have hd':(clOf ns env).lookup x=some d:=hd
 rw[hd',(zsv hd').2,e]
 rfl
theorem ze2{env:Env}{x:Str}:∀ (names:List (Str × NameKind)),
 (names.map λ(n,k)=>if(k == Zs && env.scope.kind == .function && env.kindOf n == some .cell) then(n,jx) else(n,k)).lookup x =
  (names.lookup x).map λk=>if(k == Zs && env.scope.kind == .function && env.kindOf x == some .cell) then jx else k
 | []=>rfl
 | (n,k)::r=>by
   have ih:=ze2 (env:=env) (x:=x) r
   show Jl x ((if(k == Zs && env.scope.kind == .function && env.kindOf n == some .cell)=true then(n,jx) else(n,k))::_)=_
   by_cases hx:x=n
   ·subst hx
    by_cases hc:(k == Zs && env.scope.kind == .function && env.kindOf x == some .cell)=true
    ·rw[if_pos hc,ZP,ZP,YL,if_pos hc]
    ·rw[if_neg hc,ZP,ZP,YL,if_neg hc]
   ·have hb:(x == n)=false:=by simpa using hx
    by_cases hc:(k == Zs && env.scope.kind == .function && env.kindOf n == some .cell)=true
    ·rw[if_pos hc,Je,hb,Je,hb];exact ih
    ·rw[if_neg hc,Je,hb,Je,hb];exact ih
def zdd(X:Cx)(scope:Scope)(N':List Str)(C:Addr)(s:Shared)(H:Hp)(ex:List Addr):Cx :=
 { X with N:=N',s₀:=s,H₀:=H,env:=compEnvC scope (clOf scope.names X.env) C X.env,outer:=X.stack,stack:=X.stack,ex:=ex,fn:=λ_=>false,pn := [],xe:=λ_ _=>False }
def zrz(h:Nat)(N' N:List Str)(names sc:List (Str × NameKind)):Bool :=
 decide (N'.length=h+N.length) && decide N'.Nodup
 && (names.all λp=>p.2 != .cell && (p.2 != .local || names.lookup p.1 == some .local) && (p.2 != .free || (names.lookup p.1 == some .free && (sc.lookup p.1 == some .cell || sc.lookup p.1 == some .free))))
 && (((N'.drop h).zip N).all λp=>match names.lookup p.1 with|some .free=>p.1 == p.2|some .local=>false|some .cell=>false|_=>true)
structure ScopeOk (h:Nat) (N' N:List Str) (scope:Scope) (sc:Scope):Prop where
 kind:scope.kind = .function
 len:N'.length=h+N.length
 nd:N'.Nodup
 nocell:∀ y ∈ scope.names,y.2 ≠ .cell
 loc:∀ y ∈ scope.names,y.2 = .local->scope.names.lookup y.1=some .local
 free:∀ y ∈ scope.names,y.2 = .free->scope.names.lookup y.1=some .free/\(sc.names.lookup y.1=some .cell\/sc.names.lookup y.1=some .free)
 out:∀ (i:Nat) (x:Str) (k:NameKind),N'[h+i]? = some x->scope.names.lookup x=some k->(k = .local\/k = .cell\/k = .free)->N[i]? = some x/\k = .free
theorem ScopeOk.of{h:Nat}{N' N:List Str}{scope sc:Scope}(hk:scope.kind = .function)(e:zrz h N' N scope.names sc.names=true):ScopeOk h N' N scope sc:=by
 unfold zrz at e
 simp only[Qp,decide_eq_true_eq,QK] at e
 obtain⟨⟨⟨e1,e2⟩,e3⟩,e4⟩:=e
 refine⟨hk,e1,e2,λy hy z=>?_,λy hy z=>?_,λy hy z=>?_,λi x k hx hl hkk=>?_⟩
 ·have:=e3 y hy
  rw[z] at this
  simp at this
 ·have:=e3 y hy
  rw[z] at this
  simpa using this
 ·have:=e3 y hy
  rw[z] at this
  simpa using this
 ·have h1:(N'.drop h)[i]? = some x:=by rw[Jm];exact hx
  have hi:i<N.length:=by
   obtain⟨z,_⟩:=QE.mp hx
   omega
  have h2:N[i]? = some N[i]:=Qk hi
  have hm:(x,N[i]) ∈ (N'.drop h).zip N:=by
   refine Zl (i:=i) ?_
   rw[List.getElem?_zip_eq_some]
   exact⟨h1,h2⟩
  have q:=e4 _ hm
  rw[hl] at q
  rcases hkk with rfl|rfl|rfl
  ·exact absurd q (by simp)
  ·exact absurd q (by simp)
  ·have q':x=N[i]:=by simpa using q
   exact⟨by rw[h2,<- q'],rfl⟩
def PF(X:Cx)(ifs:List Expr)(t:TT):Prop :=
 ∀ (pins:List (Addr × Obj)) (s:Shared) (σ:St) (H:Hp) (Q:Bool->Hp->Prop),Inv X pins σ H s->t σ H Q ->
   wpAny (model X.prog X.w) X.A (forIn ifs true λc r=>if r=true then do let ok <- isTrue c X.env (eval c X.env);pure (YM ok) else pure (YM r)) (TP X pins σ Q) X.xe s
def tYes:TT:=λ_ H Q=>Q true H
theorem yas{X:Cx}:PF X [] tYes:=λ_ _ _ H _ I h=>wpAny_tests_nil ⟨H,I,h⟩
theorem z6k{X:Cx}{c:Expr}{t:TT}(h:PT X c t):PF X [c] t:=λpins s σ H Q I q=>wpAny_tests_one (h pins s σ H Q I q)
def OwnG(h:Nat)(g:TG):Prop:=∀ v (σ:St) H Q,h<=σ.length->g v σ H Q->g v σ H λσ2 H2=>Q σ2 H2/\σ2.length=σ.length/\σ2.drop h=σ.drop h
theorem zpo{h i:Nat}(hi:i<h):OwnG h (zbs i):=λv σ H Q hl q=>⟨q,by simp,by rw[List.drop_set_of_lt hi]⟩
def zke(h:Nat)(g:TGs):Prop:=∀ vs (σ:St) H Q,h<=σ.length->g vs σ H Q->g vs σ H λσ2 H2=>Q σ2 H2/\σ2.length=σ.length/\σ2.drop h=σ.drop h
theorem z1n{h:Nat}:zke h gNil:=λvs σ H Q _ q=>⟨q.1,q.2,rfl,rfl⟩
def MonG(g:TG):Prop:=∀ v σ H (Q Q':St->Hp->Prop),(∀ σ H,Q σ H->Q' σ H)->g v σ H Q->g v σ H Q'
def zka(g:TGs):Prop:=∀ v σ H (Q Q':St->Hp->Prop),(∀ σ H,Q σ H->Q' σ H)->g v σ H Q->g v σ H Q'
theorem zol{i:Nat}:MonG (zbs i):=λ_ _ _ _ _ h q=>h _ _ q
theorem z3z:zka gNil:=λ_ _ _ _ _ h q=>⟨q.1,h _ _ q.2⟩
theorem zxm{g:TG}{gs:TGs}(a:MonG g)(b:zka gs):zka (zkk g gs):=λvs σ H Q Q' h ⟨v,r,e,q⟩=>⟨v,r,e,a _ _ _ _ _ (λσ' H' z=>b _ _ _ _ _ h z) q⟩
theorem zy6{h:Nat}{g:TG}{gs:TGs}(m:MonG g)(m2:zka gs)(a:OwnG h g)(b:zke h gs):zke h (zkk g gs):=λvs σ H Q hl ⟨v,r,e,q⟩=>by
 refine⟨v,r,e,m _ _ _ _ _ (λσ' H' z=>?_) (a v σ H _ hl q)⟩
 obtain⟨z1,z2,z3⟩:=z
 exact m2 _ _ _ _ _ (λσ2 H2 ⟨y1,y2,y3⟩=>⟨y1,y2.trans z2,y3.trans z3⟩) (b r σ' H' Q (by omega) z1)
theorem z3u{K:Qa}{h n:Nat}{gs:TGs}(b:zke h gs):OwnG h (gTup K n gs):=λv σ H Q hl ⟨a,xs,e1,e2,e3,q⟩=>⟨a,xs,e1,e2,e3,b xs σ H Q hl q⟩
def zsm(h:Nat)(wi:TI)(g:TG)(tf:TT)(te:TE):TE:=λσ H Q=>wi σ H λJ H1=>∀ D,H1 D=none->∃ W:Nat->Nat->List V->Hp->Prop,(∃ m,W 0 m [] (upd H1 D (.lst [])))/\∀ i m ys H,W i m ys H ->
 H D=some (.lst ys)/\((J.stop i H/\Q (.ref D) H)\/(J.go i H/\∀ x H',J.yld i H x H'->g x (Qm h none++σ) H' λσ2 H2=>tf σ2 H2 λc H3 =>
   if c=true then te σ2 H3 λy H4=>H4 D=some (.lst ys)/\ys.length<sizeLine/\∃ m',m'<m/\W (i+1) m' (ys ++ [y]) (upd H4 D (.lst (ys ++ [y]))) else ∃ m',m'<m/\W (i+1) m' ys H3))
theorem zji{prog:Program}{w:World}{A:Around}{R:Result->Shared->Prop}{s:Shared}{elt target iter:Expr}{ifs:List Expr}{scope:Scope}{pos:Pos}{it acc:Value}{env:Env}(I:Nat->Shared->Prop)
 (turn:∀ n s,I n s->wpAny (model prog w) A (pyNext it) (λr s₁=>match r with
  | none=>R (.ok .next) s₁
  | some v=>wpAny (model prog w) A (letOwnedTupleGo target it v) (λ_ s₀=>wpAny (model prog w) A (assign target env v) (λ_ s₂ =>
   wpAny (model prog w) A (forIn ifs true λc r=>if r=true then do let ok <- isTrue c env (eval c env);pure (YM ok) else pure (YM r)) (λok s₃ =>
    if ok=true then wpAny (model prog w) A (eval elt env) (λx s₄ =>
     wpAny (model prog w) A (call (.builtin "list.append") [acc,x]) (λ_ s₅=>∃ m,m<n/\I m s₅) (λ_ _=>False) s₄) (λ_ _=>False) s₃
    else ∃ m,m<n/\I m s₃) (λ_ _=>False) s₂) (λ_ _=>False) s₀) (λ_ _=>False) s₁) (λ_ _=>False) s)
 (n:Nat) (h:I n s):codeAny (model prog w) A (.compLoop (.ListComp elt [⟨target,iter,ifs,0⟩] scope pos) 0 it acc env) R s:=by
 refine codeAny_loop rfl I (λn s hI=>?_) n h
 show wpAny _ A ((compTurn (.ListComp elt [⟨target,iter,ifs,0⟩] scope pos) 0 it acc env).onRaise (λx=>do noteFrame x env;theTreesLotGoes x)) _ _ s
 refine wpAny_noted ?_
 rw[compTurn_list]
 refine wpAny_bind (wpAny_standAt (wpAny_bind (wpAny_mono (turn n s hI) (λr s₁ h₁=>?_) λ_ _ h'=>h'.elim)))
 cases r with
 | none=>exact wpAny_pure h₁
 | some v =>
   refine wpAny_bind (wpAny_mono h₁ (λ_ s₀ h₀=>?_) λ_ _ h'=>h'.elim)
   refine wpAny_bind (wpAny_mono h₀ (λ_ s₂ h₂=>wpAny_bind (wpAny_mono h₂ (λok s₃ h₃=>?_) λ_ _ h'=>h'.elim)) λ_ _ h'=>h'.elim)
   cases ok with
   | false=>exact wpAny_pure ⟨rfl,h₃⟩
   | true =>
     exact wpAny_bind (wpAny_bind (wpAny_mono h₃ (λx s₄ h₄=>wpAny_bind (wpAny_mono h₄ (λ_ s₅ h₅=>wpAny_pure (wpAny_pure ⟨rfl,h₅⟩)) λ_ _ h'=>h'.elim)) λ_ _ h'=>h'.elim))
section
variable {X : Cx} {pins : List (Addr × Obj)} {σ : St} {H : Hp} {s : Shared}
theorem z3x{h:Nat}{N':List Str}{scope:Scope}{fp:List Addr}(I:Inv X pins σ H s)(S:ScopeOk h N' X.N scope X.env.scope)(hf:∀ b ∈ fp,FpOk X pins H b)(hlt:∀ b ∈ fp,b<s.heap.objs.size) :
 (zdd X scope N' s.heap.objs.size s H fp).Ok:=by
 have cl:∀ x c,(clOf scope.names X.env).lookup x=some c->X.env.cells.lookup x=some c:=λx c e=>by
  obtain⟨h1,h2⟩:=zsv e
  obtain⟨d,hd⟩:=I.ok.has x (S.free _ h1 rfl).2
  rw[hd] at h2 ⊢
  rw[h2];rfl
 refine⟨I.ok.mod,?_,I.ok.glob,I.ok.blt,Qt _,λx y c e1 e2=>I.ok.inj x y c (cl x c e1) (cl y c e2),λx hx=>?_,λx c z=>?_,I.ok.hd,I.ok.frames,.inl rfl,λb hb=>⟨Q9 (hlt b hb),λx c e=>(hf b hb).2.2.2.2.1 x c (cl x c e)⟩,λb o e=>I.bs b o e,Q2 I.ok.bsz I.sz,λb o e hb=>?_,λb hb z=>?_,I.stack,I.stkFree⟩
 ·exact S.kind
 ·have hx':(relabel scope X.env).names.lookup x=some .cell\/(relabel scope X.env).names.lookup x=some .free:=hx
  have e:=ze2 (env:=X.env) (x:=x) scope.names
  have hl:scope.names.lookup x=some .free:=by
   cases q:scope.names.lookup x with
   | none=>rw[q] at e;rcases hx' with z|z <;> (have z':=e.symm.trans z;cases z')
   | some k =>
     rw[q,YL] at e
     by_cases hk:k = .free
     ·rw[hk]
     ·have hc:¬ (k == Zs && X.env.scope.kind == .function && X.env.kindOf x == some .cell)=true:=by
       have:(k == Zs)=false:=by simpa using hk
       rw[this];simp
      rw[if_neg hc] at e
      rcases hx' with z|z
      ·have z':=e.symm.trans z
       cases z'
       exact absurd rfl (S.nocell _ (Z6 q))
      ·have z':=e.symm.trans z
       cases z'
       rfl
  have hm:=Z6 hl
  obtain⟨c,hc⟩:=I.ok.has x (S.free _ hm rfl).2
  exact⟨c,zws hm hc⟩
 ·exact absurd z Qc
 ·rcases(hf b hb).2.2.2.1 with z|z
  ·exact I.ok.noex b o e z
  ·exact absurd (QL (Qn (I.ok.bs b o e).1) z) (ZI _)
 ·obtain⟨_,f1,f2,_⟩:=hf b hb
  rcases Ql.mp (I.stkSub b z) with q|q
  ·exact f1 q
  ·exact f2 q
theorem zly{h:Nat}{N':List Str}{scope:Scope}(I:Inv X pins σ H s)(S:ScopeOk h N' X.N scope X.env.scope):∀ x c,(clOf scope.names X.env).lookup x=some c->X.env.cells.lookup x=some c:=λx c e=>by
 obtain⟨h1,h2⟩:=zsv e
 obtain⟨d,hd⟩:=I.ok.has x (S.free _ h1 rfl).2
 rw[hd] at h2 ⊢
 rw[h2];rfl
theorem zki{h:Nat}{N':List Str}{scope:Scope}{fp:List Addr}{h':Heap}{tk:Nat}(I:Inv X pins σ H s)(S:ScopeOk h N' X.N scope X.env.scope)(hf:∀ b ∈ fp,FpOk X pins H b)(hlt:∀ b ∈ fp,b<s.heap.objs.size)
 (hn:h'.Ns s.heap.objs.size λ_=>none) (kp:∀ b o,s.heap.get? b=some o->h'.get? b=some o) :
 Inv (zdd X scope N' s.heap.objs.size s H fp) [] (Qm h none++σ) H { s with heap:=h',toks:=tk }:=by
 have ok:=z3x I S hf hlt
 have cl:=zly I S
 refine⟨ok,rfl,I.bare,Un.kept kp,⟨_,hn,λi x v e1 e2 e3=>?_⟩,λx c e=>?_,I.hok.fresh (Qt _),λx c e=>I.freeC x c (cl x c e),λp hp=>absurd (show p ∈ ([]:List (Addr × Obj)) from hp) (by simp),I.hok.kept kp,?_⟩
 ·have e1:N'[i]? = some x:=e1
  by_cases hi:i<h
  ·rw[Zp (by simpa using hi),ZD,if_pos hi] at e2
   cases e2
  ·obtain⟨j,rfl⟩:∃ j,i=h+j:=⟨i - h,by omega⟩
   rw[ZF (by simp),Zv,Nat.add_sub_cancel_left] at e2
   have e3:Vis (relabel scope X.env) x:=e3
   have er:=ze2 (env:=X.env) (x:=x) scope.names
   have hl:∃ k,scope.names.lookup x=some k/\(k = .local\/k = .cell\/k = .free)/\(relabel scope X.env).names.lookup x=some (if(k == Zs && X.env.scope.kind == .function && X.env.kindOf x == some .cell) then jx else k):=by
    cases q:scope.names.lookup x with
    | none=>rw[q] at er;rcases e3 with z|z|z <;> (have z':=er.symm.trans z;cases z')
    | some k =>
      rw[q,YL] at er
      refine⟨k,rfl,?_,er⟩
      by_cases hc:(k == Zs && X.env.scope.kind == .function && X.env.kindOf x == some .cell)=true
      ·simp only[Qp,beq_iff_eq] at hc
       exact .inr (.inr hc.1.1)
      ·rw[if_neg hc] at er
       rcases e3 with z|z|z <;> (have z':=er.symm.trans z;cases z';simp)
   obtain⟨k,hk,hkk,hre⟩:=hl
   obtain⟨hN,rfl⟩:=S.out j x k e1 hk hkk
   have hm:=Z6 hk
   have hfr:=(S.free _ hm rfl).2
   obtain⟨m,hnm,hlk⟩:=I.loc
   obtain⟨u,ru,lk⟩:=hlk j x v hN e2 (by rcases hfr with z|z;exact .inr (.inl z);exact .inr (.inr z))
   refine⟨u,ru,?_⟩
   rcases lk with ⟨hloc,_⟩|⟨hkd,c,hc,hcell⟩
   ·have hloc:X.env.scope.names.lookup x=some .local:=hloc
    rcases hfr with z|z <;> (rw[hloc] at z;cases z)
   ·refine .inr ⟨?_,c,zws hm hc,?_⟩
    ·show(relabel scope X.env).names.lookup x=some .cell\/(relabel scope X.env).names.lookup x=some .free
     rw[hre]
     split
     ·exact .inl rfl
     ·exact .inr rfl
    ·obtain⟨o,ho,hd⟩:=hcell
     exact⟨o,kp c o ho,hd⟩
 ·obtain⟨v,o,ho,hd⟩:=I.cell x c (cl x c e)
  exact⟨v,o,kp c o ho,hd⟩
 ·show(Qm h none++σ).length=N'.length
  rw[Qf,Zv,S.len,I.len]
theorem zot{h:Nat}{N':List Str}{scope:Scope}{fp:List Addr}{pins':List (Addr × Obj)}{σ':St}{H':Hp}{s':Shared}{h':Heap}(I:Inv X pins σ H s)(S:ScopeOk h N' X.N scope X.env.scope)(hf:∀ b ∈ fp,FpOk X pins H b)
 (J:Inv (zdd X scope N' s.heap.objs.size s H fp) pins' σ' H' s') (hs:ZZ s.heap.objs.size s'.heap h'):Inv X pins σ H' { s' with heap:=h' }:=by
 have ne:∀ b o,s.heap.get? b=some o->b ≠ s.heap.objs.size:=λb o e=>Q9 (Qn e)
 have u:Un (frs X.stack) fp H H' s.heap s'.heap:=J.base
 have hC:H' s.heap.objs.size=none:=J.free
 obtain⟨m0,⟨oC,_,_,hoC,_⟩,_⟩:=id J.loc
 refine I.call' (s':={ s' with heap:=h' }) (ch:=fp) J.os ⟨λb o e n hb hx=>(hs.2 b (ne b o e)).trans (u.keep b o e n hb hx),λb o e n hb hx=>?_,u.free,λb o e hx=>?_,u.tups,u.frzs,u.tbls⟩ (λb ob e=>?_) J.bare λb hb=>?_
 ·obtain⟨sl,z⟩:=u.slot b o e n hb hx
  exact⟨sl,(hs.2 b (ne b o e)).trans z⟩
 ·obtain⟨o',z⟩:=u.there b o e hx
  exact⟨o',(hs.2 b (ne b o e)).trans z⟩
 ·refine(J.hok b ob e).stay (λc w' hc q=>(hs.2 c ?_).trans q) (λ_ q=>q) λ_ _ q=>q
  rintro rfl
  rcases hc with z|z
  ·rw[<- z,hC] at e;cases e
  ·rw[hC] at z;cases z
 ·obtain⟨_,f1,_,f3,f4,f5⟩:=hf b hb
  exact⟨f3,f1,f4,f5⟩
end
theorem z1s{X:Cx}{elt tg iter:Expr}{ifs:List Expr}{scope:Scope}{pos:Pos}{wi:TI}{g:TG}{tf:TT}{te:TE}{N':List Str}(h:Nat)(S:ScopeOk h N' X.N scope X.env.scope)(hc:X.calm=true)(hi:PI X tg iter wi)
 (hg:∀ C s H ex,PG (zdd X scope N' C s H ex) tg g) (ho:OwnG h g) (ht:∀ C s H ex,PF (zdd X scope N' C s H ex) ifs tf) (he:∀ C s H ex,PE (zdd X scope N' C s H ex) elt te)
 (hs:∀ x,foldedSetIterable iter X.env x=pure x:=by intro _;rfl) :
 PE X (.ListComp elt [⟨tg,iter,ifs,0⟩] scope pos) (zsm h wi g tf te):=by
 intro pins s σ H Q I hq
 rw[eval_ListComp]
 refine wpAny_comprehension_free (use:=none) rfl hs (zj4 (env:=X.env) λp hp hk=>I.ok.has p.1 (S.free p hp hk).2) S.kind S.loc ?_
 refine thn (hi pins s σ H _ I hq) λv s1 h1=>thn h1 λitv s2 h2=>?_
 obtain⟨it,fp,tn,J,H2,rfl,I2,T,st2,f2,hq⟩:=h2
 refine wpAny_newObj_type ?_ (by show 0<=sizeLine;exact QO _)
 have hD:H2 s2.heap.objs.size=none:=I2.hok.fresh (Qt _)
 have I3:Inv X pins σ (upd H2 s2.heap.objs.size (.lst [])) { s2 with heap:=s2.heap.push { cls := .type "list", data := .seq ([]:List Value).toArray },toks:=s2.toks }:=I2.lnew (t':=s2.toks) .nil (QO _)
 generalize hs3:({ s2 with heap:=s2.heap.push { cls := .type "list", data := .seq ([]:List Value).toArray },toks:=s2.toks }:Shared)=s3 at I3
 have hs3':({ s2 with heap:=s2.heap.push { cls := .type "list", data := .seq ([]:List Value).toArray } }:Shared)=s3:=hs3
 obtain⟨W,⟨m0,w0⟩,turn⟩:=hq s2.heap.objs.size hD
 have olt:∀ b ∈ fp,b<s2.heap.objs.size:=λb hb=>by
  obtain⟨o,e,_⟩:=T.obj _ _ st2 b hb
  exact Qn e
 have hsz:s3.heap.objs.size=s2.heap.objs.size+1:=by rw[<- hs3];exact Z2 ..
 have k23:∀ b o,s2.heap.get? b=some o->s3.heap.get? b=some o:=λb o e=>by rw[<- hs3];exact Qb _ e
 have f3:∀ b ∈ fp,FpOk X pins (upd H2 s2.heap.objs.size (.lst [])) b:=λb hb=>⟨by rw[zaf (Q9 (olt b hb))];exact(f2 b hb).1,(f2 b hb).2⟩
 have lt3:∀ b ∈ fp,b<s3.heap.objs.size:=λb hb=>by rw[hsz];exact QY (olt b hb)
 refine wpAny_newFunctionEnv S.nocell (by intro y hy;simp at hy) (λh4 hn4 hsb4=>?_) S.kind
 have k34:∀ b o,s3.heap.get? b=some o->h4.get? b=some o:=λb o e=>hsb4.extBut b o (Q9 (Qn e)) (Qb _ e)
 have I4:=zki (h':=h4) (tk:=s3.toks+([]:List (Str × Value)).length) I3 S f3 lt3 hn4 k34
 have st4:tn 0 h4:=T.keep _ _ _ st2 λb hb o e=>k34 b o (k23 b o e)
 generalize hX:zdd X scope N' s3.heap.objs.size s3 (upd H2 s2.heap.objs.size (.lst [])) fp=X' at I4
 have hA:X'.A=X.A:=by rw[<- hX];rfl
 -- the iterator's objects,in the block
 have fpX:∀ {H':Hp} {pl:List (Addr × Obj)},(∀ b ∈ fp,H' b=none)->pl = []->∀ b ∈ fp,FpOk X' pl H' b:=λ{H' pl} hn0 hpl b hb=>by
  subst hpl
  obtain⟨q0,q1,q2,q3,q4,q5⟩:=f3 b hb
  subst hX
  refine⟨hn0 b hb,Q9 (lt3 b hb),λz=>?_,.inl hb,λx c e=>q4 x c (zly I3 S x c e),λp hp=>absurd (show p ∈ ([]:List (Addr × Obj)) from hp) (by simp)⟩
  rcases Ql.mp (I3.stkSub b z) with z|z
  ·exact q1 z
  ·exact q2 z
 have hcX:X'.calm=true:=by rw[<- hX];exact hc
 have hR:∀ s':Shared,(∃ (m:Nat) (i:Nat) (ys:List V) (H':Hp),Inv X' [] (Qm h none++σ) H' s'/\tn i s'.heap/\(∀ b ∈ fp,H' b=none)/\W i m ys H')->True:=λ_ _=>trivial
 have loop:∀ (sL:Shared),(Inv X' [] (Qm h none++σ) (upd H2 s2.heap.objs.size (.lst [])) sL)->tn 0 sL.heap ->
  codeAny (model X.prog X.w) X.A (.compLoop (.ListComp elt [⟨tg,iter,ifs,0⟩] scope pos) 0 (.ref it) (.ref s2.heap.objs.size) X'.env)
   (compPost (model X.prog X.w) X.A X.xe none (EP X pins σ Q) (.ref s2.heap.objs.size) s3.heap.objs.size) sL:=by
  intro sL IL stL
  refine zji (λn s'=>∃ i ys H',Inv X' [] (Qm h none++σ) H' s'/\tn i s'.heap/\(∀ b ∈ fp,H' b=none)/\W i n ys H') ?_ m0 ⟨0,[],_,IL,stL,λb hb=>(f3 b hb).1,w0⟩
  rintro n s5 ⟨i,ys,H5,I5,st5,fr5,w5⟩
  obtain⟨hDy,hh⟩:=turn i n ys H5 w5
  have eP:X'.prog=X.prog:=by rw[<- hX];rfl
  have eW:X'.w=X.w:=by rw[<- hX];rfl
  have eK:X'.K=X.K:=by rw[<- hX];rfl
  have eE:X'.xe=λ_ _=>False:=by rw[<- hX];rfl
  rcases hh with ⟨stop,qn⟩|⟨go,step⟩
  ·have:=T.done X' eP eW eK hcX i [] s5 _ H5 (λ_ _=>False) I5 (fpX fr5 rfl) st5 stop
   rw[hA] at this
   refine thn this λr s6 ⟨hr,I6⟩=>?_
   subst hr
   obtain⟨m6,hm6,_⟩:=id I6.loc
   refine⟨m6,?_,λh7 hs7=>?_⟩
   ·rw[<- hX] at hm6;exact hm6
   ·rw[<- hX] at I6
    exact⟨.ref s2.heap.objs.size,H5,zot I3 S f3 I6 hs7,rfl,qn⟩
  ·have:=T.item X' eP eW eK hcX i [] s5 _ H5 (λ_ _=>False) I5 (fpX fr5 rfl) st5 go
   rw[hA] at this
   refine thn this λr s6 ⟨u,hr,h6⟩=>?_
   subst hr
   refine thn h6 λ_ s7 ⟨x,H7,I7,r7,y7,st7,fr7⟩=>?_
   have I7':=I7.pinned (fpX fr7 rfl) (T.obj _ _ st7)
   have back:∀ {σ':St} {H':Hp} {s':Shared},Inv X' ([]++zg2 fp s7.heap) σ' H' s'->σ'.length=(Qm h none++σ:St).length->σ'.drop h=(Qm h none++σ:St).drop h ->
    Inv X' [] (Qm h none++σ) H' s'/\tn (i+1) s'.heap/\∀ b ∈ fp,H' b=none:=by
    intro σ' H' s' I' hl hd
    refine⟨I'.unpinned.weak hl.symm λj v e=>?_,T.keep _ _ _ st7 λb hb o e=>?_,λb hb=>?_⟩
    ·by_cases hj:j<h
     ·rw[Zp (by simpa using hj),ZD,if_pos hj] at e
      cases e
     ·have e1:(σ'.drop h)[j - h]? = σ'[j]?:=by rw[Jm];congr 1;omega
      have e2:((Qm h none++σ:St).drop h)[j - h]? = (Qm h none++σ:St)[j]?:=by rw[Jm];congr 1;omega
      rw[<- e1,hd,e2];exact e
    ·exact(I'.pin (b,o) (QB _ (QB _ (zdx hb e)))).1
    ·obtain⟨o,e,_⟩:=T.obj _ _ st7 b hb
     exact(I'.pin (b,o) (QB _ (QB _ (zdx hb e)))).2.1
   have hg':=hg s3.heap.objs.size s3 (upd H2 s2.heap.objs.size (.lst [])) fp
   have ht':=ht s3.heap.objs.size s3 (upd H2 s2.heap.objs.size (.lst [])) fp
   have he':=he s3.heap.objs.size s3 (upd H2 s2.heap.objs.size (.lst [])) fp
   rw[hX] at hg' ht' he'
   have hl0:h<=(Qm h none++σ:St).length:=by simp
   have a1:=hg' _ s7 _ H7 x u _ I7' r7 (ho x _ H7 _ hl0 (step x H7 y7))
   rw[hA,eP,eW,eE] at a1
   refine thn a1 λ_ s8 ⟨σ8,H8,I8,q8,l8,d8⟩=>?_
   have a2:=ht' _ s8 σ8 H8 _ I8 q8
   rw[hA,eP,eW,eE] at a2
   refine thn a2 λc s9 ⟨H9,I9,q9⟩=>?_
   cases c with
   | false =>
     obtain⟨m',hm',w'⟩:=q9
     obtain⟨b1,b2,b3⟩:=back I9 l8 d8
     exact⟨m',hm',i+1,ys,H9,b1,b2,b3,w'⟩
   | true =>
     have a3:=he' _ s9 σ8 H9 _ I9 q9
     rw[hA,eP,eW,eE] at a3
     refine thn a3 λyv s10 ⟨y,H10,I10,r10,hD10,hz10,m',hm',w'⟩=>?_
     have a4:=zih (X:=X') _ s10 σ8 H10 (.ref s2.heap.objs.size) [y] (.ref s2.heap.objs.size) [yv] (λ_ Hz=>Hz=upd H10 s2.heap.objs.size (.lst (ys ++ [y]))) I10 rfl (.cons r10 .nil) ⟨_,ys,y,rfl,rfl,hD10,hz10,rfl⟩
     rw[hA,eP,eW,eE] at a4
     refine thn a4 λ_ s11 ⟨_,H11,I11,_,e11⟩=>?_
     subst e11
     obtain⟨b1,b2,b3⟩:=back I11 l8 d8
     exact⟨m',hm',i+1,ys ++ [y],_,b1,b2,b3,w'⟩
 have fin:=codeAny_compStart_list (prog:=X.prog) (w:=X.w) (A:=X.A) (R:=compPost (model X.prog X.w) X.A X.xe none (EP X pins σ Q) (.ref s2.heap.objs.size) s3.heap.objs.size) (elt:=elt) (target:=tg) (iter:=iter) (ifs:=ifs) (rest := []) (scope:=scope) (pos:=pos) (it := .ref it) (acc := .ref s2.heap.objs.size) (env:=X'.env)
  (loop _ I4 st4) (T.self _ 0 _ _ _ st4 (loop _ I4 st4))
 have hE:X'.env=compEnvC scope (clOf scope.names X.env) s3.heap.objs.size X.env:=by rw[<- hX];rfl
 rw[hE] at fin
 exact fin
theorem zsy{X:Cx}{elt tg iter:Expr}{ifs:List Expr}{scope:Scope}{pos py spos:Pos}{wi:TI}{g:TG}{tf:TT}{te:TE}{N':List Str}{n0:Nat}{x0:Str}(hN0:X.N.Nodup)(hi0:X.N[n0]? = some x0)(hx0:X.env.scope.names.lookup x0=some .local)(hsw:swapsWith (.ListComp elt [⟨tg,iter,ifs,0⟩] scope pos) (some (.Name x0 py)) spos.line X.env=pure true)(h:Nat)(S:ScopeOk h N' X.N scope X.env.scope)(hc:X.calm=true)(hi:PI X tg iter wi)
 (hg:∀ C s H ex,PG (zdd X scope N' C s H ex) tg g) (ho:OwnG h g) (ht:∀ C s H ex,PF (zdd X scope N' C s H ex) ifs tf) (he:∀ C s H ex,PE (zdd X scope N' C s H ex) elt te)
 (hs:∀ x,foldedSetIterable iter X.env x=pure x:=by intro _;rfl) :
 PS X (.Assign [.Name x0 py] (.ListComp elt [⟨tg,iter,ifs,0⟩] scope pos) spos) (tAsg (zsm h wi g tf te) (zbs n0)):=by
 intro pins s σ H DD I hq
 rw[exec_Assign_Name_used _ _ _ _ hsw]
 refine wpAny_bind (wpAny_standAt (wpAny_bind ?_))
 show wpAny _ X.A (do let _ <- comprehension (.ListComp elt [⟨tg,iter,ifs,0⟩] scope pos) scope X.env _ (newList []) false (eval iter X.env) (some (assign (.Name x0 py) X.env))) _ _ s
 refine wpAny_bind (wpAny_mono (wpAny_comprehension_free (use:=some (assign (.Name x0 py) X.env)) (Q:=λ_ s'=>SP X pins DD .next s') rfl hs (zj4 (env:=X.env) λp hp hk=>I.ok.has p.1 (S.free p hp hk).2) S.kind S.loc ?_) (λ_ s' hq=>wpAny_pure (wpAny_pure hq)) λ_ _ e=>e)
 refine thn (hi pins s σ H _ I hq) λv s1 h1=>thn h1 λitv s2 h2=>?_
 obtain⟨it,fp,tn,J,H2,rfl,I2,T,st2,f2,hq⟩:=h2
 refine wpAny_newObj_type ?_ (by show 0<=sizeLine;exact QO _)
 have hD:H2 s2.heap.objs.size=none:=I2.hok.fresh (Qt _)
 have I3:Inv X pins σ (upd H2 s2.heap.objs.size (.lst [])) { s2 with heap:=s2.heap.push { cls := .type "list", data := .seq ([]:List Value).toArray },toks:=s2.toks }:=I2.lnew (t':=s2.toks) .nil (QO _)
 generalize hs3:({ s2 with heap:=s2.heap.push { cls := .type "list", data := .seq ([]:List Value).toArray },toks:=s2.toks }:Shared)=s3 at I3
 have hs3':({ s2 with heap:=s2.heap.push { cls := .type "list", data := .seq ([]:List Value).toArray } }:Shared)=s3:=hs3
 obtain⟨W,⟨m0,w0⟩,turn⟩:=hq s2.heap.objs.size hD
 have olt:∀ b ∈ fp,b<s2.heap.objs.size:=λb hb=>by
  obtain⟨o,e,_⟩:=T.obj _ _ st2 b hb
  exact Qn e
 have hsz:s3.heap.objs.size=s2.heap.objs.size+1:=by rw[<- hs3];exact Z2 ..
 have k23:∀ b o,s2.heap.get? b=some o->s3.heap.get? b=some o:=λb o e=>by rw[<- hs3];exact Qb _ e
 have f3:∀ b ∈ fp,FpOk X pins (upd H2 s2.heap.objs.size (.lst [])) b:=λb hb=>⟨by rw[zaf (Q9 (olt b hb))];exact(f2 b hb).1,(f2 b hb).2⟩
 have lt3:∀ b ∈ fp,b<s3.heap.objs.size:=λb hb=>by rw[hsz];exact QY (olt b hb)
 refine wpAny_newFunctionEnv S.nocell (by intro y hy;simp at hy) (λh4 hn4 hsb4=>?_) S.kind
 have k34:∀ b o,s3.heap.get? b=some o->h4.get? b=some o:=λb o e=>hsb4.extBut b o (Q9 (Qn e)) (Qb _ e)
 have I4:=zki (h':=h4) (tk:=s3.toks+([]:List (Str × Value)).length) I3 S f3 lt3 hn4 k34
 have st4:tn 0 h4:=T.keep _ _ _ st2 λb hb o e=>k34 b o (k23 b o e)
 generalize hX:zdd X scope N' s3.heap.objs.size s3 (upd H2 s2.heap.objs.size (.lst [])) fp=X' at I4
 have hA:X'.A=X.A:=by rw[<- hX];rfl
 -- the iterator's objects,in the block
 have fpX:∀ {H':Hp} {pl:List (Addr × Obj)},(∀ b ∈ fp,H' b=none)->pl = []->∀ b ∈ fp,FpOk X' pl H' b:=λ{H' pl} hn0 hpl b hb=>by
  subst hpl
  obtain⟨q0,q1,q2,q3,q4,q5⟩:=f3 b hb
  subst hX
  refine⟨hn0 b hb,Q9 (lt3 b hb),λz=>?_,.inl hb,λx c e=>q4 x c (zly I3 S x c e),λp hp=>absurd (show p ∈ ([]:List (Addr × Obj)) from hp) (by simp)⟩
  rcases Ql.mp (I3.stkSub b z) with z|z
  ·exact q1 z
  ·exact q2 z
 have hcX:X'.calm=true:=by rw[<- hX];exact hc
 have hR:∀ s':Shared,(∃ (m:Nat) (i:Nat) (ys:List V) (H':Hp),Inv X' [] (Qm h none++σ) H' s'/\tn i s'.heap/\(∀ b ∈ fp,H' b=none)/\W i m ys H')->True:=λ_ _=>trivial
 have loop:∀ (sL:Shared),(Inv X' [] (Qm h none++σ) (upd H2 s2.heap.objs.size (.lst [])) sL)->tn 0 sL.heap ->
  codeAny (model X.prog X.w) X.A (.compLoop (.ListComp elt [⟨tg,iter,ifs,0⟩] scope pos) 0 (.ref it) (.ref s2.heap.objs.size) X'.env)
   (compPost (model X.prog X.w) X.A X.xe (some (assign (.Name x0 py) X.env)) (λ_ s'=>SP X pins DD .next s') (.ref s2.heap.objs.size) s3.heap.objs.size) sL:=by
  intro sL IL stL
  refine zji (λn s'=>∃ i ys H',Inv X' [] (Qm h none++σ) H' s'/\tn i s'.heap/\(∀ b ∈ fp,H' b=none)/\W i n ys H') ?_ m0 ⟨0,[],_,IL,stL,λb hb=>(f3 b hb).1,w0⟩
  rintro n s5 ⟨i,ys,H5,I5,st5,fr5,w5⟩
  obtain⟨hDy,hh⟩:=turn i n ys H5 w5
  have eP:X'.prog=X.prog:=by rw[<- hX];rfl
  have eW:X'.w=X.w:=by rw[<- hX];rfl
  have eK:X'.K=X.K:=by rw[<- hX];rfl
  have eE:X'.xe=λ_ _=>False:=by rw[<- hX];rfl
  rcases hh with ⟨stop,qn⟩|⟨go,step⟩
  ·have:=T.done X' eP eW eK hcX i [] s5 _ H5 (λ_ _=>False) I5 (fpX fr5 rfl) st5 stop
   rw[hA] at this
   refine thn this λr s6 ⟨hr,I6⟩=>?_
   subst hr
   obtain⟨m6,hm6,_⟩:=id I6.loc
   have hC6:H5 s3.heap.objs.size=none:=by rw[<- hX] at I6;exact I6.free
   have hm6:s6.heap.Ns s3.heap.objs.size m6:=by rw[<- hX] at hm6;exact hm6
   have J6:Inv X pins σ H5 s6:=by rw[<- hX] at I6;exact zot I3 S f3 I6 (jn ..)
   have neL:s3.heap.objs.size ≠ X.env.locals:=Zx I3.lt
   have neC:∀ x c,X.env.cells.lookup x=some c->c ≠ s3.heap.objs.size:=λx c e=>by
    obtain⟨v,z⟩:=I3.cell x c e
    exact Q9 z.lt
   show wpAny (model X.prog X.w) X.A (assign (.Name x0 py) X.env (.ref s2.heap.objs.size)) _ _ s6
   refine wpAny_assign_Name (zma (v := .ref s2.heap.objs.size) J6 hN0 hi0 (.inl hx0) rfl (λs7 I7 ⟨a,hsb,ha⟩=>?_) (.inr hx0))
   have hac:s3.heap.objs.size ≠ a:=by
    rcases ha with rfl|ha
    ·exact neL
    ·exact ZY (neC _ _ ha)
   refine⟨m6,hm6.sameBut hsb hac,λh8 hs8=>⟨_,H5,I7.turned (t':=s7.toks) (it:=s3.heap.objs.size) (λb o hb e=>(hs8.2 b hb).trans e) hC6 neL (.inr I3.sz) neC (λp hp=>?_),qn⟩⟩
   exact Q9 (Qn (I3.pin p hp).1)
  ·have:=T.item X' eP eW eK hcX i [] s5 _ H5 (λ_ _=>False) I5 (fpX fr5 rfl) st5 go
   rw[hA] at this
   refine thn this λr s6 ⟨u,hr,h6⟩=>?_
   subst hr
   refine thn h6 λ_ s7 ⟨x,H7,I7,r7,y7,st7,fr7⟩=>?_
   have I7':=I7.pinned (fpX fr7 rfl) (T.obj _ _ st7)
   have back:∀ {σ':St} {H':Hp} {s':Shared},Inv X' ([]++zg2 fp s7.heap) σ' H' s'->σ'.length=(Qm h none++σ:St).length->σ'.drop h=(Qm h none++σ:St).drop h ->
    Inv X' [] (Qm h none++σ) H' s'/\tn (i+1) s'.heap/\∀ b ∈ fp,H' b=none:=by
    intro σ' H' s' I' hl hd
    refine⟨I'.unpinned.weak hl.symm λj v e=>?_,T.keep _ _ _ st7 λb hb o e=>?_,λb hb=>?_⟩
    ·by_cases hj:j<h
     ·rw[Zp (by simpa using hj),ZD,if_pos hj] at e
      cases e
     ·have e1:(σ'.drop h)[j - h]? = σ'[j]?:=by rw[Jm];congr 1;omega
      have e2:((Qm h none++σ:St).drop h)[j - h]? = (Qm h none++σ:St)[j]?:=by rw[Jm];congr 1;omega
      rw[<- e1,hd,e2];exact e
    ·exact(I'.pin (b,o) (QB _ (QB _ (zdx hb e)))).1
    ·obtain⟨o,e,_⟩:=T.obj _ _ st7 b hb
     exact(I'.pin (b,o) (QB _ (QB _ (zdx hb e)))).2.1
   have hg':=hg s3.heap.objs.size s3 (upd H2 s2.heap.objs.size (.lst [])) fp
   have ht':=ht s3.heap.objs.size s3 (upd H2 s2.heap.objs.size (.lst [])) fp
   have he':=he s3.heap.objs.size s3 (upd H2 s2.heap.objs.size (.lst [])) fp
   rw[hX] at hg' ht' he'
   have hl0:h<=(Qm h none++σ:St).length:=by simp
   have a1:=hg' _ s7 _ H7 x u _ I7' r7 (ho x _ H7 _ hl0 (step x H7 y7))
   rw[hA,eP,eW,eE] at a1
   refine thn a1 λ_ s8 ⟨σ8,H8,I8,q8,l8,d8⟩=>?_
   have a2:=ht' _ s8 σ8 H8 _ I8 q8
   rw[hA,eP,eW,eE] at a2
   refine thn a2 λc s9 ⟨H9,I9,q9⟩=>?_
   cases c with
   | false =>
     obtain⟨m',hm',w'⟩:=q9
     obtain⟨b1,b2,b3⟩:=back I9 l8 d8
     exact⟨m',hm',i+1,ys,H9,b1,b2,b3,w'⟩
   | true =>
     have a3:=he' _ s9 σ8 H9 _ I9 q9
     rw[hA,eP,eW,eE] at a3
     refine thn a3 λyv s10 ⟨y,H10,I10,r10,hD10,hz10,m',hm',w'⟩=>?_
     have a4:=zih (X:=X') _ s10 σ8 H10 (.ref s2.heap.objs.size) [y] (.ref s2.heap.objs.size) [yv] (λ_ Hz=>Hz=upd H10 s2.heap.objs.size (.lst (ys ++ [y]))) I10 rfl (.cons r10 .nil) ⟨_,ys,y,rfl,rfl,hD10,hz10,rfl⟩
     rw[hA,eP,eW,eE] at a4
     refine thn a4 λ_ s11 ⟨_,H11,I11,_,e11⟩=>?_
     subst e11
     obtain⟨b1,b2,b3⟩:=back I11 l8 d8
     exact⟨m',hm',i+1,ys ++ [y],_,b1,b2,b3,w'⟩
 have fin:=codeAny_compStart_list (prog:=X.prog) (w:=X.w) (A:=X.A) (R:=compPost (model X.prog X.w) X.A X.xe (some (assign (.Name x0 py) X.env)) (λ_ s'=>SP X pins DD .next s') (.ref s2.heap.objs.size) s3.heap.objs.size) (elt:=elt) (target:=tg) (iter:=iter) (ifs:=ifs) (rest := []) (scope:=scope) (pos:=pos) (it := .ref it) (acc := .ref s2.heap.objs.size) (env:=X'.env)
  (loop _ I4 st4) (T.self _ 0 _ _ _ st4 (loop _ I4 st4))
 have hE:X'.env=compEnvC scope (clOf scope.names X.env) s3.heap.objs.size X.env:=by rw[<- hX];rfl
 rw[hE] at fin
 exact fin
structure Fly (h:Heap) (e:Addr) (cls:Value) (dx:Option Addr) (T:Option Addr):Prop where
 obj:∃ oe vs,h.get? e=some oe/\oe.cls=cls/\oe.dict=dx/\oe.data = .fields vs/\1<vs.size/\vs[1]? = some (T.elim .none .ref)
 note:∀ t,T=some t->t ≠ e/\∃ oT ts,h.get? t=some oT/\oT.data = .fields ts/\ts[3]? = some .none
structure Flew (fs:List Addr) (e:Addr) (T:Option Addr) (h h':Heap):Prop where
 keep:∀ b o,b ≠ e->T ≠ some b->b ∉ fs->h.get? b=some o->h'.get? b=some o
 slot:∀ b o,b ∈ fs->h.get? b=some o->∃ sl,h'.get? b=some { o with slots:=sl }
section
variable {M : Model} {A : Around} {E : Value → Shared → Prop} {s : Shared} {base : Heap} {env : Env} {outer : List Env} {L e : Addr}
theorem zl3(o:Obj)(f):(o.mapFields f).dict=o.dict:=by
 obtain⟨c,d,dt,sl⟩:=o
 cases dt <;> rfl
theorem zmq{cls:Value}{dx:Option Addr}{head:Value}{hn:Bool}{Q:Unit->Shared->Prop}{oe:Obj}{vs:Array Value}(hfr:A.frames=some (env::outer))(hl:s.heap.FunFrames base (env::outer))(hf:env.frame=some L)
 (he:s.heap.get? e=some oe) (hc:oe.cls=cls) (hx:oe.dict=dx) (hd:oe.data = .fields vs) (hz:1<vs.size)
 (q:∀ h' t,Fly h' e cls dx (some t)->s.heap.objs.size<=t->Flew (frs (env::outer)) e none s.heap h'->h'.FunFrames base (env::outer)->Q () { s with heap:=h' }) :
 wpAny M A (do let a <- frameOf env;let pl <- entryPlaceOf L hn;let b <- qh head a .none (rawInt L) .none pl;setField (.ref e) 1 b) (λ_ s'=>wpAny M A (setFlight (.ref e) none) Q E s') E s:=by
 have ne:e ∉ frs (env::outer):=λm=>by
  obtain⟨_,o,ho,nf⟩:=hl.mem m
  rw[he] at ho
  cases ho
  exact nf vs hd
 refine wpAny_bind (wpAny_frameOf_fun hfr hl hf λh1 s1=>?_)
 refine wpAny_bind (wpAny_entryPlaceOf λpl hp=>?_)
 unfold qh newFields
 refine wpAny_bind (wpAny_newObj_type ?_ (hp.sizeOk5 _ _ _ _ _))
 generalize ho:({ cls := .type "traceback", dict:=none,data := .fields ([head,.ref L,.none,rawInt L,.none]++(if pl.isEmpty then Qm 6 Zh else pl)).toArray }:Obj)=nt
 have z3:3<([head,.ref L,.none,rawInt L,.none]++(if pl.isEmpty then Qm 6 Zh else pl)).toArray.size:=by simp only[Qs,Qf,Qy] <;> omega
 generalize hts:([head,.ref L,.none,rawInt L,.none]++(if pl.isEmpty then Qm 6 Zh else pl)).toArray=ts at ho z3
 have dn:nt.data = .fields ts:=by rw[<- ho]
 have fn:nt.isFreed=false:=Jr dn
 have e1:h1.get? e=some oe:=(s1.2.1 e ne).trans he
 have e2:=Qb nt e1
 refine wpAny_setField e2 hd hz ?_
 have te:h1.objs.size ≠ e:=Zx (Qn e1)
 have d3:=JA hd (·.setIfInBounds 1 (QC h1.objs.size))
 have e3:=QT (J0 (·.setIfInBounds 1 (QC h1.objs.size))) e2 (Jr d3)
 have t3:=(QJ (h1.push nt) (J0 (·.setIfInBounds 1 (QC h1.objs.size))) (ZY te)).trans (Qq h1 fn)
 unfold setFlight
 refine wpAny_bind (wpAny_field e3 d3 (x := .ref h1.objs.size) (by simp[hz]) ?_)
 rw[if_pos (by simp)]
 have d4:=JA dn (·.setIfInBounds 3 ((none:Option Addr).elim Zh λf=>rawInt f))
 have t4:=QT (J0 (·.setIfInBounds 3 ((none:Option Addr).elim Zh λf=>rawInt f))) t3 (Jr d4)
 have kp:∀ b o,b ≠ e->h1.get? b=some o->(((h1.push nt).update e (J0 (·.setIfInBounds 1 (QC h1.objs.size)))).update h1.objs.size (J0 (·.setIfInBounds 3 ((none:Option Addr).elim Zh λf=>rawInt f)))).get? b=some o:=λb o nb hb=>by
  rw[QJ _ _ (Zx (Qn hb)),QJ _ _ (ZY nb)]
  exact Qb nt hb
 refine wpAny_setField t3 dn z3 (q _ h1.objs.size ⟨⟨_,_,(QJ _ _ te).trans e3,(qH _ _).trans hc,(zl3 _ _).trans hx,d3,by simpa using hz,by simp[hz]⟩,λt et=>?_⟩ ?_ ⟨λb o nb _ nf hb=>?_,λb o mb hb=>?_⟩ ?_)
 ·cases et
  exact⟨te,_,_,t4,d4,by simp[z3]⟩
 ·exact Yu s1.1.symm
 ·exact kp b o nb ((s1.2.1 b nf).trans hb)
 ·obtain⟨sl,h2⟩:=s1.2.2 b o hb
  exact⟨sl,kp b _ (λz=>ne (z ▸ mb)) h2⟩
 ·refine hl.of_keeps λb o hb nf=>?_
  obtain⟨sl,h2⟩:=s1.2.2 b o hb
  exact⟨_,kp b _ (λz=>by rw[z,he] at hb;cases hb;exact nf vs hd) h2,rfl⟩
theorem zpk{cls:Value}{dx T:Option Addr}{Q:Unit->Shared->Prop}(hfr:A.frames=some (env::outer))(hl:s.heap.FunFrames base (env::outer))(hf:env.frame=some L)(hb:∀ t,T=some t->base.get? t=none)
 (F:Fly s.heap e cls dx T) (q:∀ h' t,Fly h' e cls dx (some t)->s.heap.objs.size<=t->Flew (frs (env::outer)) e T s.heap h'->h'.FunFrames base (env::outer)->Q () { s with heap:=h' }) :
 wpAny M A (noteFrame (.ref e) env) (λ_ s'=>wpAny M A (setFlight (.ref e) none) Q E s') E s:=by
 obtain⟨⟨oe,vs,he,hc,hx,hd,hz,h1⟩,nt⟩:=F
 unfold noteFrame
 simp only[hf]
 refine wpAny_bind (wpAny_field he hd h1 ?_)
 cases T with
 | none =>
   rw[if_neg (by decide)]
   exact zmq hfr hl hf he hc hx hd hz q
 | some t =>
   obtain⟨tne,oT,ts,ht,dt,t3⟩:=nt t rfl
   have z3:3<ts.size:=(JO.mp t3).1
   rw[if_pos (show((some t).elim Zh QC != Zh)=true by simp)]
   refine wpAny_bind (wpAny_field ht dt t3 ?_)
   rw[if_neg (by simp[rawInt])]
   refine wpAny_bind (wpAny_setField ht dt z3 ?_)
   have ot:∀ b,b ≠ t->(s.heap.update t (J0 (·.setIfInBounds 3 Zh))).get? b=s.heap.get? b:=λb nb=>QJ _ _ (ZY nb)
   have rcd:∀ b o,s.heap.get? b=some o->(∀ vs,o.data ≠ .fields vs)->b ≠ t:=λb o gb nf z=>by
    rw[z,ht] at gb
    cases gb
    exact nf ts dt
   have nfr:t ∉ frs (env::outer):=λm=>by
    obtain⟨_,o,go,nf⟩:=hl.mem m
    rw[ht] at go
    cases go
    exact nf ts dt
   refine zmq (s:={ s with heap:=s.heap.update t (J0 (·.setIfInBounds 3 Zh)) }) hfr (hl.of_keeps λb o gb nf=>⟨o,(ot b (rcd b o gb nf)).trans gb,rfl⟩) hf ((ot e (ZY tne)).trans he) hc hx hd hz λh' u F' nu W fr=>?_
   exact q h' u F' (by rw[<- Heap.size_after_update s.heap t];exact nu) ⟨λb o nb nT nf gb=>W.keep b o nb (by simp) nf ((ot b λz=>nT (by rw[z])).trans gb),λb o mb gb=>W.slot b o mb ((ot b λz=>nfr (z ▸ mb)).trans gb)⟩ fr
theorem zux{cls:Value}{dx T:Option Addr}{Q:Unit->Shared->Prop}(hfr:A.frames=some (env::outer))(hl:s.heap.FunFrames base (env::outer))(hf:env.frame=some L)(hb:∀ t,T=some t->base.get? t=none)
 (F:Fly s.heap e cls dx T) (q:∀ h' t,Fly h' e cls dx (some t)->s.heap.objs.size<=t->Flew (frs (env::outer)) e T s.heap h'->h'.FunFrames base (env::outer)->Q () { s with heap:=h' }) :
 wpAny M A (leaving env (.ref e)) Q E s:=wpAny_bind (zpk hfr hl hf hb F q)
theorem zy0{cls:Value}{dx:Option Addr}{t:Addr}{Q:Unit->Shared->Prop}(F:Fly s.heap e cls dx (some t))(q:∀ h',Fly h' e cls dx (some t)->(∀ b o,b ≠ t->s.heap.get? b=some o->h'.get? b=some o)->Q () { s with heap:=h' }):wpAny M A (setFlight (.ref e) none) Q E s:=by
 obtain⟨⟨oe,vs,he,hc,hx,hd,hz,h1⟩,nt⟩:=F
 obtain⟨tne,oT,ts,ht,dt,t3⟩:=nt t rfl
 have z3:3<ts.size:=(JO.mp t3).1
 unfold setFlight
 refine wpAny_bind (wpAny_field he hd h1 ?_)
 rw[if_pos (show((some t).elim Zh QC != Zh)=true by simp)]
 have d4:=JA dt (·.setIfInBounds 3 ((none:Option Addr).elim Zh λf=>rawInt f))
 have t4:=QT (J0 (·.setIfInBounds 3 ((none:Option Addr).elim Zh λf=>rawInt f))) ht (Jr d4)
 refine wpAny_setField ht dt z3 (q _ ⟨⟨oe,vs,(QJ _ _ tne).trans he,hc,hx,hd,hz,h1⟩,λu eu=>?_⟩ λb o nb hb=>(QJ _ _ (ZY nb)).trans hb)
 cases eu
 exact⟨tne,_,_,t4,d4,by simp[z3]⟩
end
section
variable {P : Program} {w : World} {H : Hp} {h h' : Heap} {fs : List Addr} {e : Addr} {T : Option Addr}
theorem Flew.un(W:Flew fs e T h h'):Un fs (e::T.toList) H H h h' where
 keep:=λb o q _ nf nx=>W.keep b o (λz=>nx (by rw[z];exact Q8)) (λz=>nx (by rw[z];simp)) nf q
 slot:=λb o q _ mf _=>W.slot b o mf q
 free:=λb o q n _=>n
 there:=λb o q nx=>by
  by_cases hb:b ∈ fs
  ·obtain⟨sl,z⟩:=W.slot b o hb q
   exact⟨_,z⟩
  ·exact⟨o,W.keep b o (λz=>nx (by rw[z];exact Q8)) (λz=>nx (by rw[z];simp)) hb q⟩
 tups:=λ_ _ q=>q
 frzs:=λ_ _ _ q=>q
 tbls:=λb ps q=>⟨#[],by rw[jb];exact q⟩
theorem Flew.hok(W:Flew fs e T h h')(hok:HOk P w H h)(he:H e=none)(hT:∀ t,T=some t->H t=none)(hf:∀ b ∈ fs,H b=none):HOk P w H h':=λa o q =>
 (hok a o q).stay (λb u hb g=>by
  have nb:H b ≠ none:=by
   rcases hb with z|z
   ·rw[z,q];simp
   ·rw[z];simp
  exact W.keep b u (λz=>nb (by rw[z];exact he)) (λz=>nb (hT b z)) (λz=>nb (hf b z)) g) (λ_ z=>z) λ_ _ z=>z
end
def CX1(P:Program)(w:World):CXT:=λouter H s E e s'=>∃ (a C dx:Addr) (T:Option Addr) (H':Hp),e = .ref a/\s'.os=s.os/\AllBare s'.gens/\Un (frs outer) [] H H' s.heap s'.heap/\HOk P w H' s'.heap /\
 Fly s'.heap a (.ref C) (some dx) T/\H' a=none/\s.heap.objs.size<=a/\(∀ t,T=some t->H' t=none/\s.heap.objs.size<=t)/\E (.ref C) (some dx) H'
structure Bdy (P:Program) (w:World) (X:Cx) (E:XK):Prop where
 prog:X.prog=P
 wld:X.w=w
 stk:X.stack=X.env::X.outer
 fr:X.env.frame=some X.env.locals
 ex:X.ex = []
 xe:X.xe=λe s'=>wpAny (model P w) X.A (leaving X.env e) (λ_ s''=>CX1 P w X.outer X.H₀ X.s₀ E e s'') (λe' s''=>CX1 P w X.outer X.H₀ X.s₀ E e' s'') s'
section
variable {P : Program} {w : World} {X : Cx} {E : XK} {pins : List (Addr × Obj)} {σ : St} {H : Hp} {s : Shared} {a C dx : Addr} {T : Option Addr}
theorem Bdy.out(B:Bdy P w X E)(I:Inv X pins σ H s)(F:Fly s.heap a (.ref C) (some dx) T)(na:H a=none)(fa:X.s₀.heap.objs.size<=a)(hT:∀ t,T=some t->H t=none/\X.s₀.heap.objs.size<=t)(q:E (.ref C) (some dx) H):X.xe (.ref a) s:=by
 have fr0:X.A.frames=some (X.env::X.outer):=by rw[I.ok.frames,B.stk]
 have st0:s.heap.FunFrames X.base (X.env::X.outer):=by have:=I.stack;rwa [B.stk] at this
 have bT:∀ t,T=some t->X.base.get? t=none:=λt z=>by
  cases g:X.base.get? t with
  | none=>rfl
  | some o=>exact absurd (Qn (I.ok.bs t o g).1) (ZN.mpr (hT t z).2)
 rw[B.xe]
 refine zux fr0 st0 B.fr bT F λh' t F' nt W fr=>?_
 have frn:∀ b ∈ frs (X.env::X.outer),H b=none:=by have:=I.stkFree;rwa [B.stk] at this
 have hok:=B.prog ▸ B.wld ▸ W.hok I.hok na (λt z=>(hT t z).1) frn
 have bu:=I.base
 rw[B.ex] at bu
 have s0:∀ b o,X.s₀.heap.get? b=some o->b ≠ a/\T ≠ some b/\b ≠ X.env.locals:=λb o g=>by
  refine⟨λz=>?_,λz=>?_,λz=>?_⟩
  ·rw[z] at g;exact absurd (Qn g) (ZN.mpr fa)
  ·exact absurd (Qn g) (ZN.mpr (hT b z).2)
  ·rw[z] at g;exact absurd (QL (Qn g) I.ok.above) (ZI _)
 have nf:∀ b,b ≠ X.env.locals->b ∉ X.fs->b ∉ frs (X.env::X.outer):=λb h1 h2 m=>by
  have m2:b ∈ X.env.locals::X.fs:=by
   have:frs (X.env::X.outer)=X.env.locals::X.fs:=by
    show zj _ (X.env::X.outer)=_
    rw[J1,B.fr]
    rfl
   rwa [this] at m
  rcases Ql.mp m2 with z|z
  ·exact h1 z
  ·exact h2 z
 have mf:∀ b,b ∈ X.fs->b ∈ frs (X.env::X.outer):=λb m=>by
  show b ∈ zj _ (X.env::X.outer)
  rw[J1,B.fr]
  exact Qj _ m
 have un:Un (frs X.outer) [] X.H₀ H X.s₀.heap h':={
  keep:=λb o g n hb hx=>let ⟨z1,z2,z3⟩:=s0 b o g;W.keep b o z1 z2 (nf b z3 hb) (bu.keep b o g n hb hx)
  slot:=λb o g n hb hx=>by
   obtain⟨sl,g1⟩:=bu.slot b o g n hb hx
   obtain⟨sl2,g2⟩:=W.slot b _ (mf b hb) g1
   exact⟨sl2,g2⟩
  free:=bu.free
  there:=λb o g hx=>by
   obtain⟨o1,g1⟩:=bu.there b o g hx
   obtain⟨z1,z2,z3⟩:=s0 b o g
   by_cases hb:b ∈ X.fs
   ·obtain⟨sl2,g2⟩:=W.slot b _ (mf b hb) g1
    exact⟨_,g2⟩
   ·exact⟨o1,W.keep b o1 z1 z2 (nf b z3 hb) g1⟩
  tups:=bu.tups
  frzs:=bu.frzs
  tbls:=bu.tbls }
 refine⟨a,C,dx,some t,H,rfl,I.os,I.bare,un,hok,F',na,fa,λu z=>?_,q⟩
 cases z
 exact⟨I.hok.fresh nt,Q2 I.sz nt⟩
theorem Bdy.pass(B:Bdy P w X E):zkj (CX1 P w) X E:=λpins σ H s e s' I h=>by
 obtain⟨a,C,dx,T,H',rfl,os,bare,un,hok,F,na,fa,hT,q⟩:=h
 have I':Inv X pins σ H' s':=I.call' os un (B.prog.symm ▸ B.wld.symm ▸ hok) bare (λb z=>absurd z (by simp))
 exact B.out I' F na (Q2 I.sz fa) (λt z=>⟨(hT t z).1,Q2 I.sz (hT t z).2⟩) q
end
end L3
namespace L3
open PySem PySem.Spec PySem.Calls
open PyProof.Rows hiding St
open L2
theorem zsc{K:Qa}{h:Heap}{A1:Addr}{c0:Value}{dd od:Option Addr}{cd:ClassData}{sl osl:Array (Option Value)}{es:Array DictEntry}{ep:Nat}{oc:Value}{bmB tl:List Value}(x:K.In h)
 (hA:K.lookup A1=some ⟨c0,dd,.cls cd,sl⟩) (hN:K.lookup cd.ns=some ⟨oc,od,.dict es ep,osl⟩) (sk:StrKeys es) (ni:nsFind es "__init__" = none) (T:OwnTail h bmB tl):OwnTail h bmB (.ref A1::tl) :=
 .own (x _ _ hA) ⟨_,es,ep,x _ _ hN,rfl,sk,λ_=>rfl⟩ ni T
abbrev zfq(us:List Value):Obj:={ cls := .type "tuple", data := .seq us.toArray }
abbrev zem(C t:Addr):Obj:={ cls := .ref C,data := .fields #[.ref t,.none,.none,.none,.bool false,.none] }
section
variable {prog : Program} {w : World} {A : Around} {K : Qa} {C N f : Addr} {R : Result → Shared → Prop} {s : Shared} {us : List Value}
variable {nm q : Str} {bs bm bmB : List Value} {sn : List Str} {sub : List Value} {ab : Bool} {col : Option Bool} {dd : Option Addr} {k0 k1 k2 k3 k5 : Option Value} {B newId initId : String}
theorem z8r(X:K.In s.heap)(hC:K.lookup C=some (excClassObj nm q C N bs bm true sn sub ab col dd k0 k1 k2 k3 k5 newId))(T:OwnTail s.heap bmB bm)(F:ExcBaseFacts B newId initId bmB)
 (hi:QS K (.ref C) "__init__" = some (some (.ref f))) (hf:Jn K (.ref f)=some (.type "function")) (hu:us.length<=sizeLine)
 (h:codeAny (model prog w) (A.under (.builtin "type.__call__" ⟨.ref C::us,[]⟩)) (.call (.ref f) ⟨.ref (s.heap.objs.size+1)::us,[]⟩) (PySem.W.InitBack (s.heap.objs.size+1) R)
  { s with heap:=(s.heap.push (zfq us)).push (zem C s.heap.objs.size) }) :
 codeAny (model prog w) A (.call (.ref C) ⟨us,[]⟩) R s:=by
 obtain⟨hh,g,d,tk,os⟩:=s
 have gC:=X _ _ hC
 have t1:=tc_lookup
 have t2:=tc_bind (.ref C)
 have tT:(⟨hh,g,d,tk,os⟩:Shared).TypeIs (.ref C) "type" := ⟨_,gC,rfl⟩
 refine codeAny_of_tree ?_
 show wpAny _ _ (callAny (.ref C) _) _ _ _
 repeat (any_goals (first|assumption|with_reducible refine wpAny_loadPart_at gC ?_|wp_step))
 refine⟨rfl,?_⟩
 refine codeAny_call_builtin_at (jc _ (by decide +kernel)) entry_typeCall (wpAny_check_type_call_sub gC ?_)
 repeat (first|with_reducible refine wpAny_loadPart_at gC ?_|with_reducible refine wpAny_madeBy_exc gC ?_|wp_step)
 refine codeAny_call_builtin_code (jc _ F.quiet) (wpAny_check_new_subT F T gC (codeAny_exc_new_subT F T gC ?_ hu))
 show wpAny _ _ _ _ _ _
 have kp:∀ b o,hh.get? b=some o->((hh.push (zfq us)).push (zem C hh.objs.size)).get? b=some o:=λb o z=>Qb _ (Qb _ z)
 have gC1:=kp _ _ gC
 have X1:=X.keeps kp
 have gx:((hh.push (zfq us)).push (zem C hh.objs.size)).get? (hh.objs.size+1)=some (zem C hh.objs.size):=by heap_get
 have cC:(QC C::bm).contains (.ref C)=true:=by simp
 have tx:ZW (model prog w) ((hh.push (zfq us)).push (zem C hh.objs.size)) (typeOf (.ref (hh.objs.size+1))) (.ref C):=(Y9 gx).andThen .now
 have sx:ZW (model prog w) ((hh.push (zfq us)).push (zem C hh.objs.size)) (isSubtype (.ref C) (.ref C)) true:=λA1 Q1 E1 s1 k1 z1=>by
  obtain⟨h1,g1,d1,u1,o1⟩:=s1
  refine wpAny_isSubtype_exc (k1 _ _ gC1) ?_
  rw[cC]
  exact z1
 have ix:=Jv (M:=model prog w) X1 hi
 have bx:=PySem.W.bind_fn (M:=model prog w) X1 (.ref (hh.objs.size+1)) hf
 have nx:ZW (model prog w) ((hh.push (zfq us)).push (zem C hh.objs.size)) (isInstance (.ref (hh.objs.size+1)) (.ref C)) true:=tx.andThen sx
 refine wpAny_bind (nx.here ?_)
 rw[if_neg (by decide)]
 unfold callSpecial? specialOf
 refine wpAny_bind (wpAny_holding (wpAny_bind (wpAny_bind (tx.here ?_))))
 refine ix.here ?_
 refine wpAny_holding (wpAny_bind (bx.here ?_))
 refine wpAny_bind (wpAny_call (codeAny_mono h λr s' z=>?_))
 rcases r with e|(v|_|_|_)
 ·exact z
 ·exact z.elim
 ·exact z.elim
 ·exact z.elim
 ·obtain⟨rfl,z⟩:=z
  exact wpAny_pure (wpAny_pure z)
end
end L3
namespace L3
open PySem PySem.Spec PySem.Calls Builtin Builtin.ObjectAttr
open PyProof.Rows hiding St
open L2
structure XCls (K:Qa) (C:Addr) (f:Str):Prop where
 cls:∃ cd,YC K C=some cd/\cd.hasDict=true/\cd.mro.isEmpty=false/\cd.mro.contains (.type "object")=true/\∀ v,refuseLoop v "__setattr__" cd.mro=pure ()
 sa:QS K (.ref C) "__setattr__" = some (some (.builtin "object.__setattr__"))
 no:QS K (.ref C) f=some none
section
variable {prog : Program} {w : World} {A : Around} {E : Value → Shared → Prop} {K : Qa} {C x : Addr} {s : Shared} {f : Str} {v : Value} {o : Obj} {vs : Array Value} {Q : Unit → Shared → Prop} {R : Result → Shared → Prop}
theorem ybi{tk:Tok}(X:K.In s.heap)(c:XCls K C f)(hx:s.heap.get? x=some o)(hc:o.cls = .ref C)
 (h:wpAny (model prog w) A.in1 (storeInOwnDict (.ref x) (.ref C) (.str f tk) f v false)
  (λfin s'=>match fin with | .done z=>R (.ok z) s' | .again c'=>c'.quiet=true/\codeAny (model prog w) A c' R s') (λe s'=>R (.error e) s') s) :
 codeAny (model prog w) A (.call (.builtin "object.__setattr__") ⟨[.ref x,.str f tk,v],[]⟩) R s:=by
 obtain⟨⟨cd,c1,c2,c3,c4,c5⟩,sa,no⟩:=c
 have S:=jU
 have ty:ZW (model prog w) s.heap (typeOf (.ref x)) (.ref C):=by
  obtain⟨oc,od,dt,sl⟩:=o
  cases hc
  exact(Y9 hx).andThen .now
 have sb:ZW (model prog w) s.heap (isInstance (.ref x) (.type "object")) true:=ty.andThen (Yc X (by unfold Zk;rw[c1,Option.bind_some,if_neg (by rw[c3];decide),c4]))
 refine codeAny_call_builtin S.slot.plain S.entry (@qu (model prog w) _ _ s "object.__setattr__" "object" "__setattr__" (.ref x) [.str f tk,v] [] _ S.kind S.split sb (S.args (.ref x) (.str f tk) v) ?_)
 have mr:ZW (model prog w) s.heap (mroOf (.ref C)) cd.mro:=(YR X c1).andThen .now
 rw[PySem.W.osa_eq,refuse_eq]
 refine wpAny_bind (wpAny_bind (ty.here (wpAny_bind (mr.here ?_))))
 rw[c5]
 refine wpAny_pure (wpAny_bind (ty.here (wpAny_bind ((Jv X no).here (wpAny_bind (wpAny_pure ?_))))))
 exact h
theorem z0m(X:K.In s.heap)(c:XCls K C f)(hx:s.heap.get? x=some o)(hc:o.cls = .ref C)
 (h:wpAny (model prog w) A.in1 (storeInOwnDict (.ref x) (.ref C) (.str f s.toks) f v false) (λfin s'=>match fin with | .done (.ret _)=>Q () s'|_=>False) E { s with toks:=s.toks+1 }) :
 wpAny (model prog w) A (setAttr (.ref x) f v) Q E s:=by
 have ty:ZW (model prog w) s.heap (typeOf (.ref x)) (.ref C):=by
  obtain⟨oc,od,dt,sl⟩:=o
  cases hc
  exact(Y9 hx).andThen .now
 unfold setAttr callSpecial? specialOf
 refine wpAny_bind (wpAny_mkText (wpAny_bind (wpAny_bind (wpAny_bind (ZT (s:={ s with toks:=s.toks+1 }) ty ?_)))))
 refine ZT (s:={ s with toks:=s.toks+1 }) (Jv X c.sa) ?_
 refine wpAny_holding ?_
 rw[jU.slot.bind]
 refine wpAny_bind (wpAny_pure (wpAny_bind (wpAny_call (ybi (s:={ s with toks:=s.toks+1 }) X c hx hc (wpAny_mono h (λfin s' z=>?_) λe s' z=>z)))))
 rcases fin with (_|_|_|u)|c'
 ·exact z.elim
 ·exact z.elim
 ·exact z.elim
 ·exact wpAny_pure (wpAny_pure z)
 ·exact z.elim
theorem z7a(X:K.In s.heap)(c:XCls K C f)(hx:s.heap.get? x=some o)(hc:o.cls = .ref C)(hd:o.data = .fields vs)(hn:o.dict=none)
 (h:∀ h' d tk,h'.get? x=some { o with dict:=some d }->h'.Ns1 d (λy=>if y=f then some v else none)->d=s.heap.objs.size->(∀ b u,b ≠ x->s.heap.get? b=some u->h'.get? b=some u)->Q () { s with heap:=h',toks:=tk }) :
 wpAny (model prog w) A (setAttr (.ref x) f v) Q E s:=by
 refine z0m X c hx hc ?_
 obtain⟨⟨cd,c1,c2,c3,c4,c5⟩,sa,no⟩:=c
 obtain⟨hh,g,d,tk,os⟩:=s
 obtain⟨oc,od,dt,sl⟩:=o
 cases hc
 cases hd
 cases hn
 have gx:(hh.push JI).get? x=some ⟨.ref C,none,.fields vs,sl⟩:=Qb _ hx
 have nx:x ≠ hh.objs.size:=Q9 (Qn hx)
 unfold storeInOwnDict ownDictForStores instanceDict
 refine wpAny_bind (wpAny_pure (wpAny_bind (wpAny_bind (wpAny_loadPart hx (wpAny_bind (ZT (s:=⟨hh,g,d,tk+1,os⟩) (YR X c1) ?_))))))
 rw[c2]
 refine wpAny_bind (wpAny_alloc ?_)
 refine wpAny_bind (wpAny_update gx ?_)
 refine wpAny_pure ?_
 have g2:((hh.push JI).update x λo=>{ cls:=o.cls,dict:=some hh.objs.size,data:=o.data,slots:=o.slots }).get? hh.objs.size=some JI:=(QJ _ _ nx).trans (Heap.get?_push_at rfl rfl)
 have g3:((hh.push JI).update x λo=>{ cls:=o.cls,dict:=some hh.objs.size,data:=o.data,slots:=o.slots }).get? x=some ⟨.ref C,some hh.objs.size,.fields vs,sl⟩:=QT _ gx rfl
 have n2:((hh.push JI).update x λo=>{ cls:=o.cls,dict:=some hh.objs.size,data:=o.data,slots:=o.slots }).Ns hh.objs.size (λ_=>none):=⟨_,#[],_,g2,rfl,λe he=>absurd he (by simp),λ_=>rfl⟩
 show wpAny _ _ (storeInDict hh.objs.size (.str f tk) f v) _ _ _
 unfold storeInDict newKeyGuard
 refine wpAny_bind (wpAny_pure (wpAny_bind (wpAny_nsSet1 (Heap.Ns1.of_empty n2) λh' m1 sb=>?_)))
 obtain⟨oD,eD,pD,hoD,hdD,hcD⟩:=m1.count (zG f v Within.nil)
 refine wpAny_bind (wpAny_lookBehind hoD (by rw[hdD];exact pastItsLine_dict (Q2 hcD (by rw[Qy,List.length_nil,sizeLine_eq];omega))) (wpAny_pure ?_))
 refine h h' hh.objs.size _ ((sb.2 x nx).trans g3) m1 rfl λb u nb hb=>?_
 exact(sb.2 b (Q9 (Qn hb))).trans ((QJ _ _ (ZY nb)).trans (Qb _ hb))
theorem z9n{dx:Addr}{mA:Str->Option Value}{ns:List Str}(X:K.In s.heap)(c:XCls K C f)(hx:s.heap.get? x=some o)(hc:o.cls = .ref C)(hd:o.data = .fields vs)(hn:o.dict=some dx)(m:s.heap.Ns1 dx mA)(hw:Within mA ns)(hz:ns.length<=1000)
 (h:∀ h' tk,h'.Ns1 dx (λy=>if y=f then some v else mA y)->(∀ b u,b ≠ dx->s.heap.get? b=some u->h'.get? b=some u)->Q () { s with heap:=h',toks:=tk }) :
 wpAny (model prog w) A (setAttr (.ref x) f v) Q E s:=by
 refine z0m X c hx hc ?_
 obtain⟨⟨cd,c1,c2,c3,c4,c5⟩,sa,no⟩:=c
 obtain⟨hh,g,d,tk,os⟩:=s
 obtain⟨oc,od,dt,sl⟩:=o
 cases hc
 cases hd
 cases hn
 unfold storeInOwnDict ownDictForStores instanceDict
 refine wpAny_bind (wpAny_pure (wpAny_bind (wpAny_bind (wpAny_loadPart hx (wpAny_bind (ZT (s:=⟨hh,g,d,tk+1,os⟩) (YR X c1) ?_))))))
 rw[c2]
 refine wpAny_pure (a:=some dx) ?_
 show wpAny _ _ (storeInDict dx (.str f tk) f v) _ _ _
 unfold storeInDict newKeyGuard
 refine wpAny_bind (wpAny_pure (wpAny_bind (wpAny_nsSet1 m λh' m1 sb=>?_)))
 obtain⟨oD,eD,pD,hoD,hdD,hcD⟩:=m1.count (zG f v hw)
 refine wpAny_bind (wpAny_lookBehind hoD (by rw[hdD];exact pastItsLine_dict (Q2 hcD (by rw[Qy,sizeLine_eq];omega))) (wpAny_pure ?_))
 exact h h' _ m1 λb u nb hb=>(sb.2 b nb).trans hb
end
abbrev znt(C t:Addr)(dx:Option Addr):Obj:={ cls := .ref C,dict:=dx,data := .fields #[.ref t,.none,.none,.none,.bool false,.none] }
def XO(x C:Addr)(dx:Option Addr):HO := .ext λh=>∃ t:Addr,h.get? x=some (znt C t dx)
def MutX:Option HO->Prop
 | some (.ext _)=>True
 | some (.xd _)=>True
 | _=>False
section
variable {X : Cx} {pins : List (Addr × Obj)} {σ : St} {H H' : Hp} {s : Shared} {h' : Heap}
theorem Inv.chg{t':Nat}(I:Inv X pins σ H s)(S:Addr->Prop)(hS:∀ b,S b->(H b=none/\s.heap.objs.size<=b)\/MutX (H b))(k:∀ b u,¬ S b->s.heap.get? b=some u->h'.get? b=some u)(ex:∀ b,S b->∃ u,h'.get? b=some u)
 (ag:∀ b,¬ S b->H' b=H b) (new:∀ b o,S b->H' b=some o->ObjOk X.prog X.w H' h' b o):Inv X pins σ H' { s with heap:=h',toks:=t' }:=by
 have nS:∀ b u,H b=some u->¬ MutX (some u)->¬ S b:=λb u e n z=>by
  rcases hS b z with q|q
  ·rw[q.1] at e;cases e
  ·rw[e] at q;exact n q
 have nF:∀ b o,s.heap.get? b=some o->H b=none->¬ S b:=λb o g n z=>by
  rcases hS b z with q|q
  ·exact absurd (Qn g) (ZN.mpr q.2)
  ·rw[n] at q;exact q
 refine I.un ⟨λb o g n _ _=>k b o (nF b o g n) g,λb o g n _ _=>⟨o.slots,k b o (nF b o g n) g⟩,λb o g n _=>by rw[ag b (nF b o g n)];exact n,λb o g _=>?_,λb xs q=>?_,λb o u q=>?_,λb ps q=>?_⟩ λb o q=>?_
 ·by_cases z:S b
  ·exact ex b z
  ·exact⟨o,k b o z g⟩
 ·rw[ag b (nS b _ q λz=>z)];exact q
 ·rw[ag b (nS b _ q λz=>z)];exact q
 ·exact⟨#[],by rw[ag b (nS b _ q λz=>z),jb];exact q⟩
 ·by_cases z:S b
  ·exact new b o z q
  ·rw[ag b z] at q
   refine(I.hok b o q).stay (λc u hc g=>k c u ?_ g) (λc r=>?_) λc xs r=>?_
   ·rcases hc with rfl|hc
    ·exact z
    ·exact nS c _ hc λz=>z
   ·rw[ag c (nS c _ r λz=>z)];exact r
   ·rw[ag c (nS c _ r λz=>z)];exact r
theorem zz4{x C t:Addr}{dx:Option Addr}(e:h'.get? x=some (znt C t dx)):ObjOk X.prog X.w H' h' x (XO x C dx) :=
 ⟨⟨t,e⟩,⟨_,e⟩,λh1 h2 ⟨u,g⟩ k=>⟨u,k _ g⟩⟩
theorem XO.at{x C:Addr}{dx:Option Addr}(I:Inv X pins σ H s)(e:H x=some (XO x C dx)):∃ t:Addr,s.heap.get? x=some (znt C t dx):=(I.hok x _ e).1
def z0n(K:Qa)(f:Str)(v y:V)(H:Hp)(Q:Hp->Prop):Prop:=∃ x C,v = .ref x/\XCls K C f /\
 ((H x=some (XO x C none)/\∀ d,H d=none->d ≠ x->Q (upd (upd H d (.xd [(f,y)])) x (XO x C (some d)))) \/
  ∃ d fs,H x=some (XO x C (some d))/\H d=some (.xd fs)/\fs.length<1000/\Q (upd H d (.xd (putF f y fs))))
theorem zt2{A:Around}{E:Value->Shared->Prop}{f:Str}{v y:V}{u uv:Value}{Q:Unit->Shared->Prop}{Qh:Hp->Prop}(I:Inv X pins σ H s)(rv:RelV v uv)(ry:RelV y u)(h:z0n X.K f v y H Qh)
 (q:∀ s' H',Inv X pins σ H' s'->Qh H'->Q () s'):wpAny (model X.prog X.w) A (setAttr uv f u) Q E s:=by
 obtain⟨x,C,rfl,c,⟨hx,hq⟩|⟨d,fs,hx,hd,hl,hq⟩⟩:=h
 ·obtain rfl:uv=QC x:=rv
  obtain⟨t,g⟩:=XO.at I hx
  refine z7a I.kIn c g rfl rfl rfl λh' d tk g' m ed kp=>?_
  have nd:H d=none:=I.hok.fresh (Yu ed.symm)
  have dx:d ≠ x:=λw=>by rw[w,hx] at nd;cases nd
  refine q _ _ ?_ (hq d nd dx)
  refine Inv.chg I (λb=>b=x\/b=d) (λb hb=>?_) (λb u nb g=>kp b u (λz=>nb (.inl z)) g) (λb hb=>?_) (λb nb=>?_) λb o hb e=>?_
  ·rcases hb with rfl|rfl
   ·right;rw[hx];exact trivial
   ·left;exact⟨nd,Yu ed.symm⟩
  ·rcases hb with rfl|rfl
   ·exact⟨_,g'⟩
   ·obtain⟨o,_,_,e,_⟩:=m;exact⟨o,e⟩
  ·rw[zaf (λz=>nb (.inl z)),zaf (λz=>nb (.inr z))]
  ·rcases hb with rfl|rfl
   ·rw[zap] at e;cases e;exact zz4 g'
   ·rw[zaf dx,zap] at e
    cases e
    refine⟨_,m,λg=>?_⟩
    show RelO (Jl g [(f,y)]) (if g=f then some u else none)
    by_cases w:g=f
    ·subst w;rw[ZP,if_pos rfl];exact ry
    ·have hb:(g == f)=false:=beq_eq_false_iff_ne.mpr w
     rw[Je,hb,if_neg w]
     exact trivial
 ·obtain rfl:uv=QC x:=rv
  obtain⟨t,g⟩:=XO.at I hx
  obtain⟨mA,m,rl⟩:=I.hok d _ hd
  have wi:Within mA (fs.map (·.1)):=λg hg=>by
   have:=rl g
   cases l:fs.lookup g with
   | none=>rw[l] at this;cases w:mA g with
     | none=>exact absurd w hg
     | some _=>rw[w] at this;exact this.elim
   | some v=>exact Qz.mpr ⟨(g,v),Z6 l,rfl⟩
  refine z9n I.kIn c g rfl rfl rfl m wi (by rw[Qe];omega) λh' tk m' kp=>?_
  have dx:d ≠ x:=λw=>by rw[w,hx] at hd;cases hd
  refine q _ _ ?_ hq
  refine Inv.chg I (λb=>b=d) (λb hb=>?_) (λb u nb g=>kp b u nb g) (λb hb=>?_) (λb nb=>zaf nb) λb o hb e=>?_
  ·subst hb;right;rw[hd];exact trivial
  ·subst hb;obtain⟨o,_,_,e,_⟩:=m';exact⟨o,e⟩
  ·subst hb
   rw[zap] at e
   cases e
   refine⟨_,m',λg=>?_⟩
   show RelO ((putF f y fs).lookup g) (if g=f then some u else mA g)
   rw[zjj]
   by_cases w:g=f
   ·rw[if_pos w,if_pos w];exact ry
   ·rw[if_neg w,if_neg w];exact rl g
def yb8(K:Qa)(ta tv:TE)(f:Str):TS:=λD σ H=>tv σ H λy H1=>ta σ H1 λv H2=>z0n K f v y H2 λH3=>D.nx σ H3
theorem z5o{o value:Expr}{f:Str}{pos pos':Pos}{ta tv:TE}(ha:PE X o ta)(hv:PE X value tv)(hs:swapsWith value (some (.Attribute o f pos')) pos.line X.env=pure false):PS X (.Assign [.Attribute o f pos'] value pos) (yb8 X.K ta tv f):=by
 intro pins s σ H D I h
 refine plainObj_wpAny_Assign_Attribute (thn (hv pins s σ H _ I h) λu s1 ⟨y,H1,I1,ry,q⟩=>thn (ha pins s1 σ H1 _ I1 q) λov s2 ⟨x,H2,I2,rx,q2⟩=>?_) hs
 exact zt2 I2 rx ry q2 λs3 H3 I3 q3=>⟨σ,_,I3,q3⟩
end
def zg8(K:Qa)(ns:List Str):Sp:=λvs H Q _=>∃ x C ys,vs = .ref x::ys/\ys.length=ns.length/\(∀ n ∈ ns,XCls K C n)/\H x=some (XO x C none)/\∀ d,H d=none->d ≠ x->Q .non (upd (upd H d (.xd (ns.zip ys))) x (XO x C (some d)))
theorem zs1{K:Qa}{ns ps:List Str}(h:ps.length=ns.length+1):∀ vs H Q E,zg8 K ns vs H Q E->vs.length=ps.length:=λvs H Q E ⟨x,C,ys,e,l,_⟩=>by rw[e,Qy,l,h]
structure XMk (K:Qa) (C f:Addr) (ns:List Str):Prop where
 cls:∃ (nm q:Str) (N:Addr) (bs bm bmB:List Value) (sn:List Str) (sub:List Value) (ab:Bool) (col:Option Bool) (dd:Option Addr) (k0 k1 k2 k3 k5:Option Value) (B newId initId:String),
  K.lookup C=some (excClassObj nm q C N bs bm true sn sub ab col dd k0 k1 k2 k3 k5 newId)/\(∀ h:Heap,K.In h->OwnTail h bmB bm)/\ExcBaseFacts B newId initId bmB
 init:QS K (.ref C) "__init__" = some (some (.ref f))
 fn:Jn K (.ref f)=some (.type "function")
 kp:Z5 K (.ref C)=true
 fld:∀ n ∈ ns,XCls K C n
section
variable {X : Cx} {pins : List (Addr × Obj)} {σ : St} {H : Hp} {s : Shared} {k : Nat} {C f : Addr} {fd : FuncData} {ps ns : List Str} {us : List Value} {vs : List V} {Q : Value → Shared → Prop}
theorem zup(M:XMk X.K C f ns)(F:FnOk X.prog X.w X.K X.mg X.base CX0 k f fd ps (zg8 X.K ns))(hr:Room (k+1) X.A)(hb:Binds X.K fd ps [])(I:Inv X pins σ H s)(r:Vals vs us)(hl:vs.length=ns.length)(hz:ns.length<=1000)
 (h:∀ s' x d,Inv X pins σ (upd (upd H d (.xd (ns.zip vs))) x (XO x C (some d))) s'->s.heap.objs.size<=x->H x=none->H d=none->d ≠ x->Q (.ref x) s'):wpAny (model X.prog X.w) X.A (call (.ref C) us) Q X.xe s:=by
 obtain⟨nm,q,N,bs,bm,bmB,sn,sub,ab,col,dd,k0,k1,k2,k3,k5,B,newId,initId,hC,T,EB⟩:=M.cls
 have lu:us.length<=sizeLine:=by rw[<- r.length,hl,sizeLine_eq];omega
 have kp:∀ b o,s.heap.get? b=some o->((s.heap.push (zfq us)).push (zem C s.heap.objs.size)).get? b=some o:=λb o z=>Qb _ (Qb _ z)
 have gx:((s.heap.push (zfq us)).push (zem C s.heap.objs.size)).get? (s.heap.objs.size+1)=some (zem C s.heap.objs.size):=by heap_get
 have nx:H (s.heap.objs.size+1)=none:=I.hok.fresh (JP _)
 have I2:Inv X pins σ (upd H (s.heap.objs.size+1) (XO (s.heap.objs.size+1) C none)) { s with heap:=(s.heap.push (zfq us)).push (zem C s.heap.objs.size),toks:=s.toks } :=
  Inv.chg I (λb=>b=s.heap.objs.size+1) (λb hb => .inl (by subst hb;exact⟨nx,JP _⟩)) (λb u _ g=>kp b u g) (λb hb=>by subst hb;exact⟨_,gx⟩) (λb nb=>zaf nb) λb o hb e=>by
   subst hb
   rw[zap] at e
   cases e
   exact zz4 gx
 have r2:Vals (V.ref (s.heap.objs.size+1)::vs) (QC (s.heap.objs.size+1)::us) := .cons rfl r
 have sp:zg8 X.K ns (V.ref (s.heap.objs.size+1)::vs) (upd H (s.heap.objs.size+1) (XO (s.heap.objs.size+1) C none)) (λv H2=>v = .non/\∃ d,H d=none/\d ≠ s.heap.objs.size+1/\H2=upd (upd H d (.xd (ns.zip vs))) (s.heap.objs.size+1) (XO (s.heap.objs.size+1) C (some d))) E0 :=
  ⟨_,C,vs,rfl,hl,M.fld,zap,λd hd dx=>⟨rfl,d,by rw[zaf dx] at hd;exact hd,dx,by
   funext b
   unfold upd
   by_cases e1:b=s.heap.objs.size+1
   ·rw[if_pos e1,if_pos e1]
   ·rw[if_neg e1,if_neg e1,if_neg e1]⟩⟩
 have hl2:(QC (s.heap.objs.size+1)::us).length=ps.length:=by rw[<- r2.length];exact F.len _ _ _ _ sp
 refine wpAny_call (z8r I.kIn hC (T _ I.kIn) EB M.init M.fn lu (codeAny_mono (F.run _ X.stack _ _ ⟨QC (s.heap.objs.size+1)::us,[]⟩ (QC (s.heap.objs.size+1)::us) _ _ E0 (hr.make C us []) (I2.env0.make C us []) ?_ r2 sp) λr s' hq=>?_))
 ·have:=hb _ (QC (s.heap.objs.size+1)::us) I2.kIn (by rw[QU];exact hl2)
  rwa [QU] at this
 ·cases r with
  | error e=>exact hq.elim
  | ok fl =>
    cases fl with
    | ret u =>
      obtain⟨v,H',I3,rv,ev,d,hd,dx,e2⟩:=I2.after hq
      subst ev e2
      exact⟨rv,h s' _ d I3 (JP _) nx hd dx⟩
    | next=>exact hq.elim
    | brk=>exact hq.elim
    | cont=>exact hq.elim
def zk2(H:Hp)(x:Addr):Hp:=λb=>if b=x then none else H b
theorem zei{H:Hp}{x b:Addr}(h:b ≠ x):zk2 H x b=H b:=if_neg h
theorem zio{H:Hp}{x:Addr}:zk2 H x x=none:=if_pos rfl
theorem Inv.drop{x:Addr}(I:Inv X pins σ H s)(m:MutX (H x)):Inv X pins σ (zk2 H x) s:=by
 have ne:∀ b u,H b=some u->¬ MutX (some u)->b ≠ x:=λb u e n z=>by rw[<- z,e] at m;exact n m
 have dn:∀ b,H b=none->zk2 H x b=none:=λb e=>by
  by_cases z:b=x
  ·rw[z];exact zio
  ·rw[zei z];exact e
 refine⟨I.ok,I.os,I.bare,⟨I.base.keep,I.base.slot,λb o g n hx=>dn b (I.base.free b o g n hx),I.base.there,λb xs q=>?_,λb o u q=>?_,λb ps q=>?_⟩,I.loc,I.cell,dn _ I.free,λy c e=>dn _ (I.freeC y c e),λp hp=>?_,λb o q=>?_,I.len⟩
 ·have:=I.base.tups b xs q
  rw[zei (ne b _ this λz=>z)];exact this
 ·have:=I.base.frzs b o u q
  rw[zei (ne b _ this λz=>z)];exact this
 ·obtain⟨mo,this⟩:=I.base.tbls b ps q
  exact⟨mo,by rw[zei (ne b _ this λz=>z)];exact this⟩
 ·obtain⟨a1,a2,a3⟩:=I.pin p hp
  exact⟨a1,dn _ a2,a3⟩
 ·have nb:b ≠ x:=λz=>by rw[z,zio] at q;cases q
  rw[zei nb] at q
  refine(I.hok b o q).stay (λc u _ g=>g) (λc r=>?_) λc xs r=>?_
  ·rw[zei (ne c _ r λz=>z)];exact r
  ·rw[zei (ne c _ r λz=>z)];exact r
def ztr(C:Addr)(ns:List Str)(E:XK)(t:TA):TS:=λD σ H=>t σ H λvs H1=>vs.length=ns.length/\∀ d,H1 d=none->E (.ref C) (some d) (upd H1 d (.xd (ns.zip vs)))
section
variable {A : Around} {E : Value → Shared → Prop} {x C N : Addr} {M : Model} {env : Env} {ev : Sem Value}
variable {nm q : Str} {bs bm : List Value} {sn : List Str} {sub : List Value} {ab : Bool} {col : Option Bool} {dd : Option Addr} {k0 k1 k2 k3 k5 : Option Value} {newId : String}
theorem zyq{Q:Flow->Shared->Prop}(hm:bm.contains (.type "BaseException")=true)(hh:A.handled=none)
 (h:wpAny M A ev (λv s1=>∃ x t dx,v = .ref x/\s1.heap.get? C=some (excClassObj nm q C N bs bm true sn sub ab col dd k0 k1 k2 k3 k5 newId)/\s1.heap.get? x=some (znt C t dx)/\E (.ref x) s1) E s) :
 wpAny M A (raiseStmt env (some ev) none) Q E s:=by
 have cB:(QC C::bm).contains (.type "BaseException")=true:=by rw[qv,hm,Bool.or_true]
 unfold raiseStmt
 refine wpAny_bind (wpAny_mono h (λv s1 h1=>?_) λ_ _ z=>z)
 obtain⟨x,t,dx,rfl,gC,gx,z⟩:=h1
 obtain⟨h1,g1,d1,u1,o1⟩:=s1
 repeat (first|with_reducible refine wpAny_loadPart_at gx ?_|with_reducible refine wpAny_loadPart_at gC ?_|(with_reducible refine wpAny_isSubtype_exc gC ?_;rw[cB])|wp_step)
 exact wpAny_raiseNew_none hh z
end
theorem zyg{P:Program}{w:World}{E:XK}{x:Str}{e:Expr}{es:List Expr}{np cpos pos:Pos}{t:TA}(B:Bdy P w X E)(hc:X.calm=true)(M:XMk X.K C f ns)(F:FnOk X.prog X.w X.K X.mg X.base CX0 k f fd ps (zg8 X.K ns))(hr:Room (k+1) X.A)(hb:Binds X.K fd ps [])(hz:ns.length<=1000)
 (hg:Gl X x) (hm:X.mg x=some (.ref C)) (ha:PA X (e::es) t) (hdb:(x == ("__debug__" : Str))=false:=by decide) (he:starEach (e::es) X.env=(false,eval e X.env)::starEach es X.env:=by rfl) (hpl:(backTo cpos (starEach es X.env)).any (·.1)=false:=by rfl) :
 PS X (.Raise (some (.Call (.Name x np) (e::es) [] cpos)) none pos) (ztr C ns E t):=by
 intro pins s σ H D I h
 obtain⟨nm,q,N,bs,bm,bmB,sn,sub,ab,col,dd,k0,k1,k2,k3,k5,B1,newId,initId,hC,T,EB⟩:=id M.cls
 have hb2:bm.contains (.type "BaseException")=true:=(T _ I.kIn).hasType EB.hasBase
 rw[arm_exec_Raise]
 refine wpAny_bind (wpAny_standAt (zyq (C:=C) (nm:=nm) (q:=q) (N:=N) (bs:=bs) (sn:=sn) (sub:=sub) (ab:=ab) (col:=col) (dd:=dd) (k0:=k0) (k1:=k1) (k2:=k2) (k3:=k3) (k5:=k5) (newId:=newId) hb2 (I.ok.hd hc) ?_))
 refine wpAny_bind (wpAny_Call_Name_kw (zdg I hg hm ?_ hdb))
 refine Ym (h₀:=X.base) I.ok.mod.kin M.kp (thn (ha cpos pins s σ H _ I h) λus s1 ⟨vs,H1,I1,r,hl,hq⟩=>⟨I1.kIn,?_⟩) he hpl
 refine zup M F hr hb I1 r hl hz λs' x d I2 sx nx nd dx=>wpAny_bind (wpAny_standAt (wpAny_pure ?_))
 obtain⟨t,g⟩:=XO.at I2 zap
 refine⟨x,t,some d,rfl,I2.kIn _ _ hC,g,?_⟩
 have eH:zk2 (upd (upd H1 d (.xd (ns.zip vs))) x (XO x C (some d))) x=upd H1 d (.xd (ns.zip vs)):=by
  funext b
  by_cases z:b=x
  ·rw[z,zio,zaf (ZY dx),nx]
  ·rw[zei z,zaf z]
 have I3:=Inv.drop I2 (x:=x) (by rw[zap];exact trivial)
 rw[eH] at I3
 refine B.out I3 (T:=none) ⟨⟨_,_,g,rfl,rfl,rfl,QL (by decide:1<6) (Qt _),rfl⟩,λt z=>nomatch z⟩ (by rw[zaf (ZY dx)];exact nx) ?_ (λt z=>nomatch z) (hq d nd)
 exact Q2 I1.sz sx
end
section
variable {X : Cx} {pins : List (Addr × Obj)} {σ : St} {H : Hp} {s : Shared}
theorem zhm{M:Model}{A:Around}{E:Value->Shared->Prop}{i:Nat}{n:Str}{pos:Pos}{Q:Unit->Shared->Prop}(I:Inv X pins σ H s)(hN:X.N.Nodup)(hi:X.N[i]? = some n)(hk:X.env.scope.names.lookup n=some .local)
 (h:∀ s',Inv X pins (σ.set i none) H s'->Q () s'):wpAny M A (do bindName X.env n .none;unbindBehindTheSuite X.env n pos) Q E s:=by
 obtain⟨m,hn,hl⟩:=id I.loc
 obtain⟨oL,_,_,hoL,_⟩:=id hn
 have hcls:(X.env.scope.kind == .class || (X.env.scope.kind == .module && X.env.locals != X.env.globals))=false:=by rw[I.ok.kind];rfl
 refine wpAny_nameGoes_keeps hk hn hcls λh' v hn' hs=>h _ ?_
 have ne:∀ b o,X.s₀.heap.get? b=some o->b ≠ X.env.locals:=λb o e=>Q9 (QL (Qn e) I.ok.above)
 have ck:∀ y c,X.env.cells.lookup y=some c->∀ v,s.heap.IsCell c v->h'.IsCell c v:=λy c e v ⟨o,ho,hd⟩=>⟨o,(hs.2 c (I.cne y c e)).trans ho,hd⟩
 refine⟨I.ok,I.os,I.bare,⟨λb o e n hb hx=>(hs.2 b (ne b o e)).trans (I.base.keep b o e n hb hx),λb o e n hb hx=>?_,I.base.free,λb o e hx=>?_,I.base.tups,I.base.frzs,I.base.tbls⟩,⟨_,hn',λj y v' e1 e2 e3=>?_⟩,λy c e=>?_,I.free,I.freeC,λp hp=>?_,λb ob e=>?_,by rw[Zj];exact I.len⟩
 ·obtain⟨sl,e1⟩:=I.base.slot b o e n hb hx
  exact⟨sl,(hs.2 b (ne b o e)).trans e1⟩
 ·obtain⟨o',e1⟩:=I.base.there b o e hx
  exact⟨o',(hs.2 b (ne b o e)).trans e1⟩
 ·have hj:j ≠ i:=λz=>by
   subst z
   rw[List.getElem?_set] at e2
   split at e2
   ·split at e2 <;> cases e2
   ·rename_i w;exact absurd rfl w
  rw[QF (ZY hj)] at e2
  obtain⟨u,r,l⟩:=hl j y v' e1 e2 e3
  have yn:y ≠ n:=λz=>by
   subst z
   obtain⟨h1,g1⟩:=QE.mp e1
   obtain⟨h2,g2⟩:=QE.mp hi
   exact hj ((qO hN).mp (g1.trans g2.symm))
  refine⟨u,r,?_⟩
  rcases l with ⟨k,l⟩|⟨k,c,e,z⟩
  ·exact .inl ⟨k,(if_neg yn).trans l⟩
  ·exact .inr ⟨k,c,e,ck y c e _ z⟩
 ·obtain⟨v,z⟩:=I.cell y c e
  exact⟨v,ck y c e v z⟩
 ·obtain⟨e,n,nl,r⟩:=I.pin p hp
  exact⟨(hs.2 p.1 nl).trans e,n,nl,r⟩
 ·refine(I.hok b ob e).stay (λc w' hc q=>(hs.2 c ?_).trans q) (λ_ q=>q) λ_ _ q=>q
  rintro rfl
  rcases hc with rfl|hc
  ·rw[I.free] at e;cases e
  ·rw[I.free] at hc;cases hc
theorem zt0{M:Model}{A:Around}{E:Value->Shared->Prop}{K:Qa}{a C CL:Addr}{o:Obj}{b:Bool}{Q:Bool->Shared->Prop}(X:K.In s.heap)(ha:s.heap.get? a=some o)(hc:o.cls = .ref C)(ht:Jn K (.ref CL)=some (.type "type")){oc:Value}{od:Option Addr}{cd:ClassData}{sl:Array (Option Value)}(hl:K.lookup CL=some ⟨oc,od,.cls cd,sl⟩)
 (hm:Zk K C (.ref CL)=some b) (hb:Zk K CL (.type "BaseException")=some true) (q:Q b s):wpAny M A (excMatches (.ref a) (.ref CL)) Q E s:=by
 have ta:ZW M s.heap (typeOf (.ref a)) (.ref C):=by
  obtain⟨oc,od,dt,sl⟩:=o
  cases hc
  exact(Y9 ha).andThen .now
 have nt:ZW M s.heap (isInstance (.ref CL) (.type "tuple")) false:=(PySem.W.looks_typeIn X ht).andThen (PySem.W.Looks.of_pure tc_notTuple)
 have xb:=Yc (M:=M) X hb
 have sm:=Yc (M:=M) X hm
 unfold excMatches
 refine wpAny_bind (nt.here ?_)
 rw[if_neg Qc]
 refine wpAny_bind (wpAny_pure ?_)
 have xc:ZW M s.heap (isExcClass (.ref CL)) true:=by
  intro A1 Q1 E1 s1 k1 z1
  refine wpAny_bind (wpAny_bind (wpAny_loadPart (k1 _ _ (X _ _ hl)) (wpAny_pure ?_)))
  exact xb A1 Q1 E1 s1 k1 z1
 refine wpAny_bind ?_
 rw[Jc]
 refine wpAny_bind (wpAny_bind (xc.here ?_))
 rw[if_neg (by decide)]
 refine wpAny_pure ?_
 dsimp only
 rw[Jo]
 refine wpAny_pure (wpAny_bind (ta.here (wpAny_bind ?_)))
 rw[Jc]
 refine wpAny_bind (wpAny_bind (sm.here ?_))
 cases b with
 | true =>
   rw[if_pos rfl]
   exact wpAny_pure (wpAny_pure (wpAny_pure q))
 | false =>
   rw[if_neg Qc]
   refine wpAny_pure ?_
   dsimp only
   rw[Jo]
   exact wpAny_pure (wpAny_pure q)
end
def zi3(X:Cx)(a:Addr):Cx:={ X with A:=X.A.mark (some (.ref a)),calm:=false,xe:=λ_ _=>False }
section
variable {X : Cx} {pins : List (Addr × Obj)} {σ : St} {H : Hp} {s : Shared} {a : Addr}
theorem zob(I:Inv X pins σ H s)(a:Addr):Inv (zi3 X a) pins σ H s :=
 ⟨⟨I.ok.mod,I.ok.kind,I.ok.glob,I.ok.blt,I.ok.above,I.ok.inj,I.ok.has,I.ok.cab,(λz=>nomatch z),I.ok.frames,I.ok.stk,I.ok.exf,I.ok.bs,I.ok.bsz,I.ok.noex,I.ok.exfs,I.ok.funs,I.ok.frf⟩,I.os,I.bare,I.base,I.loc,I.cell,I.free,I.freeC,I.pin,I.hok,I.len⟩
theorem zfr(ok:X.Ok)(I:Inv (zi3 X a) pins σ H s):Inv X pins σ H s:=⟨ok,I.os,I.bare,I.base,I.loc,I.cell,I.free,I.freeC,I.pin,I.hok,I.len⟩
theorem Inv.track{o:HO}(I:Inv X pins σ H s)(n:H a=none)(sz:X.s₀.heap.objs.size<=a)(nl:a ≠ X.env.locals)(nc:∀ x c,X.env.cells.lookup x=some c->c ≠ a)(np:∀ p ∈ X.pn++pins,p.1 ≠ a)(new:ObjOk X.prog X.w (upd H a o) s.heap a o):Inv X pins σ (upd H a o) s:=by
 have ne:∀ b u,H b=some u->b ≠ a:=λb u e z=>by rw[z,n] at e;cases e
 have n0:∀ b o,X.s₀.heap.get? b=some o->b ≠ a:=λb o e z=>absurd (Qn e) (ZN.mpr (z ▸ sz))
 refine⟨I.ok,I.os,I.bare,⟨I.base.keep,I.base.slot,λb o g m hx=>by rw[zaf (n0 b o g)];exact I.base.free b o g m hx,I.base.there,λb xs q=>?_,λb o u q=>?_,λb ps q=>?_⟩,I.loc,I.cell,by rw[zaf (ZY nl)];exact I.free,λy c e=>by rw[zaf (nc y c e)];exact I.freeC y c e,λp hp=>?_,λb u q=>?_,I.len⟩
 ·have:=I.base.tups b xs q
  rw[zaf (ne b _ this)];exact this
 ·have:=I.base.frzs b o u q
  rw[zaf (ne b _ this)];exact this
 ·obtain⟨mo,this⟩:=I.base.tbls b ps q
  exact⟨mo,by rw[zaf (ne b _ this)];exact this⟩
 ·obtain⟨a1,a2,a3⟩:=I.pin p hp
  exact⟨a1,by rw[zaf (np p hp)];exact a2,a3⟩
 ·by_cases z:b=a
  ·subst z;rw[zap] at q;cases q;exact new
  ·rw[zaf z] at q
   exact(I.hok b u q).stay (λc u _ g=>g) (λc r=>by rw[zaf (ne c _ r)];exact r) λc xs r=>by rw[zaf (ne c _ r)];exact r
def XR(a C dx:Addr):HO := .ext λh=>∃ o vs,h.get? a=some o/\o.cls = .ref C/\o.dict=some dx/\o.data = .fields vs
def zfy(X:Cx)(pins:List (Addr × Obj))(σ:St)(E:XK):Prop:=∀ H s e s',Inv X pins σ H s->CX1 X.prog X.w X.stack H s E e s'->X.xe e s'
def PSsf(X:Cx)(pins:List (Addr × Obj))(σ:St)(ss:List Stmt)(t:TS):Prop:=∀ s H D,Inv X pins σ H s->t D σ H->wpAny (model X.prog X.w) X.A (execs ss X.env) (SP X pins D) X.xe s
def offE(i:Nat)(D:Ends):Ends:={ nx:=λσ2 H2=>D.nx (σ2.set i none) H2,rt:=D.rt,bk:=λσ2 H2=>D.bk (σ2.set i none) H2,ct:=λσ2 H2=>D.ct (σ2.set i none) H2 }
def zoa(K:Qa)(CL:Addr)(i:Nat)(ts:TS)(D:Ends)(σ:St):XK:=λCv dxo H'=>∃ C dx,Cv = .ref C/\dxo=some dx/\Zk K C (.ref CL)=some true/\∀ a,H' a=none->ts (offE i D) (σ.set i (some (.ref a))) (upd H' a (XR a C dx))
def zpq(K:Qa)(CL:Addr)(i:Nat)(tb:XK->TS)(ts:TS):TS:=λD σ H=>tb (zoa K CL i ts D σ) D σ H
structure CatchC (K:Qa) (CL:Addr):Prop where
 ty:Jn K (.ref CL)=some (.type "type")
 cls:∃ oc od cd sl,K.lookup CL=some ⟨oc,od,.cls cd,sl⟩
 base:Zk K CL (.type "BaseException")=some true
theorem zvm{body:List Stmt}{s0:Stmt}{suite:List Stmt}{cx n:Str}{np hpos pos:Pos}{CL:Addr}{i:Nat}{tb:XK->TS}{ts:TS}(hst:X.stack=X.env::X.outer)(hfr:X.env.frame=some X.env.locals)(hg:Gl X cx)(hm:X.mg cx=some (.ref CL))(cc:CatchC X.K CL)
 (hN:X.N.Nodup) (hi:X.N[i]? = some n) (hk:X.env.scope.names.lookup n=some .local)
 (hb:∀ pins σ E W,zfy (X.wish W) pins σ E->PSsf (X.wish W) pins σ body (tb E)) (hs:∀ a,PSs (zi3 X a) (s0::suite) ts) (hdb:(cx == ("__debug__" : Str))=false:=by decide) :
 PS X (.Try body [.ExceptHandler (some (.Name cx np)) (some n) (s0::suite) hpos] [] [] pos) (zpq X.K CL i tb ts):=by
 intro pins s σ H D I h
 refine wpAny_Try_except ?_
 refine wpAny_mono (hb pins σ (zoa X.K CL i ts D σ) (λe s1=>∃ H1 s0,Inv X pins σ H1 s0/\CX1 X.prog X.w X.stack H1 s0 (zoa X.K CL i ts D σ) e s1) (λH1 s0 e s' I0 q=>⟨H1,s0,I0.unwish,q⟩) s H D (I.wish _) h) (λf s1 z=>?_) λe s1 z=>?_
 ·have z':=SP.unwish z
  cases f with
  | next=>exact wpAny_execs_nil z'
  | brk=>exact z'
  | cont=>exact z'
  | ret u=>exact z'
 ·obtain⟨H1,s0',I0,a,C,dx,T,H',rfl,os,bare,un,hok,F,na,fa,hT,C',dx',e1,e2,mr,hq⟩:=z
  cases e1
  cases e2
  have I1:Inv X pins σ H' s1:=I0.call' os un hok bare (λb z=>absurd z (by simp))
  have fr0:X.A.frames=some (X.env::X.outer):=by rw[I.ok.frames,hst]
  have st0:s1.heap.FunFrames X.base (X.env::X.outer):=by have:=I1.stack;rwa [hst] at this
  have fresh:∀ b,s0'.heap.objs.size<=b->(b ∈ X.ex\/X.s₀.heap.objs.size<=b)/\b ≠ X.env.locals/\(∀ x c,X.env.cells.lookup x=some c->c ≠ b)/\∀ p ∈ X.pn++pins,p.1 ≠ b:=λb hb=>by
   refine⟨.inr (Q2 I0.sz hb),λz=>?_,λx c e z=>?_,λp hp z=>?_⟩
   ·exact absurd I0.lt (ZN.mpr (z ▸ hb))
   ·obtain⟨v,o,ho,_⟩:=I0.cell x c e
    exact absurd (Qn ho) (ZN.mpr (z ▸ hb))
   ·exact absurd (Qn (I0.pin p hp).1) (ZN.mpr (z ▸ hb))
  have bT:∀ t,T=some t->X.base.get? t=none:=λt z=>by
   cases g:X.base.get? t with
   | none=>rfl
   | some o=>exact absurd (Qn (I0.bk t o g)) (ZN.mpr (hT t z).2)
  refine zpk fr0 st0 hfr bT F λh2 t2 F2 nt2 W2 fr2=>?_
  have frn:∀ b ∈ frs (X.env::X.outer),H' b=none:=by have:=I1.stkFree;rwa [hst] at this
  have hok2:=W2.hok I1.hok na (λt z=>(hT t z).1) frn
  have I2:Inv X pins σ H' { s1 with heap:=h2 }:=by
   refine I1.call (g':=s1.gens) (d':=s1.drawn) (t':=s1.toks) (ch:=a::T.toList) (by rw[hst];exact W2.un) hok2 I1.bare λb hb=>?_
   rcases Ql.mp hb with rfl|hb
   ·exact fresh b fa
   ·cases T with
    | none=>cases hb
    | some t=>rw[Qu.mp hb];exact fresh t (hT t rfl).2
  obtain⟨oc,od,cd,sl,hl⟩:=cc.cls
  obtain⟨oe,vs,ge,ce,xe,de,ze,_⟩:=F2.obj
  have I2m:=zob I2 a
  refine wpAny_handleBy_cons (codeAny_handlers_test (zdg (X:=zi3 X a) I2m hg hm (zt0 (K:=X.K) I2.kIn ge ce cc.ty hl mr cc.base ?_) hdb)) (λz=>nomatch z)
  show codeAny _ _ _ _ _
  refine codeAny_handlers_suite_as (zy0 F2 λh3 F3 k3=>?_)
  obtain⟨oe3,vs3,ge3,ce3,xe3,de3,ze3,_⟩:=F3.obj
  have n2:H' t2=none:=I1.hok.fresh nt2
  have fresh1:∀ b,s1.heap.objs.size<=b->(b ∈ X.ex\/X.s₀.heap.objs.size<=b)/\b ≠ X.env.locals/\(∀ x c,X.env.cells.lookup x=some c->c ≠ b)/\∀ p ∈ X.pn++pins,p.1 ≠ b:=λb hb=>by
   refine⟨.inr (Q2 I1.sz hb),λz=>?_,λx c e z=>?_,λp hp z=>?_⟩
   ·exact absurd I1.lt (ZN.mpr (z ▸ hb))
   ·obtain⟨v,o,ho,_⟩:=I1.cell x c e
    exact absurd (Qn ho) (ZN.mpr (z ▸ hb))
   ·exact absurd (Qn (I1.pin p hp).1) (ZN.mpr (z ▸ hb))
  have I3:Inv X pins σ H' { s1 with heap:=h3 }:=by
   refine Inv.call (s:={ s1 with heap:=h2 }) (h':=h3) (H':=H') I2 (g':=s1.gens) (d':=s1.drawn) (t':=s1.toks) (ch := [t2]) ⟨λb o g m _ hx=>k3 b o (λz=>hx (by rw[z];exact Qu.mpr rfl)) g,λb o g m _ hx=>⟨o.slots,k3 b o (λz=>hx (by rw[z];exact Qu.mpr rfl)) g⟩,λb o g m _=>m,λb o g hx=>⟨o,k3 b o (λz=>hx (by rw[z];exact Qu.mpr rfl)) g⟩,λ_ _ q=>q,λ_ _ _ q=>q,λb ps q=>⟨#[],by rw[jb];exact q⟩⟩ (λb o q=>(I2.hok b o q).stay (λc u hc g=>k3 c u (λz=>?_) g) (λ_ z=>z) λ_ _ z=>z) I2.bare λb hb=>by rw[Qu.mp hb];exact fresh1 t2 nt2
   rcases hc with rfl|hc
   ·rw[z,n2] at q;cases q
   ·rw[z,n2] at hc;cases hc
  obtain⟨x1,x2,x3,x4⟩:=fresh a fa
  have I4:Inv X pins σ (upd H' a (XR a C dx)) { s1 with heap:=h3 }:=Inv.track I3 na (Q2 I0.sz fa) x2 x3 x4 ⟨⟨oe3,vs3,ge3,ce3,xe3,de3⟩,⟨_,ge3⟩,λg1 g2 ⟨o,vs,z1,z2⟩ k=>⟨o,vs,k _ z1,z2⟩⟩
  refine zgd (X:=zi3 X a) (v := .ref a) (zob I4 a) hN hi (.inl hk) rfl (λs4 I5=>?_) (.inr hk)
  refine wpAny_mono (hs a pins s4 _ _ (offE i D) I5 (hq a na)) (λf s5 z=>?_) λ_ _ z=>z.elim
  show wpAny _ _ _ _ _ _
  cases f with
  | next=>obtain⟨σ2,H2,J,q⟩:=z;exact zhm (zfr I.ok J) hN hi hk λs6 J6=>⟨_,H2,J6,q⟩
  | brk=>obtain⟨σ2,H2,J,q⟩:=z;exact zhm (zfr I.ok J) hN hi hk λs6 J6=>⟨_,H2,J6,q⟩
  | cont=>obtain⟨σ2,H2,J,q⟩:=z;exact zhm (zfr I.ok J) hN hi hk λs6 J6=>⟨_,H2,J6,q⟩
  | ret u=>obtain⟨v,σ2,H2,J,r,q⟩:=z;exact zhm (zfr I.ok J) hN hi hk λs6 J6=>⟨v,_,H2,J6,r,q⟩
end
mutual
inductive Is (K:Qa) (F:Addr->Prop) (H:Hp):V->PyData->Prop
 | none:Is K F H .non .none
 | bool (b):Is K F H (.bl b) (.bool b)
 | int (i):Is K F H (.int i) (.int i)
 | str (x):Is K F H (.str x) (.str x)
 | list {a xs ds}:F a->H a=some (.lst xs)->IsAll K F H xs ds->Is K F H (.ref a) (.list ds)
 | tuple {a xs ds}:SqT K H a xs->IsAll K F H xs ds->Is K F H (.ref a) (.tuple ds)
inductive IsAll (K:Qa) (F:Addr->Prop) (H:Hp):List V->List PyData->Prop
 | nil:IsAll K F H [] []
 | cons {v vs d ds}:Is K F H v d->IsAll K F H vs ds->IsAll K F H (v::vs) (d::ds)
end
section
variable {K : Qa} {F F' : Addr → Prop} {H H' : Hp}
mutual
theorem Is.to(hL:∀ a xs,F a->H a=some (.lst xs)->F' a/\H' a=some (.lst xs))(hT:∀ a xs,SqT K H a xs->SqT K H' a xs):∀ {v d},Is K F H v d->Is K F' H' v d
 | _,_,.none => .none
 | _,_,.bool b => .bool b
 | _,_,.int i => .int i
 | _,_,.str x => .str x
 | _,_,.list f q r => .list (hL _ _ f q).1 (hL _ _ f q).2 (IsAll.to hL hT r)
 | _,_,.tuple q r => .tuple (hT _ _ q) (IsAll.to hL hT r)
theorem IsAll.to(hL:∀ a xs,F a->H a=some (.lst xs)->F' a/\H' a=some (.lst xs))(hT:∀ a xs,SqT K H a xs->SqT K H' a xs):∀ {vs ds},IsAll K F H vs ds->IsAll K F' H' vs ds
 | _,_,.nil => .nil
 | _,_,.cons r t => .cons (Is.to hL hT r) (IsAll.to hL hT t)
end
theorem IsAll.length:∀ {vs ds},IsAll K F H vs ds->vs.length=ds.length
 | _,_,.nil=>rfl
 | _,_,.cons _ t=>by rw[Qy,Qy,IsAll.length t]
theorem IsAll.get:∀ {vs ds} {i:Nat} {d},IsAll K F H vs ds->ds[i]? = some d->∃ v,vs[i]? = some v/\Is K F H v d
 | _,_,_,_,.nil,e=>by simp at e
 | _,_,0,_,.cons r _,e=>by simp at e;subst e;exact⟨_,rfl,r⟩
 | _,_,i+1,d,.cons _ t,e=>by
   obtain⟨v,h1,h2⟩:=IsAll.get (i:=i) (d:=d) t (by simpa using e)
   exact⟨v,by simpa using h1,h2⟩
theorem IsAll.append:∀ {vs ds ws es},IsAll K F H vs ds->IsAll K F H ws es->IsAll K F H (vs++ws) (ds++es)
 | _,_,_,_,.nil,s=>s
 | _,_,_,_,.cons r t,s => .cons r (IsAll.append t s)
theorem IsAll.snoc{vs ds v d}(h:IsAll K F H vs ds)(r:Is K F H v d):IsAll K F H (vs ++ [v]) (ds ++ [d]):=h.append (.cons r .nil)
theorem IsAll.take:∀ {vs ds} (n:Nat),IsAll K F H vs ds->IsAll K F H (vs.take n) (ds.take n)
 | _,_,0,_ => .nil
 | _,_,_+1,.nil => .nil
 | _,_,n+1,.cons r t => .cons r (IsAll.take n t)
theorem IsAll.drop:∀ {vs ds} (n:Nat),IsAll K F H vs ds->IsAll K F H (vs.drop n) (ds.drop n)
 | _,_,0,r=>r
 | _,_,_+1,.nil => .nil
 | _,_,n+1,.cons _ t=>IsAll.drop n t
end
def SameB(M:Addr->Prop)(H H':Hp):Prop:=∀ a o,H a=some o->¬ M a->H' a=some o
theorem SameB.refl(M:Addr->Prop)(H:Hp):SameB M H H:=λ_ _ h _=>h
theorem SameB.trans{M:Addr->Prop}{H H1 H2:Hp}(a:SameB M H H1)(b:SameB M H1 H2):SameB M H H2:=λc o h n=>b c o (a c o h n) n
theorem SameB.of{M:Addr->Prop}{H H':Hp}(s:Same H H'):SameB M H H':=λa o h _=>s a o h
theorem SameB.free{M:Addr->Prop}{H H':Hp}(e:SameB M H H'){l:Addr}(hm:¬ M l)(h:H' l=Zw):H l=Zw:=by
 cases q:H l with
 | none=>rfl
 | some o=>rw[e l o q hm] at h;cases h
def TupStay(H H':Hp):Prop:=∀ a u,(∃ xs,u=HO.tup xs\/∃ o,u=HO.frz o (.tup xs))->H a=some u->H' a=some u
theorem SqT.stay{K:Qa}{H H':Hp}{a:Addr}{xs:List V}(e:TupStay H H')(h:SqT K H a xs):SqT K H' a xs:=by
 rcases h with (h|⟨o,h⟩)|h
 ·exact .inl (.inl (e _ _ ⟨xs,.inl rfl⟩ h))
 ·exact .inl (.inr ⟨o,e _ _ ⟨xs,.inr ⟨o,rfl⟩⟩ h⟩)
 ·exact .inr h
structure Ob where
 M:Addr->Prop
 P:Hp->Prop
 v:V
structure Ob.Ok (O:Ob):Prop where
 loc:∀ H H',(∀ a,O.M a->H' a=H a)->O.P H->O.P H'
 mutb:∀ H a o,O.P H->H a=some o->O.M a->(∀ xs,o ≠ .tup xs)/\∀ q u,o ≠ .frz q u
 here:∀ H a,O.P H->O.M a->∃ o,H a=some o
theorem Ob.Ok.grow{O:Ob}(ok:O.Ok)(H H':Hp)(s:Same H H')(p:O.P H):O.P H':=ok.loc H H' (λa m=>by
 obtain⟨o,e⟩:=ok.here H a p m
 rw[e,s a o e]) p
def Ob.plus(O:Ob)(D:Addr)(u:HO):Ob:=⟨λa=>O.M a\/a=D,λH=>O.P H/\H D=some u,O.v⟩
theorem Ob.Ok.plus{O:Ob}(ok:O.Ok)(D:Addr)(xs:List V):(O.plus D (.lst xs)).Ok :=
 ⟨λH H' e p=>⟨ok.loc H H' (λa m=>e a (.inl m)) p.1,(e D (.inr rfl)).trans p.2⟩,
  λH a o p e m=>by
   rcases m with m|rfl
   ·exact ok.mutb H a o p.1 e m
   ·rw[p.2] at e;cases e;exact⟨λ_ h=>(by cases h),λ_ _ h=>(by cases h)⟩,
  λH a p m=>by
   rcases m with m|rfl
   ·exact ok.here H a p.1 m
   ·exact⟨_,p.2⟩⟩
structure Stp (O:Ob) (H H':Hp):Prop where
 s:SameB O.M H H'
 p:O.P H->O.P H'
 t:TupStay H H'
theorem Stp.refl(O:Ob)(H:Hp):Stp O H H:=⟨.refl _ _,λh=>h,λ_ _ _ h=>h⟩
theorem Stp.trans{O:Ob}{H H1 H2:Hp}(a:Stp O H H1)(b:Stp O H1 H2):Stp O H H2:=⟨a.s.trans b.s,λh=>b.p (a.p h),λc u hu h=>b.t c u hu (a.t c u hu h)⟩
theorem Stp.same{O:Ob}(ok:O.Ok){H H':Hp}(s:Same H H'):Stp O H H':=⟨.of s,ok.grow H H' s,λa u _ h=>s a u h⟩
theorem zox{H:Hp}{p:Addr}(h:H p=none)(o:HO):Same H (upd H p o):=λb u q=>by rw[zaf (zc9 q h)];exact q
theorem Stp.new{O:Ob}(ok:O.Ok){H:Hp}{p:Addr}(h:H p=none)(o:HO):Stp O H (upd H p o) := .same ok (zox h o)
section
variable {K : Qa} {O : Ob} {F F' : Addr → Prop} {H H' : Hp} {v : V} {d : PyData}
theorem Is.stp(s:Stp O H H')(hF:∀ a,F a->F' a)(hM:∀ a,F a->¬ O.M a)(h:Is K F H v d):Is K F' H' v d :=
 h.to (λa xs f q=>⟨hF a f,s.s a _ q (hM a f)⟩) λa xs q=>SqT.stay (h:=q) s.t
theorem IsAll.stp{vs:List V}{ds:List PyData}(s:Stp O H H')(hF:∀ a,F a->F' a)(hM:∀ a,F a->¬ O.M a)(h:IsAll K F H vs ds):IsAll K F' H' vs ds :=
 h.to (λa xs f q=>⟨hF a f,s.s a _ q (hM a f)⟩) λa xs q=>SqT.stay (h:=q) s.t
theorem Is.weak(h:Is K F H v d)(hF:∀ a,F a->F' a):Is K F' H v d:=h.to (λa xs f q=>⟨hF a f,q⟩) λa xs q=>q
theorem IsAll.weak{vs:List V}{ds:List PyData}(h:IsAll K F H vs ds)(hF:∀ a,F a->F' a):IsAll K F' H vs ds:=h.to (λa xs f q=>⟨hF a f,q⟩) λa xs q=>q
end
mutual
def flat:PyData->Bool
 | .none=>true
 | .bool _=>true
 | .int _=>true
 | .str _=>true
 | .tuple ds=>flats ds
 | _=>false
def flats:List PyData->Bool
 | []=>true
 | d::ds=>flat d && flats ds
end
theorem flats_iff:∀ {ds:List PyData},flats ds=true↔∀ d ∈ ds,flat d=true
 | []=>by simp[flats]
 | d::ds=>by rw[flats,Qp,flats_iff];simp
mutual
theorem Is.flat{K:Qa}{F F':Addr->Prop}{H H':Hp}(t:TupStay H H'):∀ {v d},Is K F H v d->L3.flat d=true->Is K F' H' v d
 | _,_,.none,_ => .none
 | _,_,.bool b,_ => .bool b
 | _,_,.int i,_ => .int i
 | _,_,.str x,_ => .str x
 | _,_,.list _ _ _,h=>by simp[L3.flat] at h
 | _,_,.tuple q r,h => .tuple (SqT.stay t q) (IsAll.flats t r (by simpa[L3.flat] using h))
theorem IsAll.flats{K:Qa}{F F':Addr->Prop}{H H':Hp}(t:TupStay H H'):∀ {vs ds},IsAll K F H vs ds->L3.flats ds=true->IsAll K F' H' vs ds
 | _,_,.nil,_ => .nil
 | _,_,.cons r s,h=>by
   rw[L3.flats,Qp] at h
   exact .cons (Is.flat t r h.1) (IsAll.flats t s h.2)
end
theorem TupStay.refl(H:Hp):TupStay H H:=λ_ _ _ h=>h
section
variable {X : Cx} {pins : List (Addr × Obj)} {σ : St} {H : Hp} {s : Shared} {F : Addr → Prop}
mutual
theorem Is.reads(I:Inv X pins σ H s):∀ {v d} {u:Value},Is X.K F H v d->RelV v u->∃ as,Reads s.heap u d as
 | _,_,_,.none,r=>by cases r;exact⟨_,.none⟩
 | _,_,_,.bool b,r=>by cases r;exact⟨_,.bool b⟩
 | _,_,_,.int i,r=>by obtain⟨t,rfl⟩:=r;exact⟨_,.int i t⟩
 | _,_,_,.str x,r=>by obtain⟨t,rfl⟩:=r;exact⟨_,.str x t⟩
 | _,_,_,.list f q rs,r=>by
   cases r
   obtain⟨its,rv,⟨o,n,e,c,_,dt⟩,_⟩:=I.list (.of q)
   obtain⟨as,ra⟩:=IsAll.reads I rs rv
   exact⟨_,.list e c dt (by simpa using ra)⟩
 | _,_,_,.tuple q rs,r=>by
   cases r
   obtain⟨its,rv,⟨o,e,c,n,dt⟩,_⟩:=I.tuple q
   obtain⟨as,ra⟩:=IsAll.reads I rs rv
   exact⟨_,.tuple e c dt (by simpa using ra)⟩
theorem IsAll.reads(I:Inv X pins σ H s):∀ {vs ds} {us:List Value},IsAll X.K F H vs ds->Vals vs us->∃ as,ReadsAll s.heap us ds as
 | _,_,_,.nil,r=>by cases r;exact⟨_,.nil⟩
 | _,_,_,.cons h t,r=>by
   cases r with
   | cons r1 r2 =>
     obtain⟨as,ra⟩:=Is.reads I h r1
     obtain⟨bs,rb⟩:=IsAll.reads I t r2
     exact⟨_,.cons ra rb⟩
end
end
def IsS(K:Qa)(F:Addr->Prop)(H:Hp)(v:V)(n:Nat):Prop:=∃ a xs,v = .ref a/\xs.length=n/\((F a/\Rd H a (.lst xs))\/∀ H',SqL K H' a xs)
theorem IsS.to{K:Qa}{F F':Addr->Prop}{H H':Hp}{v:V}{n:Nat}(hL:∀ a u,F a->H a=some u->F' a/\H' a=some u)(h:IsS K F H v n):IsS K F' H' v n:=by
 obtain⟨a,xs,e,l,⟨f,q|⟨o,q⟩⟩|q⟩:=h
 ·exact⟨a,xs,e,l,.inl ⟨(hL a _ f q).1,.inl (hL a _ f q).2⟩⟩
 ·exact⟨a,xs,e,l,.inl ⟨(hL a _ f q).1,.inr ⟨o,(hL a _ f q).2⟩⟩⟩
 ·exact⟨a,xs,e,l,.inr q⟩
def DkAt(H:Hp)(v:V)(a:Addr)(ks:List Str):Prop:=v = .ref a/\∃ kvs,H a=some (.dK kvs)/\kvs.map (·.1)=ks.map Yi
theorem DkAt.to{H H':Hp}{v:V}{a:Addr}{ks:List Str}(h:DkAt H v a ks)(e:∀ u,H a=some u->H' a=some u):DkAt H' v a ks:=let ⟨h1,kvs,h2,h3⟩:=h; ⟨h1,kvs,e _ h2,h3⟩
inductive R where
 | o (d:PyData)
 | n (ds:List PyData)
def R.d:R->PyData
 | .o d=>d
 | .n ds => .list ds
structure Thg where
 R:Qa->(Addr->Prop)->(Addr->Prop)->Hp->V->Prop
 to:∀ {K:Qa} {F F' W W':Addr->Prop} {H H':Hp} {v:V},(∀ a u,F a->H a=some u->F' a/\H' a=some u)->(∀ a u,W a->H a=some u->W' a/\H' a=some u)->TupStay H H'->R K F W H v->R K F' W' H' v
inductive DV where
 | im (d:PyData)
 | own (ds:List PyData)
 | ob
 | scr (n:Nat)
 | dct (ks:List Str)
   | gen (f:Addr->List V->HO) (ds:List PyData)
   | rd (f:Addr->List V->HO) (ds:List PyData)
   | exc (C:Addr) (ns:List Str) (ds:List PyData)
   | thg (T:Thg)
   | thr (T:Thg)
abbrev DSt:=List (Option DV)
abbrev DE:=DSt->(R->Prop)->Prop
abbrev DT:=DSt->(Bool->Prop)->Prop
abbrev DA:=DSt->(List PyData->Prop)->Prop
def unM(O:Ob):Addr->Prop:=λa=>¬ O.M a
def ExAt(F:Addr->Prop)(H:Hp)(v:V)(C:Addr)(ns:List Str)(xs:List V):Prop:=∃ a dx,v = .ref a/\F a/\F dx/\H a=some (XR a C dx)/\H dx=some (.xd (ns.zip xs))/\xs.length=ns.length
theorem ExAt.to{F F':Addr->Prop}{H H':Hp}{v:V}{C:Addr}{ns:List Str}{xs:List V}(hL:∀ a u,F a->H a=some u->F' a/\H' a=some u)(h:ExAt F H v C ns xs):ExAt F' H' v C ns xs:=by
 obtain⟨a,dx,e,f1,f2,q1,q2,l⟩:=h
 exact⟨a,dx,e,(hL a _ f1 q1).1,(hL dx _ f2 q2).1,(hL a _ f1 q1).2,(hL dx _ f2 q2).2,l⟩
def SeenV(K:Qa)(O:Ob)(H:Hp)(v:V):DV->Prop
 | .im d=>Is K (unM O) H v d
 | .own ds=>Is K (unM O) H v (.list ds)
 | .ob=>v=O.v
 | .scr n=>IsS K (unM O) H v n
 | .dct ks=>∃ a,¬ O.M a/\DkAt H v a ks
 | .gen f ds=>∃ a xs,v = .ref a/\¬ O.M a/\H a=some (f a xs)/\IsAll K (unM O) H xs ds
 | .rd f ds=>∃ a xs,v = .ref a/\¬ O.M a/\H a=some (f a xs)/\IsAll K (unM O) H xs ds
 | .exc C ns ds=>∃ xs,ExAt (unM O) H v C ns xs/\IsAll K (unM O) H xs ds
 | .thg T=>∃ W:Addr->Prop,(∀ a,W a->¬ O.M a/\∃ o,H a=some o)/\T.R K (unM O) W H v
 | .thr T=>∃ W:Addr->Prop,(∀ a,W a->¬ O.M a/\∃ o,H a=some o)/\T.R K (unM O) W H v
structure Seen (K:Qa) (O:Ob) (H:Hp) (σ:St) (ρ:DSt):Prop where
 ok:O.Ok
 p:O.P H
 at_:∀ (i:Nat) r,ρ[i]? = some (some r)->∃ v,σ[i]? = some (some v)/\SeenV K O H v r
 len:ρ.length=σ.length
theorem SeenV.stp{K:Qa}{O:Ob}{H H':Hp}{v:V}{r:DV}(s:Stp O H H')(h:SeenV K O H v r):SeenV K O H' v r:=by
 cases r with
 | im d=>exact Is.stp s (λ_ f=>f) (λ_ f=>f) h
 | own ds=>exact Is.stp s (λ_ f=>f) (λ_ f=>f) h
 | ob=>exact h
 | scr n=>exact IsS.to (λa u f q=>⟨f,s.s a u q f⟩) h
 | dct ks=>obtain⟨a,n,h⟩:=h;exact⟨a,n,h.to λu q=>s.s a u q n⟩
 | gen f ds=>obtain⟨a,xs,e,n,q,z⟩:=h;exact⟨a,xs,e,n,s.s a _ q n,IsAll.stp s (λ_ f=>f) (λ_ f=>f) z⟩
 | rd f ds=>obtain⟨a,xs,e,n,q,z⟩:=h;exact⟨a,xs,e,n,s.s a _ q n,IsAll.stp s (λ_ f=>f) (λ_ f=>f) z⟩
 | exc C ns ds=>obtain⟨xs,e,z⟩:=h;exact⟨xs,e.to λa u f q=>⟨f,s.s a u q f⟩,IsAll.stp s (λ_ f=>f) (λ_ f=>f) z⟩
 | thg T=>obtain⟨W,hw,z⟩:=h;exact⟨W,λa w=>⟨(hw a w).1,let ⟨o,e⟩:=(hw a w).2; ⟨o,s.s a o e (hw a w).1⟩⟩,T.to (λa u f q=>⟨f,s.s a u q f⟩) (λa u w q=>⟨w,s.s a u q (hw a w).1⟩) s.t z⟩
 | thr T=>obtain⟨W,hw,z⟩:=h;exact⟨W,λa w=>⟨(hw a w).1,let ⟨o,e⟩:=(hw a w).2; ⟨o,s.s a o e (hw a w).1⟩⟩,T.to (λa u f q=>⟨f,s.s a u q f⟩) (λa u w q=>⟨w,s.s a u q (hw a w).1⟩) s.t z⟩
theorem Seen.stp{K:Qa}{O:Ob}{H H':Hp}{σ:St}{ρ:DSt}(S:Seen K O H σ ρ)(s:Stp O H H'):Seen K O H' σ ρ :=
 ⟨S.ok,s.p S.p,λi r e=>let ⟨v,h1,h2⟩:=S.at_ i r e; ⟨v,h1,h2.stp s⟩,S.len⟩
def Out(K:Qa)(O:Ob)(H H':Hp)(v:V):R->Prop
 | .o d=>Is K (unM O) H' v d
 | .n ds=>∃ a xs,v = .ref a/\H a=none/\H' a=some (.lst xs)/\IsAll K (unM O) H' xs ds
theorem Out.is{K:Qa}{O:Ob}{H H':Hp}{v:V}{r:R}(ok:O.Ok)(p:O.P H)(h:Out K O H H' v r):Is K (unM O) H' v r.d:=by
 cases r with
 | o d=>exact h
 | n ds =>
   obtain⟨a,xs,rfl,hn,e,q⟩:=h
   exact .list (λm=>by obtain⟨o,z⟩:=ok.here H a p m;rw[hn] at z;cases z) e q
def ED(K:Qa)(O:Ob)(t:TE)(f:DE):Prop :=
 ∀ (σ:St) (H:Hp) (ρ:DSt) (Q:VK) (Qd:R->Prop),Seen K O H σ ρ->f ρ Qd->(∀ v H' r,Stp O H H'->Out K O H H' v r->Qd r->Q v H')->t σ H Q
def TD(K:Qa)(O:Ob)(t:TT)(f:DT):Prop :=
 ∀ (σ:St) (H:Hp) (ρ:DSt) (Q:Bool->Hp->Prop) (Qd:Bool->Prop),Seen K O H σ ρ->f ρ Qd->(∀ b H',Stp O H H'->Qd b->Q b H')->t σ H Q
def AD(K:Qa)(O:Ob)(t:TA)(f:DA):Prop :=
 ∀ (σ:St) (H:Hp) (ρ:DSt) (Q:List V->Hp->Prop) (Qd:List PyData->Prop),Seen K O H σ ρ->f ρ Qd->(∀ vs H' ds,Stp O H H'->IsAll K (unM O) H' vs ds->Qd ds->Q vs H')->t σ H Q
section
variable {K : Qa} {O : Ob}
def cD(d:PyData):DE:=λ_ Q=>Q (.o d)
theorem z7x{i:Int}:ED K O (tC (.int i)) (cD (.int i)):=λσ H ρ Q Qd S h k=>k _ H (.o (.int i)) (.refl _ _) (Is.int i) h
theorem z9m{x:Str}:ED K O (tC (.str x)) (cD (.str x)):=λσ H ρ Q Qd S h k=>k _ H (.o (.str x)) (.refl _ _) (Is.str x) h
theorem ybf{b:Bool}:ED K O (tC (.bl b)) (cD (.bool b)):=λσ H ρ Q Qd S h k=>k _ H (.o (.bool b)) (.refl _ _) (Is.bool b) h
theorem z9s:ED K O (tC .non) (cD .none):=λσ H ρ Q Qd S h k=>k _ H (.o .none) (.refl _ _) Is.none h
def seeR:DV->Option PyData
 | .im d=>some d
 | .own ds=>some (.list ds)
 | .ob=>none
 | .scr _=>none
 | .dct _=>none
 | .gen _ _=>none
 | .rd _ _=>none
 | .exc _ _ _=>none
 | .thg _=>none
 | .thr _=>none
def vD(i:Nat):DE:=λρ Q=>∃ r d,ρ[i]? = some (some r)/\seeR r=some d/\Q (.o d)
theorem z8n{i:Nat}:ED K O (tVar i) (vD i):=λσ H ρ Q Qd S h k=>by
 obtain⟨r,d,e,e2,h⟩:=h
 obtain⟨v,hv,sv⟩:=S.at_ i r e
 refine⟨v,hv,k _ H _ (.refl _ _) ?_ h⟩
 cases r with
 | im d'=>cases e2;exact sv
 | own ds=>cases e2;exact sv
 | ob=>cases e2
 | scr n=>cases e2
 | dct ks=>cases e2
 | gen f ds=>cases e2
 | rd f ds=>cases e2
 | exc C ns ds=>cases e2
 | thg T=>cases e2
 | thr T=>cases e2
def OpD(K:Qa)(O:Ob)(r:R2)(f:PyData->PyData->(R->Prop)->Prop):Prop :=
 ∀ (H:Hp) (x y:V) (d e:PyData) (Q:VK) (Qd:R->Prop),O.Ok->O.P H->Is K (unM O) H x d->Is K (unM O) H y e->f d e Qd->(∀ v H' r,Stp O H H'->Out K O H H' v r->Qd r->Q v H')->r x y H Q
theorem Out.stp{H H1 H2:Hp}{v:V}{r:R}(ok:O.Ok)(p:O.P H)(s1:Stp O H H1)(s2:Stp O H1 H2)(h:Out K O H H1 v r):Out K O H H2 v r:=by
 cases r with
 | o d=>exact Is.stp s2 (λ_ f=>f) (λ_ f=>f) h
 | n ds =>
   obtain⟨a,xs,rfl,hn,e,q⟩:=h
   have m:¬ O.M a:=λm=>by obtain⟨o,z⟩:=ok.here H a p m;rw[hn] at z;cases z
   exact⟨a,xs,rfl,hn,s2.s a _ e m,q.stp s2 (λ_ f=>f) (λ_ f=>f)⟩
theorem Out.ahead{H H1 H2:Hp}{v:V}{r:R}(ok:O.Ok)(p:O.P H)(s1:Stp O H H1)(h:Out K O H1 H2 v r):Out K O H H2 v r:=by
 cases r with
 | o d=>exact h
 | n ds =>
   obtain⟨a,xs,rfl,hn,e,q⟩:=h
   have m:¬ O.M a:=λm=>by obtain⟨o,z⟩:=ok.here H1 a (s1.p p) m;rw[hn] at z;cases z
   exact⟨a,xs,rfl,s1.s.free m hn,e,q⟩
def opDE(f:PyData->PyData->(R->Prop)->Prop)(fa fb:DE):DE:=λρ Q=>fa ρ λa=>fb ρ λb=>f a.d b.d Q
theorem znq{r:R2}{ta tb:TE}{f:PyData->PyData->(R->Prop)->Prop}{fa fb:DE}(hr:OpD K O r f)(ha:ED K O ta fa)(hb:ED K O tb fb):ED K O (tOp r ta tb) (opDE f fa fb):=λσ H ρ Q Qd S h k=>by
 refine ha σ H ρ _ _ S h λv H1 a s1 o1 h1=>?_
 refine hb σ H1 ρ _ _ (S.stp s1) h1 λw H2 b s2 o2 h2=>?_
 have p1:=s1.p S.p
 refine hr H2 v w a.d b.d _ _ S.ok (s2.p p1) (Is.stp s2 (λ_ f=>f) (λ_ f=>f) (o1.is S.ok S.p)) (o2.is S.ok p1) h2 λz H3 c s3 o3 h3=>?_
 exact k z H3 c ((s1.trans s2).trans s3) (Out.ahead S.ok S.p (s1.trans s2) o3) h3
def fn2(F:PyData->PyData->Option R):PyData->PyData->(R->Prop)->Prop:=λa b Q=>∃ r,F a b=some r/\Q r
def bD(f:DE):DT:=λρ Q=>f ρ λr=>∃ b,r.d = .bool b/\Q b
theorem z7c{t:TE}{f:DE}(h:ED K O t f):TD K O (zix t) (bD f):=λσ H ρ Q Qd S hf k=>by
 refine h σ H ρ _ _ S hf λv H1 r s1 o1 ⟨b,e,q⟩=>?_
 have i:=o1.is S.ok S.p
 rw[e] at i
 cases i
 exact⟨b,rfl,k b H1 s1 q⟩
theorem z6e{t:TE}{f:DE}(h:ED K O t f):TD K O (tB t) (bD f):=λσ H ρ Q Qd S hf k=>by
 refine h σ H ρ _ _ S hf λv H1 r s1 o1 ⟨b,e,q⟩=>?_
 have i:=o1.is S.ok S.p
 rw[e] at i
 cases i
 exact⟨b,rfl,k b H1 s1 q⟩
def andT(f g:DT):DT:=λρ Q=>f ρ λb=>if b=true then g ρ Q else Q false
def orT(f g:DT):DT:=λρ Q=>f ρ λb=>if b=true then Q true else g ρ Q
def notT(f:DT):DT:=λρ Q=>f ρ λb=>Q (!b)
theorem yac{t u:TT}{f g:DT}(h:TD K O t f)(h':TD K O u g):TD K O (tAnd t u) (andT f g):=λσ H ρ Q Qd S hf k=>by
 refine h σ H ρ _ _ S hf λb H1 s1 q=>?_
 cases b with
 | true=>exact h' σ H1 ρ _ _ (S.stp s1) q λc H2 s2 q2=>k c H2 (s1.trans s2) q2
 | false=>exact k false H1 s1 q
theorem yb4{t u:TT}{f g:DT}(h:TD K O t f)(h':TD K O u g):TD K O (tOr t u) (orT f g):=λσ H ρ Q Qd S hf k=>by
 refine h σ H ρ _ _ S hf λb H1 s1 q=>?_
 cases b with
 | false=>exact h' σ H1 ρ _ _ (S.stp s1) q λc H2 s2 q2=>k c H2 (s1.trans s2) q2
 | true=>exact k true H1 s1 q
theorem yam{t:TT}{f:DT}(h:TD K O t f):TD K O (tNot t) (notT f):=λσ H ρ Q Qd S hf k=>h σ H ρ _ _ S hf λb H1 s1 q=>k (!b) H1 s1 q
def andV(f g:DE):DE:=λρ Q=>f ρ λr=>∃ b,r.d = .bool b/\if b=true then g ρ Q else Q (.o (.bool false))
def orV(f g:DE):DE:=λρ Q=>f ρ λr=>∃ b,r.d = .bool b/\if b=true then Q (.o (.bool true)) else g ρ Q
theorem z5e{t u:TE}{f g:DE}(h:ED K O t f)(h':ED K O u g):ED K O (z0h t u) (andV f g):=λσ H ρ Q Qd S hf k=>by
 refine h σ H ρ _ _ S hf λv H1 r s1 o1 ⟨b,e,q⟩=>?_
 have i:=o1.is S.ok S.p
 rw[e] at i
 cases i
 refine⟨b,rfl,?_⟩
 cases b with
 | true=>exact h' σ H1 ρ _ _ (S.stp s1) q λc H2 r s2 o2 q2=>k c H2 r (s1.trans s2) (o2.ahead S.ok S.p s1) q2
 | false=>exact k (.bl false) H1 (.o (.bool false)) s1 (.bool false) q
theorem z7v{t u:TE}{f g:DE}(h:ED K O t f)(h':ED K O u g):ED K O (tOrV t u) (orV f g):=λσ H ρ Q Qd S hf k=>by
 refine h σ H ρ _ _ S hf λv H1 r s1 o1 ⟨b,e,q⟩=>?_
 have i:=o1.is S.ok S.p
 rw[e] at i
 cases i
 refine⟨b,rfl,?_⟩
 cases b with
 | false=>exact h' σ H1 ρ _ _ (S.stp s1) q λc H2 r s2 o2 q2=>k c H2 r (s1.trans s2) (o2.ahead S.ok S.p s1) q2
 | true=>exact k (.bl true) H1 (.o (.bool true)) s1 (.bool true) q
def ifD(c:DT)(f g:DE):DE:=λρ Q=>c ρ λb=>if b=true then f ρ Q else g ρ Q
theorem yb3{c:TT}{t u:TE}{fc:DT}{f g:DE}(hc:TD K O c fc)(h:ED K O t f)(h':ED K O u g):ED K O (tIf c t u) (ifD fc f g):=λσ H ρ Q Qd S hf k=>by
 refine hc σ H ρ _ _ S hf λb H1 s1 q=>?_
 cases b with
 | true=>exact h σ H1 ρ _ _ (S.stp s1) q λv H2 r s2 o2 q2=>k v H2 r (s1.trans s2) (o2.ahead S.ok S.p s1) q2
 | false=>exact h' σ H1 ρ _ _ (S.stp s1) q λv H2 r s2 o2 q2=>k v H2 r (s1.trans s2) (o2.ahead S.ok S.p s1) q2
def aNil:DA:=λ_ Q=>Q []
def ze9(f:DE)(g:DA):DA:=λρ Q=>f ρ λr=>g ρ λds=>Q (r.d::ds)
theorem zti:AD K O tNil aNil:=λσ H ρ Q Qd S h k=>k [] H [] (.refl _ _) .nil h
theorem z5t{t:TE}{u:TA}{f:DE}{g:DA}(h:ED K O t f)(h':AD K O u g):AD K O (zbb t u) (ze9 f g):=λσ H ρ Q Qd S hf k=>by
 refine h σ H ρ _ _ S hf λv H1 r s1 o1 q=>?_
 refine h' σ H1 ρ _ _ (S.stp s1) q λvs H2 ds s2 o2 q2=>?_
 exact k (v::vs) H2 (r.d::ds) (s1.trans s2) (.cons (Is.stp s2 (λ_ f=>f) (λ_ f=>f) (o1.is S.ok S.p)) o2) q2
def tupD(g:DA):DE:=λρ Q=>g ρ λds=>ds.length<=sizeLine/\Q (.o (.tuple ds))
def lstD(g:DA):DE:=λρ Q=>g ρ λds=>ds.length<=sizeLine/\Q (.n ds)
theorem ya4{u:TA}{g:DA}(h:AD K O u g):ED K O (tTup u) (tupD g):=λσ H ρ Q Qd S hf k=>by
 refine h σ H ρ _ _ S hf λvs H1 ds s1 o1 ⟨z,q⟩=>⟨by rw[o1.length];exact z,λp hp=>?_⟩
 have s2:Stp O H1 (upd H1 p (.tup vs)) := .new S.ok hp _
 exact k _ _ (.o (.tuple ds)) (s1.trans s2) (.tuple (.of zap) (o1.stp s2 (λ_ f=>f) (λ_ f=>f))) q
theorem z6q{u:TA}{g:DA}(h:AD K O u g):ED K O (tLst u) (lstD g):=λσ H ρ Q Qd S hf k=>by
 refine h σ H ρ _ _ S hf λvs H1 ds s1 o1 ⟨z,q⟩=>⟨by rw[o1.length];exact z,λp hp=>?_⟩
 have s2:Stp O H1 (upd H1 p (.lst vs)) := .new S.ok hp _
 have m:¬ O.M p:=λm=>by obtain⟨o,z⟩:=S.ok.here H1 p (s1.p S.p) m;rw[hp] at z;cases z
 exact k _ _ (.n ds) (s1.trans s2) ⟨p,vs,rfl,s1.s.free m hp,zap,o1.stp s2 (λ_ f=>f) (λ_ f=>f)⟩ q
def zes(K:Qa)(O:Ob)(r:List V->Hp->VK->Prop)(f:List PyData->(R->Prop)->Prop):Prop :=
 ∀ (H:Hp) (vs:List V) (ds:List PyData) (Q:VK) (Qd:R->Prop),O.Ok->O.P H->IsAll K (unM O) H vs ds->f ds Qd->(∀ v H' r,Stp O H H'->Out K O H H' v r->Qd r->Q v H')->r vs H Q
def zci(f:List PyData->(R->Prop)->Prop)(g:DA):DE:=λρ Q=>g ρ λds=>f ds Q
theorem zpv{r:List V->Hp->VK->Prop}{u:TA}{f:List PyData->(R->Prop)->Prop}{g:DA}(hr:zes K O r f)(h:AD K O u g):ED K O (tCB r u) (zci f g):=λσ H ρ Q Qd S hf k=>by
 refine h σ H ρ _ _ S hf λvs H1 ds s1 o1 q=>?_
 exact hr H1 vs ds _ _ S.ok (s1.p S.p) o1 q λv H2 r s2 o2 q2=>k v H2 r (s1.trans s2) (o2.ahead S.ok S.p s1) q2
def fn1(F:List PyData->Option R):List PyData->(R->Prop)->Prop:=λds Q=>∃ r,F ds=some r/\Q r
end
abbrev DG:=PyData->DSt->(DSt->Prop)->Prop
def gN(i:Nat):DG:=λd ρ Q=>Q (ρ.set i (some (.im d)))
def gTD:List Nat->List PyData->DSt->(DSt->Prop)->Prop
 | [],[],ρ,Q=>Q ρ
 | i::is,d::ds,ρ,Q=>gTD is ds (ρ.set i (some (.im d))) Q
 | _,_,_,_=>False
def gT(is:List Nat):DG:=λd ρ Q=>∃ ds,d = .tuple ds/\gTD is ds ρ Q
def GS(K:Qa)(O:Ob)(t:TG)(g:DG):Prop :=
 ∀ (σ:St) (H:Hp) (ρ:DSt) (v:V) (d:PyData) (Q:St->Hp->Prop) (Qd:DSt->Prop),Seen K O H σ ρ->Is K (unM O) H v d->g d ρ Qd->(∀ σ' ρ',Seen K O H σ' ρ'->Qd ρ'->Q σ' H)->t v σ H Q
section
variable {K : Qa} {O : Ob}
theorem Seen.set{H:Hp}{σ:St}{ρ:DSt}{i:Nat}{v:V}{r:DV}(S:Seen K O H σ ρ)(h:SeenV K O H v r):Seen K O H (σ.set i (some v)) (ρ.set i (some r)):=by
 have hl:=S.len
 refine⟨S.ok,S.p,λj r' e=>?_,by rw[Zj,Zj];exact S.len⟩
 by_cases hj:i=j
 ·subst hj
  have hi:i<ρ.length:=by
   rcases Yv i ρ.length with z|z
   ·exact z
   ·rw[QZ (by simpa using z)] at e;cases e
  rw[QG hi] at e
  cases e
  exact⟨v,QG (by omega),h⟩
 ·rw[QF hj] at e
  obtain⟨w,h1,h2⟩:=S.at_ j r' e
  exact⟨w,by rw[QF hj];exact h1,h2⟩
theorem z4o{i:Nat}:GS K O (zbs i) (gN i):=λσ H ρ v d Q Qd S i h k=>k _ _ (S.set (r := .im d) i) h
def GSs(K:Qa)(O:Ob)(t:TGs)(is:List Nat):Prop :=
 ∀ (σ:St) (H:Hp) (ρ:DSt) (vs:List V) (ds:List PyData) (Q:St->Hp->Prop) (Qd:DSt->Prop),Seen K O H σ ρ->IsAll K (unM O) H vs ds->gTD is ds ρ Qd->(∀ σ' ρ',Seen K O H σ' ρ'->Qd ρ'->Q σ' H)->t vs σ H Q
theorem z2t:GSs K O gNil []:=λσ H ρ vs ds Q Qd S i h k=>by
 cases i with
 | nil=>exact⟨rfl,k σ ρ S h⟩
 | cons _ _=>exact h.elim
theorem zx5{i:Nat}{is:List Nat}{t:TGs}(ht:GSs K O t is):GSs K O (zkk (zbs i) t) (i::is):=λσ H ρ vs ds Q Qd S h q k=>by
 cases h with
 | nil=>exact q.elim
 | cons h1 h2=>exact⟨_,_,rfl,ht _ H _ _ _ _ _ (S.set (r := .im _) h1) h2 q k⟩
theorem zl1:∀ {is:List Nat} {ds:List PyData} {ρ:DSt} {Q:DSt->Prop},gTD is ds ρ Q->ds.length=is.length
 | [],[],_,_,_=>rfl
 | [],_::_,_,_,h=>h.elim
 | _::_,[],_,_,h=>h.elim
 | _::is,_::ds,ρ,Q,h=>by
   have e:=zl1 (is:=is) (ds:=ds) (Q:=Q) h
   rw[Qy,Qy,e]
theorem z6y{is:List Nat}{t:TGs}{n:Nat}(hn:is.length=n)(ht:GSs K O t is):GS K O (gTup K n t) (gT is):=λσ H ρ v d Q Qd S i h k=>by
 obtain⟨ds,rfl,h⟩:=h
 cases i with
 | tuple q r=>exact⟨_,_,rfl,q,by rw[r.length,zl1 h];exact hn,ht σ H ρ _ ds Q Qd S r h k⟩
structure Walk (K:Qa) (O:Ob) (H H1:Hp) (J:It) (ds:List PyData) (B:Addr->Prop):Prop where
 st:Stp O H H1
 hb:∀ a,B a->¬ O.M a/\∃ o,H1 a=some o
 stop:∀ H2 i,(∀ a o,B a->H1 a=some o->H2 a=some o)->TupStay H1 H2->ds.length<=i->J.stop i H2
 item:∀ H2 i d,(∀ a o,B a->H1 a=some o->H2 a=some o)->TupStay H1 H2->ds[i]? = some d->(flat d=true\/∀ a o,H1 a=some o->¬ O.M a->H2 a=some o) ->
  J.go i H2/\∀ x H3,J.yld i H2 x H3->Same H2 H3/\Is K (λa=>¬ O.M a/\(flat d=true\/∃ o,H1 a=some o)) H3 x d
abbrev DI:=DSt->(Bool->List PyData->Prop)->Prop
def SrcS(K:Qa)(O:Ob)(wi:TI)(f:DI):Prop :=
 ∀ (σ:St) (H:Hp) (ρ:DSt) (R:It->Hp->Prop) (Qd:Bool->List PyData->Prop),Seen K O H σ ρ->f ρ Qd ->
   (∀ (J:It) (H1:Hp) (ds:List PyData) (B:Addr->Prop) (fr:Bool),Walk K O H H1 J ds B->(fr=true->∀ a,B a->H a=none)->Qd fr ds->R J H1)->wi σ H R
end
def zbt(h:Nat)(g:DG)(ft:DT)(fe:DE)(ρ:DSt)(Q:List PyData->Prop):List PyData->List PyData->Prop
 | [],acc=>Q acc
 | d::ds,acc=>g d (Qm h none++ρ) λρ2=>ft ρ2 λb=>if b=true then fe ρ2 λr=>acc.length<sizeLine/\zbt h g ft fe ρ Q ds (acc ++ [r.d]) else zbt h g ft fe ρ Q ds acc
def zsr(h:Nat)(f:DI)(g:DG)(ft:DT)(fe:DE):DE:=λρ Q=>f ρ λ_ ds=>zbt h g ft fe ρ (λes=>Q (.n es)) ds []
section
variable {K : Qa} {O : Ob}
theorem zxw{H:Hp}{σ:St}{ρ:DSt}(S:Seen K O H σ ρ)(h:Nat):Seen K O H (Qm h none++σ) (Qm h none++ρ):=by
 refine⟨S.ok,S.p,λi r e=>?_,by rw[Qf,Qf,Zv,Zv,S.len]⟩
 by_cases hi:i<h
 ·rw[Zp (by simpa using hi),ZD,if_pos hi] at e
  cases e
 ·rw[ZF (by simpa using j9 hi),Zv] at e
  obtain⟨v,h1,h2⟩:=S.at_ _ r e
  exact⟨v,by rw[ZF (by simpa using j9 hi),Zv];exact h1,h2⟩
theorem zur{H:Hp}{σ:St}{ρ:DSt}{D:Addr}{xs:List V}(S:Seen K O H σ ρ)(hD:H D=none):Seen K (O.plus D (.lst xs)) (upd H D (.lst xs)) σ ρ:=by
 have gr:Same H (upd H D (.lst xs)):=zox hD _
 refine⟨S.ok.plus D xs,⟨S.ok.grow _ _ gr S.p,zap⟩,λi r e=>?_,S.len⟩
 obtain⟨v,h1,h2⟩:=S.at_ i r e
 have go:∀ d,Is K (unM O) H v d->Is K (unM (O.plus D (.lst xs))) (upd H D (.lst xs)) v d:=λd z =>
  z.to (λa ys f q=>⟨λm=>(by
   rcases m with m|rfl
   ·exact f m
   ·rw[hD] at q;cases q),gr _ _ q⟩) λa ys q=>SqT.stay (h:=q) λb u _ hb=>gr b u hb
 refine⟨v,h1,?_⟩
 cases r with
 | im d=>exact go d h2
 | own ds=>exact go _ h2
 | ob=>exact h2
 | scr n=>exact IsS.to (λa u f q=>⟨λm=>(by
  rcases m with m|rfl
  ·exact f m
  ·rw[hD] at q;cases q),gr _ _ q⟩) h2
 | dct ks =>
   obtain⟨a,n,h2⟩:=h2
   refine⟨a,λm=>?_,h2.to λu q=>gr _ _ q⟩
   rcases m with m|rfl
   ·exact n m
   ·obtain⟨_,kvs,q,_⟩:=h2
    rw[hD] at q
    cases q
 | gen f ds =>
   obtain⟨a,ys,e,n,q,z⟩:=h2
   refine⟨a,ys,e,λm=>?_,gr _ _ q,z.to (λa ys f q=>⟨λm=>(by
    rcases m with m|rfl
    ·exact f m
    ·rw[hD] at q;cases q),gr _ _ q⟩) λa ys q=>SqT.stay (h:=q) λb u _ hb=>gr b u hb⟩
   rcases m with m|rfl
   ·exact n m
   ·rw[hD] at q;cases q
 | rd f ds =>
   obtain⟨a,ys,e,n,q,z⟩:=h2
   refine⟨a,ys,e,λm=>?_,gr _ _ q,z.to (λa ys f q=>⟨λm=>(by
    rcases m with m|rfl
    ·exact f m
    ·rw[hD] at q;cases q),gr _ _ q⟩) λa ys q=>SqT.stay (h:=q) λb u _ hb=>gr b u hb⟩
   rcases m with m|rfl
   ·exact n m
   ·rw[hD] at q;cases q
 | exc C ns ds =>
   obtain⟨ys,e,z⟩:=h2
   have mv:∀ a u,unM O a->H a=some u->unM (O.plus D (.lst xs)) a/\upd H D (.lst xs) a=some u:=λa u f q=>⟨λm=>(by
    rcases m with m|rfl
    ·exact f m
    ·rw[hD] at q;cases q),gr _ _ q⟩
   exact⟨ys,e.to mv,z.to (λa ys f q=>mv a _ f q) λa ys q=>SqT.stay (h:=q) λb u _ hb=>gr b u hb⟩
 | thg T =>
   obtain⟨W,hw,z⟩:=h2
   exact⟨W,λa w=>⟨λm=>(by
    obtain⟨n,o,q⟩:=hw a w
    rcases m with m|rfl
    ·exact n m
    ·rw[hD] at q;cases q),let ⟨o,q⟩:=(hw a w).2; ⟨o,gr _ _ q⟩⟩,T.to (λa u f q=>⟨λm=>(by
    rcases m with m|rfl
    ·exact f m
    ·rw[hD] at q;cases q),gr _ _ q⟩) (λa u w q=>⟨w,gr _ _ q⟩) (λb u _ hb=>gr b u hb) z⟩
 | thr T =>
   obtain⟨W,hw,z⟩:=h2
   exact⟨W,λa w=>⟨λm=>(by
    obtain⟨n,o,q⟩:=hw a w
    rcases m with m|rfl
    ·exact n m
    ·rw[hD] at q;cases q),let ⟨o,q⟩:=(hw a w).2; ⟨o,gr _ _ q⟩⟩,T.to (λa u f q=>⟨λm=>(by
    rcases m with m|rfl
    ·exact f m
    ·rw[hD] at q;cases q),gr _ _ q⟩) (λa u w q=>⟨w,gr _ _ q⟩) (λb u _ hb=>gr b u hb) z⟩
theorem zqe{h:Nat}{wi:TI}{tg:TG}{tf:TT}{te:TE}{f:DI}{g:DG}{ft:DT}{fe:DE}(hs:SrcS K O wi f)(hg:∀ O':Ob,GS K O' tg g)
 (hf:∀ (D:Addr) (xs:List V),¬ O.M D->TD K (O.plus D (.lst xs)) tf ft) (he:∀ (D:Addr) (xs:List V),¬ O.M D->ED K (O.plus D (.lst xs)) te fe):ED K O (zsm h wi tg tf te) (zsr h f g ft fe):=by
 intro σ H ρ Q Qd S hq k
 refine hs σ H ρ _ _ S hq λJ H1 ds B fr W _ hgo D hD=>?_
 have S1:=S.stp W.st
 have nM:¬ O.M D:=λm=>by obtain⟨o,z⟩:=S.ok.here H1 D S1.p m;rw[hD] at z;cases z
 have aD:∀ a o,H1 a=some o->a ≠ D:=λa o e z=>by rw[z,hD] at e;cases e
 refine⟨λi m ys H2=>m=ds.length - i/\i<=ds.length/\H2 D=some (.lst ys)/\(∀ a o,H1 a=some o->¬ O.M a->H2 a=some o)/\TupStay H1 H2/\Seen K (O.plus D (.lst ys)) H2 σ ρ /\
  ∃ acc,IsAll K (λa=>¬ (O.M a\/a=D)) H2 ys acc/\zbt h g ft fe ρ (λes=>Qd (.n es)) (ds.drop i) acc,⟨ds.length,rfl,QO _,zap,λa o e _=>by rw[zaf (aD a o e)];exact e,λa u _ e=>by rw[zaf (aD a u e)];exact e,zur S1 hD,[],.nil,by simpa using hgo⟩,?_⟩
 rintro i m ys H2 ⟨rfl,hi,hDy,kp,tst,S2,acc,hacc,go⟩
 refine⟨hDy,?_⟩
 have kB:∀ a o,B a->H1 a=some o->H2 a=some o:=λa o b e=>kp a o e (W.hb a b).1
 by_cases hlt:i<ds.length
 ·right
  have hd:ds[i]? = some ds[i]:=Qk hlt
  rw[Jd hlt] at go
  obtain⟨hgo1,hy⟩:=W.item H2 i ds[i] kB tst hd (.inr kp)
  refine⟨hgo1,λx H3 y=>?_⟩
  obtain⟨sm,ix⟩:=hy x H3 y
  have st3:Stp (O.plus D (.lst ys)) H2 H3 := .same S2.ok sm
  have S3:=S2.stp st3
  have ix':Is K (unM (O.plus D (.lst ys))) H3 x ds[i]:=by
   by_cases hfl:flat ds[i]=true
   ·exact Is.flat (TupStay.refl H3) ix hfl
   ·exact ix.weak λa ha mm=>by
     rcases mm with mm|mm
     ·exact ha.1 mm
     ·rcases ha.2 with z|⟨o,z⟩
      ·exact hfl z
      ·exact aD a o z mm
  refine hg _ _ H3 _ x ds[i] _ _ (zxw S3 h) ix' go λσ2 ρ2 Sg q=>?_
  refine hf D ys nM σ2 H3 ρ2 _ _ Sg q λb H4 st4 q4=>?_
  have st34:=st3.trans st4
  have acc4:∀ {H':Hp},Stp (O.plus D (.lst ys)) H2 H'->IsAll K (λa=>¬ (O.M a\/a=D)) H' ys acc:=λst=>hacc.stp st (λ_ z=>z) (λ_ z=>z)
  cases b with
  | false =>
    refine⟨ds.length - (i+1),by omega,rfl,hlt,st34.s D _ hDy |> λz=>(st34.p S2.p).2,λa o e n=>?_,λa u hu e=>st34.t a u hu (tst a u hu e),S2.stp st34,acc,acc4 st34,q4⟩
    exact st34.s a o (kp a o e n) λmm=>by
     rcases mm with mm|mm
     ·exact n mm
     ·exact aD a o e mm
  | true =>
    refine he D ys nM σ2 H4 ρ2 _ _ (Sg.stp st4) q4 λyv H5 r st5 o5 ⟨hz,q5⟩=>?_
    have st25:=st34.trans st5
    have S5:=S2.stp st25
    have hD5:H5 D=some (.lst ys):=(st25.p S2.p).2
    have iy:=o5.is (Sg.stp st4).ok (Sg.stp st4).p
    have a5:=acc4 st25
    refine⟨hD5,by rw[hacc.length];exact hz,ds.length - (i+1),by omega,rfl,hlt,zap,λa o e n=>?_,λa u hu e=>?_,?_,acc ++ [r.d],?_,q5⟩
    ·rw[zaf (aD a o e)]
     exact st25.s a o (kp a o e n) λmm=>by
      rcases mm with mm|mm
      ·exact n mm
      ·exact aD a o e mm
    ·rw[zaf (aD a u e)]
     exact st25.t a u hu (tst a u hu e)
    ·have p5:O.P (upd H5 D (.lst (ys ++ [yv]))):=S.ok.loc H5 _ (λa m=>zaf λz=>nM (z ▸ m)) S5.p.1
     refine⟨S.ok.plus D _,⟨p5,zap⟩,λj r' e=>?_,S5.len⟩
     obtain⟨v',h1,h2⟩:=S5.at_ j r' e
     have go:∀ d,Is K (unM (O.plus D (.lst ys))) H5 v' d->Is K (unM (O.plus D (.lst (ys ++ [yv])))) (upd H5 D (.lst (ys ++ [yv]))) v' d:=λd z =>
      z.to (λa xs fa qa=>⟨fa,by rw[zaf λz=>fa (.inr z)];exact qa⟩) λa xs qa=>SqT.stay (h:=qa) λb u hu hb=>by
       rw[zaf λz=>?_]
       ·exact hb
       ·obtain⟨us,e1|⟨o',e1⟩⟩:=hu <;> (rw[z,hD5] at hb;cases hb;cases e1)
     refine⟨v',h1,?_⟩
     cases r' with
     | im d=>exact go d h2
     | own es=>exact go _ h2
     | ob=>exact h2
     | scr n=>exact IsS.to (λa u fa qa=>⟨fa,by rw[zaf λz=>fa (.inr z)];exact qa⟩) h2
     | dct ks=>obtain⟨a,fa,h2⟩:=h2;exact⟨a,fa,h2.to λu qa=>by rw[zaf λz=>fa (.inr z)];exact qa⟩
     | gen f ds =>
       obtain⟨a,xs,e,fa,q,z⟩:=h2
       refine⟨a,xs,e,fa,by rw[zaf λz=>fa (.inr z)];exact q,z.to (λa xs fa qa=>⟨fa,by rw[zaf λz=>fa (.inr z)];exact qa⟩) λa xs qa=>SqT.stay (h:=qa) λb u hu hb=>?_⟩
       rw[zaf λz=>?_]
       ·exact hb
       ·obtain⟨us,e1|⟨o',e1⟩⟩:=hu <;> (rw[z,hD5] at hb;cases hb;cases e1)
     | rd f ds =>
       obtain⟨a,xs,e,fa,q,z⟩:=h2
       refine⟨a,xs,e,fa,by rw[zaf λz=>fa (.inr z)];exact q,z.to (λa xs fa qa=>⟨fa,by rw[zaf λz=>fa (.inr z)];exact qa⟩) λa xs qa=>SqT.stay (h:=qa) λb u hu hb=>?_⟩
       rw[zaf λz=>?_]
       ·exact hb
       ·obtain⟨us,e1|⟨o',e1⟩⟩:=hu <;> (rw[z,hD5] at hb;cases hb;cases e1)
     | exc C ns ds =>
       obtain⟨xs,e,z⟩:=h2
       have mv:∀ a u,unM (O.plus D (.lst ys)) a->H5 a=some u->unM (O.plus D (.lst (ys ++ [yv]))) a/\upd H5 D (.lst (ys ++ [yv])) a=some u:=λa u fa qa=>⟨fa,by rw[zaf λz=>fa (.inr z)];exact qa⟩
       refine⟨xs,e.to mv,z.to (λa xs fa qa=>mv a _ fa qa) λa xs qa=>SqT.stay (h:=qa) λb u hu hb=>?_⟩
       rw[zaf λz=>?_]
       ·exact hb
       ·obtain⟨us,e1|⟨o',e1⟩⟩:=hu <;> (rw[z,hD5] at hb;cases hb;cases e1)
     | thg T =>
       obtain⟨W,hw,z⟩:=h2
       refine⟨W,λa w=>⟨(hw a w).1,let ⟨o,q⟩:=(hw a w).2; ⟨o,by rw[zaf λz=>(hw a w).1 (.inr z)];exact q⟩⟩,T.to (λa u fa qa=>⟨fa,by rw[zaf λz=>fa (.inr z)];exact qa⟩) (λa u w q=>⟨w,by rw[zaf λz=>(hw a w).1 (.inr z)];exact q⟩) (λb u hu hb=>?_) z⟩
       rw[zaf λz=>?_]
       ·exact hb
       ·obtain⟨us,e1|⟨o',e1⟩⟩:=hu <;> (rw[z,hD5] at hb;cases hb;cases e1)
     | thr T =>
       obtain⟨W,hw,z⟩:=h2
       refine⟨W,λa w=>⟨(hw a w).1,let ⟨o,q⟩:=(hw a w).2; ⟨o,by rw[zaf λz=>(hw a w).1 (.inr z)];exact q⟩⟩,T.to (λa u fa qa=>⟨fa,by rw[zaf λz=>fa (.inr z)];exact qa⟩) (λa u w q=>⟨w,by rw[zaf λz=>(hw a w).1 (.inr z)];exact q⟩) (λb u hu hb=>?_) z⟩
       rw[zaf λz=>?_]
       ·exact hb
       ·obtain⟨us,e1|⟨o',e1⟩⟩:=hu <;> (rw[z,hD5] at hb;cases hb;cases e1)
    ·have mv:∀ {vs es},IsAll K (λa=>¬ (O.M a\/a=D)) H5 vs es->IsAll K (λa=>¬ (O.M a\/a=D)) (upd H5 D (.lst (ys ++ [yv]))) vs es:=λz =>
      z.to (λa xs fa qa=>⟨fa,by rw[zaf λz=>fa (.inr z)];exact qa⟩) λa xs qa=>SqT.stay (h:=qa) λb u hu hb=>by
       rw[zaf λz=>?_]
       ·exact hb
       ·obtain⟨us,e1|⟨o',e1⟩⟩:=hu <;> (rw[z,hD5] at hb;cases hb;cases e1)
     exact mv (a5.snoc iy)
 ·left
  have e:i=ds.length:=by omega
  subst e
  rw[JT] at go
  refine⟨W.stop H2 _ kB tst (Qt _),k _ H2 (.n acc) ?_ ⟨D,ys,rfl,W.st.s.free nM hD,hDy,hacc.weak λa z m=>z (.inl m)⟩ go⟩
  refine W.st.trans ⟨λa o e n=>kp a o e n,λ_=>S2.p.1,tst⟩
end
section
variable {K : Qa} {O : Ob}
theorem zqn{H1 H2:Hp}{xs:List V}{ds:List PyData}{i:Nat}{d:PyData}(h:IsAll K (unM O) H1 xs ds)(hd:ds[i]? = some d)(t:TupStay H1 H2)(c:flat d=true\/∀ a o,H1 a=some o->¬ O.M a->H2 a=some o) :
 ∃ v,xs[i]? = some v/\Is K (λa=>¬ O.M a/\(flat d=true\/∃ o,H1 a=some o)) H2 v d:=by
 obtain⟨v,hv,iv⟩:=h.get hd
 refine⟨v,hv,?_⟩
 rcases c with c|c
 ·exact Is.flat t iv c
 ·exact iv.to (λa ys f q=>⟨⟨f,.inr ⟨_,q⟩⟩,c a _ q f⟩) λa ys q=>SqT.stay (h:=q) t
def R.isN:R->Bool
 | .n _=>true
 | .o _=>false
def srcL(f:DE):DI:=λρ Q=>f ρ λr=>∃ ds,r.d = .list ds/\Q r.isN ds
theorem zxg{t:TE}{f:DE}(h:ED K O t f):SrcS K O (zta K t) (srcL f):=λσ H ρ R Qd S hf k=>by
 refine h σ H ρ _ _ S hf λv H1 r st o1 ⟨ds,e,q⟩=>?_
 have i1:=o1.is S.ok S.p
 rw[e] at i1
 cases i1 with
 | list f0 ha hs =>
   rename_i a xs
   refine⟨a,rfl,⟨xs,.of ha⟩,k (Itl K a) H1 ds (λb=>b=a) r.isN ⟨st,λb hb=>by subst hb;exact⟨f0,_,ha⟩,λH2 i kb _ hi=>?_,λH2 i d kb t2 hd c=>?_⟩ (λz b hb=>?_) q⟩
   ·exact⟨xs,.of (kb a _ rfl ha),by rw[hs.length];exact hi⟩
   ·obtain⟨w,hw,iw⟩:=zqn (O:=O) hs hd t2 c
    have q2:SqL K H2 a xs := .of (kb a _ rfl ha)
    refine⟨⟨xs,w,q2,hw⟩,λx H3 ⟨e3,y⟩=>?_⟩
    subst e3
    have:=y xs q2
    rw[hw] at this
    cases this
    exact⟨Same.refl _,iw⟩
   ·subst hb
    cases r with
    | o d=>cases z
    | n es =>
      obtain⟨a',xs',e',hn,_⟩:=o1
      cases e'
      exact hn
def srcT(f:DE):DI:=λρ Q=>f ρ λr=>∃ ds,r.d = .tuple ds/\Q true ds
theorem z1m{t:TE}{f:DE}(h:ED K O t f):SrcS K O (iTup K t) (srcT f):=λσ H ρ R Qd S hf k=>by
 refine h σ H ρ _ _ S hf λv H1 r st o1 ⟨ds,e,q⟩=>?_
 have i1:=o1.is S.ok S.p
 rw[e] at i1
 cases i1 with
 | tuple ha hs =>
   rename_i a xs
   refine⟨a,rfl,⟨xs,ha⟩,k (Itt K a) H1 ds (λ_=>False) true ⟨st,λb hb=>hb.elim,λH2 i kb t2 hi=>?_,λH2 i d kb t2 hd c=>?_⟩ (λz b hb=>hb.elim) q⟩
   ·exact⟨xs,SqT.stay t2 ha,by rw[hs.length];exact hi⟩
   ·obtain⟨w,hw,iw⟩:=zqn (O:=O) hs hd t2 c
    have q2:SqT K H2 a xs:=SqT.stay t2 ha
    refine⟨⟨xs,w,q2,hw⟩,λx H3 ⟨e3,y⟩=>?_⟩
    subst e3
    have:=y xs q2
    rw[hw] at this
    cases this
    exact⟨Same.refl _,iw⟩
def ze6(lo:Int)(n:Nat):List PyData:=(Yl n).map λk => .int (lo+(k:Nat))
theorem zcc{lo:Int}{n i:Nat}{d:PyData}(h:(ze6 lo n)[i]? = some d):i<n/\d = .int (lo+(i:Nat)):=by
 unfold ze6 at h
 rw[Q4] at h
 by_cases hi:i<n
 ·rw[List.getElem?_range hi] at h
  cases h
  exact⟨hi,rfl⟩
 ·rw[QZ (by simpa using hi)] at h
  cases h
theorem zme{H H1:Hp}(st:Stp O H H1)(lo:Int)(n:Nat):Walk K O H H1 (Itr lo n) (ze6 lo n) (λ_=>False) :=
 ⟨st,λb hb=>hb.elim,λH2 i _ _ hi=>(show n<=i by simpa[ze6] using hi),λH2 i d _ t2 hd c=>by
  obtain⟨hi,rfl⟩:=zcc hd
  refine⟨hi,λx H3 ⟨e3,y⟩=>?_⟩
  subst e3 y
  exact⟨Same.refl _,.int _⟩⟩
def z0r(g:DA):DI:=λρ Q=>g ρ λds=>∃ j:Int,ds = [.int j]/\-(2 ^ 62)<=j/\j<2 ^ 62/\Q true (ze6 0 j.toNat)
theorem zyc{t:TA}{g:DA}(h:AD K O t g):SrcS K O (zze t) (z0r g):=λσ H ρ R Qd S hf k=>by
 refine h σ H ρ _ _ S hf λvs H1 ds st is ⟨j,e,b1,b2,q⟩=>?_
 subst e
 cases is with
 | cons i0 is =>
   cases is
   cases i0
   exact⟨j,rfl,b1,b2,k _ H1 _ _ true (zme st 0 j.toNat) (λ_ _ hb=>hb.elim) q⟩
def zzd(g:DA):DI:=λρ Q=>g ρ λds=>∃ i j:Int,ds = [.int i,.int j]/\(-(2 ^ 62)<=i/\i<2 ^ 62/\-(2 ^ 62)<=j/\j<2 ^ 62)/\Q true (ze6 i (j - i).toNat)
theorem zw9{t:TA}{g:DA}(h:AD K O t g):SrcS K O (zzj t) (zzd g):=λσ H ρ R Qd S hf k=>by
 refine h σ H ρ _ _ S hf λvs H1 ds st is ⟨i,j,e,b,q⟩=>?_
 subst e
 cases is with
 | cons i0 is =>
   cases is with
   | cons i1 is =>
     cases is
     cases i0
     cases i1
     exact⟨i,j,rfl,b,k _ H1 _ _ true (zme st i (j - i).toNat) (λ_ _ hb=>hb.elim) q⟩
end
def sg(c:Nat):Str:=⟨#[c]⟩
def Its(x:Str):It:=⟨λi _=>i<x.cps.size,λi H v H'=>H'=H/\∃ c,x.cps[i]? = some c/\v = .str (sg c),λi _=>x.cps.size<=i⟩
theorem zod{P:Program}{w:World}{K:Qa}{tg:Expr}{it:Addr}{x:Str}{t:Tok}{ty:String}(hty:["enumerate", "zip", "dict_itemiterator", "dict_reverseitemiterator", "odict_iterator", "itertools.zip_longest", "itertools.pairwise"].contains ty=false)
 (W:∀ A':Around,A'.handled=none->Walks P w A' it [it] [it] x.cps.size (SignAt x) (λi h=>h.IsStrIter it ty x t i))
 (hself:∀ (A:Around) (i:Nat) (s:Shared) (Q:Value->Shared->Prop) (E:Value->Shared->Prop),s.heap.IsStrIter it ty x t i->Q (.ref it) s->wpAny (model P w) A (pyIter (.ref it)) Q E s) :
 Turn P w K tg (Its x) [it] it (λi h=>i<=x.cps.size/\h.IsStrIter it ty x t i) where
 mem:=by simp
 obj:=λi h st b hb=>by
  have e:b=it:=by simpa using hb
  subst e
  obtain⟨_,o,e,c,d⟩:=st
  exact⟨o,e,λv z=>by rw[d] at z;cases z⟩
 keep:=λi h h' st k=>⟨st.1,by
  obtain⟨_,o,e,c⟩:=st
  exact⟨o,k it (by simp) o e,c⟩⟩
 item:=by
  intro X hP hw hK hc i pins s σ H E I hf st hg
  subst hP hw hK
  obtain⟨f0,f1,f2,f3,f4,f5⟩:=hf it (by simp)
  refine(W X.A (I.ok.hd hc)).item i s _ _ hg st.2 λv h' tk hv st' kk=>?_
  obtain⟨c,u,hcx,rfl⟩:=hv
  have I1:Inv X pins σ H { s with heap:=h',toks:=tk }:=I.turned (λb o hb e=>kk b o (by simpa using hb) e) f0 f1 f3 f4 f5
  obtain⟨o,e,hcl,hdt⟩:=id st'
  exact⟨_,rfl,zns (s:={ s with heap:=h',toks:=tk }) e hcl hdt hty ⟨.str (sg c),H,I1,⟨u,rfl⟩,⟨rfl,c,hcx,rfl⟩,⟨hg,st'⟩,λb hb=>(hf b hb).1⟩⟩
 done:=by
  intro X hP hw hK hc i pins s σ H E I hf st hg
  subst hP hw hK
  obtain⟨f0,f1,f2,f3,f4,f5⟩:=hf it (by simp)
  have hi:i=x.cps.size:=Nat.le_antisymm st.1 hg
  subst hi
  exact(W X.A (I.ok.hd hc)).done s _ _ st.2 λh' tk kk=>⟨rfl,I.turned (λb o hb e=>kk b o (by simpa using hb) e) f0 f1 f3 f4 f5⟩
 self:=λA i s Q E st h=>hself A i s Q E st.2 h
def iStr(t:TE):TI:=λσ H R=>t σ H λv H1=>∃ x,v = .str x/\R (Its x) H1
theorem yar{X:Cx}{tg l:Expr}{tl:TE}(hl:PE X l tl):PI X tg l (iStr tl):=by
 intro pins s σ H R I h
 refine thn (hl pins s σ H _ I h) λv s1 ⟨y,H1,I1,r1,q1⟩=>?_
 obtain⟨x,e,q⟩:=q1
 subst e
 obtain⟨t,rfl⟩:=r1
 have fin:∀ (o:Obj) (T:Nat->Heap->Prop),Turn X.prog X.w X.K tg (Its x) [s1.heap.objs.size] s1.heap.objs.size T->T 0 (s1.heap.push o)->PIE X pins σ tg R (.ref s1.heap.objs.size) { s1 with heap:=s1.heap.push o }:=λo T hT h0=>by
  refine⟨s1.heap.objs.size,[s1.heap.objs.size],T,Its x,H1,rfl,I1.kept (t':=s1.toks) λb o e=>Qb _ e,hT,h0,λb hb=>?_,q⟩
  have e:b=s1.heap.objs.size:=by simpa using hb
  subst e
  exact I1.fpOk (Qt _) (I1.hok.fresh (Qt _))
 cases ha:x.cps.all (· < 128)
 ·exact wpAny_pyIter_wide ha (fin _ _ (zod (by decide) (λA' hA=>Walks.strWide hA _ x t) λ_ _ _ _ _ st h=>wpAny_pyIter_striter_wide st h) ⟨QO _,_,Qq _ rfl,rfl,rfl⟩)
 ·exact wpAny_pyIter_ascii ha (fin _ _ (zod (by decide) (λA' hA=>Walks.strAscii hA _ x t) λ_ _ _ _ _ st h=>wpAny_pyIter_striter_ascii st h) ⟨QO _,_,Qq _ rfl,rfl,rfl⟩)
def sgs(x:Str):List PyData:=x.cps.toList.map λc => .str (sg c)
def srcS(f:DE):DI:=λρ Q=>f ρ λr=>∃ x,r.d = .str x/\Q true (sgs x)
theorem z5m{K:Qa}{O:Ob}{t:TE}{f:DE}(h:ED K O t f):SrcS K O (iStr t) (srcS f):=λσ H ρ R Qd S hf k=>by
 refine h σ H ρ _ _ S hf λv H1 r st o1 ⟨x,e,q⟩=>?_
 have i1:=o1.is S.ok S.p
 rw[e] at i1
 cases i1
 refine⟨x,rfl,k (Its x) H1 (sgs x) (λ_=>False) true ⟨st,λb hb=>hb.elim,λH2 i _ _ hi=>(show x.cps.size<=i by simpa[sgs] using hi),λH2 i d _ t2 hd c=>?_⟩ (λ_ _ hb=>hb.elim) q⟩
 unfold sgs at hd
 rw[Q4] at hd
 obtain⟨n,hn,rfl⟩:=QV.mp hd
 have hn':x.cps[i]? = some n:=by simpa using hn
 have hi:i<x.cps.size:=by
  obtain⟨z,_⟩:=JO.mp hn'
  exact z
 refine⟨hi,λy H3 ⟨e3,n',h1,h2⟩=>?_⟩
 subst e3 h2
 rw[hn'] at h1
 cases h1
 exact⟨Same.refl _,.str _⟩
structure DEnds where
 nx:DSt->Prop
 rt:R->Prop
 bk:DSt->Prop:=λ_=>False
 ct:DSt->Prop:=λ_=>False
abbrev DS:=DEnds->DSt->Prop
def unO(O:Ob)(A:Nat->Addr->Prop):Addr->Prop:=λa=>¬ O.M a/\∀ j,¬ A j a
def OwnO(o:HO):Prop:=∀ us,o ≠ .tup us/\∀ o',o ≠ .frz o' (.tup us)
theorem OwnO.lst{xs:List V}:OwnO (.lst xs):=λ_=>⟨λz=>(nomatch z),λ_ z=>(nomatch z)⟩
def RepV(K:Qa)(O:Ob)(A:Nat->Addr->Prop)(H:Hp)(i:Nat)(v:V):DV->Prop
 | .im d=>Is K (unO O A) H v d
 | .own ds=>∃ a xs,v = .ref a/\A i a/\H a=some (.lst xs)/\IsAll K (unO O A) H xs ds
 | .ob=>v=O.v
 | .scr n=>IsS K (unO O A) H v n
 | .dct ks=>∃ a,A i a/\DkAt H v a ks
 | .gen f ds=>∃ a xs,v = .ref a/\A i a/\H a=some (f a xs)/\IsAll K (unO O A) H xs ds
 | .rd f ds=>∃ a xs,v = .ref a/\unO O A a/\H a=some (f a xs)/\IsAll K (unO O A) H xs ds
 | .exc C ns ds=>∃ xs,ExAt (unO O A) H v C ns xs/\IsAll K (unO O A) H xs ds
 | .thg T=>T.R K (unO O A) (A i) H v
 | .thr T=>∃ W:Addr->Prop,(∀ a,W a->unO O A a/\∃ o,H a=some o)/\T.R K (unO O A) W H v
structure Rep (K:Qa) (O:Ob) (H₀:Hp) (A:Nat->Addr->Prop) (H:Hp) (σ:St) (ρ:DSt):Prop where
 ok:O.Ok
 p:O.P H
 p0:O.P H₀
 st:Stp O H₀ H
 dis:∀ i j a,A i a->A j a->i=j
 own:∀ i a,A i a->H₀ a=none/\(∃ o,H a=some o/\OwnO o)/\¬ O.M a
 at_:∀ (i:Nat) r,ρ[i]? = some (some r)->∃ v,σ[i]? = some (some v)/\RepV K O A H i v r
 len:ρ.length=σ.length
def Frm(O:Ob)(A:Nat->Addr->Prop)(H:Hp)(A':Nat->Addr->Prop)(H':Hp):Prop:=∀ a o,H a=some o->unO O A a->H' a=some o/\unO O A' a
theorem Frm.refl{O:Ob}{A:Nat->Addr->Prop}{H:Hp}:Frm O A H A H:=λ_ _ h u=>⟨h,u⟩
theorem Frm.trans{O:Ob}{A A1 A2:Nat->Addr->Prop}{H H1 H2:Hp}(a:Frm O A H A1 H1)(b:Frm O A1 H1 A2 H2):Frm O A H A2 H2:=λc o h u=>let ⟨h1,u1⟩:=a c o h u;b c o h1 u1
structure Post (K:Qa) (O:Ob) (H₀:Hp) (A:Nat->Addr->Prop) (H:Hp) (D:Ends) (Dd:DEnds):Prop where
 nx:∀ A' σ' H' ρ',Rep K O H₀ A' H' σ' ρ'->Frm O A H A' H'->Dd.nx ρ'->D.nx σ' H'
 bk:∀ A' σ' H' ρ',Rep K O H₀ A' H' σ' ρ'->Frm O A H A' H'->Dd.bk ρ'->D.bk σ' H'
 ct:∀ A' σ' H' ρ',Rep K O H₀ A' H' σ' ρ'->Frm O A H A' H'->Dd.ct ρ'->D.ct σ' H'
 rt:∀ H' v r,Stp O H₀ H'->Out K O H₀ H' v r->Dd.rt r->D.rt v H'
def SD(K:Qa)(O:Ob)(t:TS)(g:DS):Prop :=
 ∀ (H₀:Hp) (A:Nat->Addr->Prop) (σ:St) (H:Hp) (ρ:DSt) (D:Ends) (Dd:DEnds),Rep K O H₀ A H σ ρ->g Dd ρ->Post K O H₀ A H D Dd->t D σ H
section
variable {K : Qa} {O : Ob} {H₀ H H' : Hp} {A : Nat → Addr → Prop} {σ : St} {ρ : DSt}
theorem Rep.seen(r:Rep K O H₀ A H σ ρ):Seen K O H σ ρ:=by
 refine⟨r.ok,r.p,λi x e=>?_,r.len⟩
 obtain⟨v,hv,h⟩:=r.at_ i x e
 refine⟨v,hv,?_⟩
 cases x with
 | im d=>exact h.weak λa u=>u.1
 | own ds =>
   obtain⟨a,xs,rfl,ha,hl,hs⟩:=h
   exact .list (r.own i a ha).2.2 hl (hs.weak λa u=>u.1)
 | ob=>exact h
 | scr n=>exact IsS.to (λa u f q=>⟨f.1,q⟩) h
 | dct ks=>obtain⟨a,ha,h⟩:=h;exact⟨a,(r.own i a ha).2.2,h⟩
 | gen f ds=>obtain⟨a,xs,e,ha,q,z⟩:=h;exact⟨a,xs,e,(r.own i a ha).2.2,q,z.weak λa u=>u.1⟩
 | rd f ds=>obtain⟨a,xs,e,ha,q,z⟩:=h;exact⟨a,xs,e,ha.1,q,z.weak λa u=>u.1⟩
 | exc C ns ds=>obtain⟨xs,e,z⟩:=h;exact⟨xs,e.to λa u f q=>⟨f.1,q⟩,z.weak λa u=>u.1⟩
 | thg T=>exact⟨A i,λa w=>⟨(r.own i a w).2.2,let ⟨o,q,_⟩:=(r.own i a w).2.1; ⟨o,q⟩⟩,T.to (λa u f q=>⟨f.1,q⟩) (λa u w q=>⟨w,q⟩) (TupStay.refl _) h⟩
 | thr T=>obtain⟨W,hw,z⟩:=h;exact⟨W,λa w=>⟨(hw a w).1.1,(hw a w).2⟩,T.to (λa u f q=>⟨f.1,q⟩) (λa u w q=>⟨w,q⟩) (TupStay.refl _) z⟩
theorem Rep.stp(r:Rep K O H₀ A H σ ρ)(s:Stp O H H'):Rep K O H₀ A H' σ ρ:=by
 refine⟨r.ok,s.p r.p,r.p0,r.st.trans s,r.dis,λi a ha=>?_,λi x e=>?_,r.len⟩
 ·obtain⟨h0,⟨xs,hx,ho⟩,hm⟩:=r.own i a ha
  exact⟨h0,⟨xs,s.s a _ hx hm,ho⟩,hm⟩
 ·obtain⟨v,hv,h⟩:=r.at_ i x e
  refine⟨v,hv,?_⟩
  cases x with
  | im d=>exact Is.stp s (λ_ z=>z) (λ_ z=>z.1) h
  | own ds =>
    obtain⟨a,xs,rfl,ha,hl,hs⟩:=h
    exact⟨a,xs,rfl,ha,s.s a _ hl (r.own i a ha).2.2,hs.stp s (λ_ z=>z) (λ_ z=>z.1)⟩
  | ob=>exact h
  | scr n=>exact IsS.to (λa u f q=>⟨f,s.s a u q f.1⟩) h
  | dct ks=>obtain⟨a,ha,h⟩:=h;exact⟨a,ha,h.to λu q=>s.s a u q (r.own i a ha).2.2⟩
  | gen f ds=>obtain⟨a,xs,e,ha,q,z⟩:=h;exact⟨a,xs,e,ha,s.s a _ q (r.own i a ha).2.2,z.stp s (λ_ z=>z) (λ_ z=>z.1)⟩
  | rd f ds=>obtain⟨a,xs,e,ha,q,z⟩:=h;exact⟨a,xs,e,ha,s.s a _ q ha.1,z.stp s (λ_ z=>z) (λ_ z=>z.1)⟩
  | exc C ns ds=>obtain⟨xs,e,z⟩:=h;exact⟨xs,e.to λa u f q=>⟨f,s.s a u q f.1⟩,z.stp s (λ_ z=>z) (λ_ z=>z.1)⟩
  | thg T=>exact T.to (λa u f q=>⟨f,s.s a u q f.1⟩) (λa u w q=>⟨w,s.s a u q (r.own i a w).2.2⟩) s.t h
  | thr T=>obtain⟨W,hw,z⟩:=h;exact⟨W,λa w=>let ⟨f,o,q⟩:=hw a w; ⟨f,o,s.s a o q f.1⟩,T.to (λa u f q=>⟨f,s.s a u q f.1⟩) (λa u w q=>⟨w,s.s a u q (hw a w).1.1⟩) s.t z⟩
theorem Frm.stp(s:Stp O H H'):Frm O A H A H':=λa o e u=>⟨s.s a o e u.1,u⟩
theorem Rep.setIm{i:Nat}{v:V}{d:PyData}(r:Rep K O H₀ A H σ ρ)(h:Is K (unO O A) H v d):Rep K O H₀ (λj a=>j ≠ i/\A j a) H (σ.set i (some v)) (ρ.set i (some (.im d))):=by
 have un:∀ a,unO O A a->unO O (λj a=>j ≠ i/\A j a) a:=λa u=>⟨u.1,λj z=>u.2 j z.2⟩
 refine⟨r.ok,r.p,r.p0,r.st,λj k a x y=>r.dis j k a x.2 y.2,λj a x=>r.own j a x.2,λj x e=>?_,by rw[Zj,Zj];exact r.len⟩
 by_cases hj:i=j
 ·subst hj
  have hi:i<ρ.length:=by
   rcases Yv i ρ.length with z|z
   ·exact z
   ·rw[QZ (by simpa using z)] at e;cases e
  rw[QG hi] at e
  cases e
  exact⟨v,QG (by have:=r.len;omega),h.weak un⟩
 ·rw[QF hj] at e
  obtain⟨w,h1,h2⟩:=r.at_ j x e
  refine⟨w,by rw[QF hj];exact h1,?_⟩
  cases x with
  | im d=>exact h2.weak un
  | own ds =>
    obtain⟨a,xs,rfl,ha,hl,hs⟩:=h2
    exact⟨a,xs,rfl,⟨λz=>hj z.symm,ha⟩,hl,hs.weak un⟩
  | ob=>exact h2
  | scr n=>exact IsS.to (λa u f q=>⟨un a f,q⟩) h2
  | dct ks=>obtain⟨a,ha,h2⟩:=h2;exact⟨a,⟨λz=>hj z.symm,ha⟩,h2⟩
  | gen f ds=>obtain⟨a,xs,e,ha,q,z⟩:=h2;exact⟨a,xs,e,⟨λz=>hj z.symm,ha⟩,q,z.weak un⟩
  | rd f ds=>obtain⟨a,xs,e,ha,q,z⟩:=h2;exact⟨a,xs,e,un a ha,q,z.weak un⟩
  | exc C ns ds=>obtain⟨xs,e,z⟩:=h2;exact⟨xs,e.to λa u f q=>⟨un a f,q⟩,z.weak un⟩
  | thg T=>exact T.to (λa u f q=>⟨un a f,q⟩) (λa u w q=>⟨⟨λz=>hj z.symm,w⟩,q⟩) (TupStay.refl _) h2
  | thr T=>obtain⟨W,hw,z⟩:=h2;exact⟨W,λa w=>⟨un a (hw a w).1,(hw a w).2⟩,T.to (λa u f q=>⟨un a f,q⟩) (λa u w q=>⟨w,q⟩) (TupStay.refl _) z⟩
theorem Rep.setOwn{i:Nat}{a:Addr}{xs:List V}{ds:List PyData}(r:Rep K O H₀ A H σ ρ)(s:Stp O H H')(hn:H a=none)(hl:H' a=some (.lst xs))(hf:IsAll K (unM O) H' xs ds)(fl:flats ds=true) :
 Rep K O H₀ (λj b=>(j ≠ i/\A j b)\/(j=i/\b=a)) H' (σ.set i (some (.ref a))) (ρ.set i (some (.own ds))):=by
 have hm:¬ O.M a:=λm=>by obtain⟨o,z⟩:=r.ok.here H a r.p m;rw[hn] at z;cases z
 have new:∀ j,¬ A j a:=λj z=>by obtain⟨_,⟨ys,q,_⟩,_⟩:=r.own j a z;rw[hn] at q;cases q
 have un:∀ b o,H b=some o->unO O A b->unO O (λj b=>(j ≠ i/\A j b)\/(j=i/\b=a)) b:=λb o e u=>⟨u.1,λj z=>by
  rcases z with z|z
  ·exact u.2 j z.2
  ·rw[z.2,hn] at e;cases e⟩
 have mv:∀ {v d},Is K (unO O A) H v d->Is K (unO O (λj b=>(j ≠ i/\A j b)\/(j=i/\b=a))) H' v d:=λz =>
  z.to (λb ys f q=>⟨un b _ q f,s.s b _ q f.1⟩) λb ys q=>SqT.stay (h:=q) s.t
 have mvs:∀ {v d},IsAll K (unO O A) H v d->IsAll K (unO O (λj b=>(j ≠ i/\A j b)\/(j=i/\b=a))) H' v d:=λz =>
  z.to (λb ys f q=>⟨un b _ q f,s.s b _ q f.1⟩) λb ys q=>SqT.stay (h:=q) s.t
 refine⟨r.ok,s.p r.p,r.p0,r.st.trans s,λj k b x y=>?_,λj b x=>?_,λj x e=>?_,by rw[Zj,Zj];exact r.len⟩
 ·rcases x with x|x <;> rcases y with y|y
  ·exact r.dis j k b x.2 y.2
  ·exact absurd (y.2 ▸ x.2) (new j)
  ·exact absurd (x.2 ▸ y.2) (new k)
  ·exact x.1.trans y.1.symm
 ·rcases x with x|x
  ·obtain⟨h0,⟨ys,q,ho⟩,m⟩:=r.own j b x.2
   exact⟨h0,⟨ys,s.s b _ q m,ho⟩,m⟩
  ·obtain⟨rfl,rfl⟩:=x
   exact⟨r.st.s.free hm hn,⟨_,hl,.lst⟩,hm⟩
 ·by_cases hj:i=j
  ·subst hj
   have hi:i<ρ.length:=by
    rcases Yv i ρ.length with z|z
    ·exact z
    ·rw[QZ (by simpa using z)] at e;cases e
   rw[QG hi] at e
   cases e
   exact⟨.ref a,QG (by have:=r.len;omega),a,xs,rfl,.inr ⟨rfl,rfl⟩,hl,IsAll.flats (TupStay.refl H') hf fl⟩
  ·rw[QF hj] at e
   obtain⟨w,h1,h2⟩:=r.at_ j x e
   refine⟨w,by rw[QF hj];exact h1,?_⟩
   cases x with
   | im d=>exact mv h2
   | own es =>
     obtain⟨b,ys,rfl,hb,hlb,hs⟩:=h2
     exact⟨b,ys,rfl,.inl ⟨λz=>hj z.symm,hb⟩,s.s b _ hlb (r.own j b hb).2.2,mvs hs⟩
   | ob=>exact h2
   | scr n=>exact IsS.to (λb u f q=>⟨un b u q f,s.s b u q f.1⟩) h2
   | dct ks=>obtain⟨b,hb,h2⟩:=h2;exact⟨b,.inl ⟨λz=>hj z.symm,hb⟩,h2.to λu q=>s.s b u q (r.own j b hb).2.2⟩
   | gen f ds=>obtain⟨b,xs,e,hb,q,z⟩:=h2;exact⟨b,xs,e,.inl ⟨λz=>hj z.symm,hb⟩,s.s b _ q (r.own j b hb).2.2,mvs z⟩
   | rd f ds=>obtain⟨b,xs,e,hb,q,z⟩:=h2;exact⟨b,xs,e,un b _ q hb,s.s b _ q hb.1,mvs z⟩
   | exc C ns ds=>obtain⟨xs,e,z⟩:=h2;exact⟨xs,e.to λb u f q=>⟨un b _ q f,s.s b _ q f.1⟩,mvs z⟩
   | thg T=>exact T.to (λb u f q=>⟨un b u q f,s.s b u q f.1⟩) (λb u w q=>⟨.inl ⟨λz=>hj z.symm,w⟩,s.s b u q (r.own j b w).2.2⟩) s.t h2
   | thr T=>obtain⟨W,hw,z⟩:=h2;exact⟨W,λb w=>let ⟨f,o,q⟩:=hw b w; ⟨un b o q f,o,s.s b o q f.1⟩,T.to (λb u f q=>⟨un b u q f,s.s b u q f.1⟩) (λb u w q=>⟨w,s.s b u q (hw b w).1.1⟩) s.t z⟩
theorem Frm.setIm{i:Nat}(s:Stp O H H'):Frm O A H (λj a=>j ≠ i/\A j a) H':=λa o e u=>⟨s.s a o e u.1,u.1,λj z=>u.2 j z.2⟩
theorem Frm.setOwn{i:Nat}{a:Addr}(s:Stp O H H')(hn:H a=none):Frm O A H (λj b=>(j ≠ i/\A j b)\/(j=i/\b=a)) H':=λb o e u=>⟨s.s b o e u.1,u.1,λj z=>by
 rcases z with z|z
 ·exact u.2 j z.2
 ·rw[z.2,hn] at e;cases e⟩
theorem Rep.change{i:Nat}{a:Addr}{ys:List V}{ds es:List PyData}(r:Rep K O H₀ A H σ ρ)(e:ρ[i]? = some (some (.own ds)))(hv:σ[i]? = some (some (.ref a)))(ha:A i a)(hs:IsAll K (unO O A) H ys es) :
 Rep K O H₀ A (upd H a (.lst ys)) σ (ρ.set i (some (.own es))):=by
 obtain⟨h0,⟨oo,hz,hoo⟩,hm⟩:=r.own i a ha
 have ts:TupStay H (upd H a (.lst ys)):=λb u hu hb=>by
  rw[zaf λz=>?_]
  ·exact hb
  ·rw[z,hz] at hb
   cases hb
   obtain⟨us,e1|⟨o',e1⟩⟩:=hu
   ·exact absurd e1 (hoo us).1
   ·exact absurd e1 ((hoo us).2 o')
 have mv:∀ {v d},Is K (unO O A) H v d->Is K (unO O A) (upd H a (.lst ys)) v d:=λz=>z.to (λb us f q=>⟨f,by rw[zaf (show b ≠ a from λw=>f.2 i (by rw[w];exact ha))];exact q⟩) λb us q=>SqT.stay (h:=q) ts
 have mvs:∀ {v d},IsAll K (unO O A) H v d->IsAll K (unO O A) (upd H a (.lst ys)) v d:=λz=>z.to (λb us f q=>⟨f,by rw[zaf (show b ≠ a from λw=>f.2 i (by rw[w];exact ha))];exact q⟩) λb us q=>SqT.stay (h:=q) ts
 have pp:O.P (upd H a (.lst ys)):=r.ok.loc H _ (λb m=>zaf λz=>hm (z ▸ m)) r.p
 refine⟨r.ok,pp,r.p0,⟨λb o hb n=>?_,λ_=>pp,λb u hu hb=>ts b u hu (r.st.t b u hu hb)⟩,r.dis,λj b hb=>?_,λj x ej=>?_,by rw[Zj];exact r.len⟩
 ·rw[zaf λz=>?_]
  ·exact r.st.s b o hb n
  ·rw[z,h0] at hb;cases hb
 ·obtain⟨k0,⟨us,k1,ko⟩,k2⟩:=r.own j b hb
  by_cases hba:b=a
  ·subst hba;exact⟨k0,⟨_,zap,.lst⟩,k2⟩
  ·exact⟨k0,⟨us,by rw[zaf hba];exact k1,ko⟩,k2⟩
 ·by_cases hj:i=j
  ·subst hj
   have hi:i<ρ.length:=(QE.mp e).1
   rw[QG hi] at ej
   cases ej
   exact⟨.ref a,hv,a,ys,rfl,ha,zap,mvs hs⟩
  ·rw[QF hj] at ej
   obtain⟨w,h1,h2⟩:=r.at_ j x ej
   refine⟨w,h1,?_⟩
   cases x with
   | im d=>exact mv h2
   | own fs =>
     obtain⟨b,us,rfl,hb,hlb,hs2⟩:=h2
     exact⟨b,us,rfl,hb,by rw[zaf (show b ≠ a from λz=>hj (r.dis i j a ha (by rw[<- z];exact hb)))];exact hlb,mvs hs2⟩
   | ob=>exact h2
   | scr n=>exact IsS.to (λb u f q=>⟨f,by rw[zaf (show b ≠ a from λw=>f.2 i (by rw[w];exact ha))];exact q⟩) h2
   | dct ks=>obtain⟨b,hb,h2⟩:=h2;exact⟨b,hb,h2.to λu q=>by rw[zaf (show b ≠ a from λz=>hj (r.dis i j a ha (by rw[<- z];exact hb)))];exact q⟩
   | gen f ds=>obtain⟨b,xs,e,hb,q,z⟩:=h2;exact⟨b,xs,e,hb,by rw[zaf (show b ≠ a from λz=>hj (r.dis i j a ha (by rw[<- z];exact hb)))];exact q,mvs z⟩
   | rd f ds=>obtain⟨b,xs,e,hb,q,z⟩:=h2;exact⟨b,xs,e,hb,by rw[zaf (show b ≠ a from λw=>hb.2 i (by rw[w];exact ha))];exact q,mvs z⟩
   | exc C ns ds=>obtain⟨xs,e,z⟩:=h2;exact⟨xs,e.to λb u f q=>⟨f,by rw[zaf (show b ≠ a from λw=>f.2 i (by rw[w];exact ha))];exact q⟩,mvs z⟩
   | thg T=>exact T.to (λb u f q=>⟨f,by rw[zaf (show b ≠ a from λw=>f.2 i (by rw[w];exact ha))];exact q⟩) (λb u w q=>⟨w,by rw[zaf (show b ≠ a from λz=>hj (r.dis i j a ha (by rw[<- z];exact w)))];exact q⟩) ts h2
   | thr T=>obtain⟨W,hw,z⟩:=h2;exact⟨W,λb w=>let ⟨f,o,q⟩:=hw b w; ⟨f,o,by rw[zaf (show b ≠ a from λw=>f.2 i (by rw[w];exact ha))];exact q⟩,T.to (λb u f q=>⟨f,by rw[zaf (show b ≠ a from λw=>f.2 i (by rw[w];exact ha))];exact q⟩) (λb u w q=>⟨w,by rw[zaf (show b ≠ a from λy=>(hw b w).1.2 i (by rw[y];exact ha))];exact q⟩) ts z⟩
theorem Frm.change{i:Nat}{a:Addr}{o:HO}(ha:A i a):Frm O A H A (upd H a o):=λb u e n=>⟨by rw[zaf (show b ≠ a from λz=>n.2 i (by rw[z];exact ha))];exact e,n⟩
end
section
variable {K : Qa} {O : Ob}
theorem Post.frm{H₀:Hp}{A A1:Nat->Addr->Prop}{H H1:Hp}{D:Ends}{Dd:DEnds}(P:Post K O H₀ A H D Dd)(f:Frm O A H A1 H1):Post K O H₀ A1 H1 D Dd :=
 ⟨λA' σ' H' ρ' r g=>P.nx A' σ' H' ρ' r (f.trans g),λA' σ' H' ρ' r g=>P.bk A' σ' H' ρ' r (f.trans g),λA' σ' H' ρ' r g=>P.ct A' σ' H' ρ' r (f.trans g),P.rt⟩
def seqD(g k:DS):DS:=λDd ρ=>g { Dd with nx:=k Dd } ρ
theorem z7k{t u:TS}{g k:DS}(h:SD K O t g)(h':SD K O u k):SD K O (tSeq t u) (seqD g k):=λH₀ A σ H ρ D Dd r q P =>
 h H₀ A σ H ρ _ _ r q ⟨λA' σ' H' ρ' r' f q'=>h' H₀ A' σ' H' ρ' D Dd r' q' (P.frm f),P.bk,P.ct,P.rt⟩
theorem z2k:SD K O zjz (λDd ρ=>Dd.nx ρ):=λH₀ A σ H ρ D Dd r q P=>P.nx A σ H ρ r .refl q
def ifS(c:DT)(g k:DS):DS:=λDd ρ=>c ρ λb=>if b=true then g Dd ρ else k Dd ρ
theorem yb7{c:TT}{t u:TS}{fc:DT}{g k:DS}(hc:TD K O c fc)(h:SD K O t g)(h':SD K O u k):SD K O (tIfS c t u) (ifS fc g k):=λH₀ A σ H ρ D Dd r q P=>by
 refine hc σ H ρ _ _ r.seen q λb H1 s1 q1=>?_
 cases b with
 | true=>exact h H₀ A σ H1 ρ D Dd (r.stp s1) q1 (P.frm (.stp s1))
 | false=>exact h' H₀ A σ H1 ρ D Dd (r.stp s1) q1 (P.frm (.stp s1))
def retS(f:DE):DS:=λDd ρ=>f ρ Dd.rt
theorem z7i{t:TE}{f:DE}(h:ED K O t f):SD K O (tRet t) (retS f):=λH₀ A σ H ρ D Dd r q P=>by
 refine h σ H ρ _ _ r.seen q λv H1 x s1 o1 q1=>P.rt H1 v x (r.st.trans s1) (o1.ahead r.ok r.p0 r.st) q1
def retO(i:Nat):DS:=λDd ρ=>∃ ds,ρ[i]? = some (some (.own ds))/\Dd.rt (.n ds)
theorem zwx{i:Nat}:SD K O (tRet (tVar i)) (retO i):=λH₀ A σ H ρ D Dd r q P=>by
 obtain⟨ds,e,q⟩:=q
 obtain⟨v,hv,a,xs,rfl,ha,hl,hs⟩:=r.at_ i _ e
 exact⟨_,hv,P.rt H _ (.n ds) r.st ⟨a,xs,rfl,(r.own i a ha).1,hl,hs.weak λb u=>u.1⟩ q⟩
def asgS(i:Nat)(f:DE):DS:=λDd ρ=>f ρ λr=>match r with
 | .o d=>flat d=true/\Dd.nx (ρ.set i (some (.im d)))
 | .n ds=>flats ds=true/\Dd.nx (ρ.set i (some (.own ds)))
theorem z9q{i:Nat}{t:TE}{f:DE}(h:ED K O t f):SD K O (tAsg t (zbs i)) (asgS i f):=λH₀ A σ H ρ D Dd r q P=>by
 refine h σ H ρ _ _ r.seen q λv H1 x s1 o1 q1=>?_
 cases x with
 | o d =>
   obtain⟨fl,q1⟩:=q1
   exact P.nx _ _ H1 _ ((r.stp s1).setIm (Is.flat (TupStay.refl H1) o1 fl)) (.setIm s1) q1
 | n ds =>
   obtain⟨fl,q1⟩:=q1
   obtain⟨a,xs,rfl,hn,hl,hs⟩:=o1
   exact P.nx _ _ H1 _ (r.setOwn s1 hn hl hs fl) (.setOwn s1 hn) q1
def appS(i:Nat)(f:DE):DS:=λDd ρ=>∃ ds,ρ[i]? = some (some (.own ds))/\f ρ λr=>flat r.d=true/\ds.length<sizeLine/\Dd.nx (ρ.set i (some (.own (ds ++ [r.d]))))
theorem zv1{i:Nat}{t:TE}{f:DE}(h:ED K O t f):SD K O (zhn (tBM K "list" zfx (tVar i) (zbb t tNil))) (appS i f):=λH₀ A σ H ρ D Dd r q P=>by
 obtain⟨ds,e,q⟩:=q
 obtain⟨v,hv,a,xs,rfl,ha,hl,hs⟩:=r.at_ i _ e
 refine⟨_,hv,?_⟩
 refine⟨.inl ⟨rfl,xs,.of hl⟩,?_⟩
 refine h σ H ρ _ _ r.seen q λw H1 x s1 o1 ⟨fl,hz,q1⟩=>?_
 have r1:=r.stp s1
 obtain⟨v1,hv1,a1,xs1,e1,ha1,hl1,hs1⟩:=r1.at_ i _ e
 rw[hv] at hv1
 cases hv1
 cases e1
 refine⟨a,xs1,w,rfl,rfl,hl1,by rw[hs1.length];exact hz,?_⟩
 have iw:Is K (unO O A) H1 w x.d:=Is.flat (TupStay.refl H1) (o1.is r.ok r.p) fl
 exact P.nx A σ _ _ (r1.change e hv ha (hs1.snoc iw)) ((Frm.stp s1).trans (.change ha)) q1
end
def GR(K:Qa)(O:Ob)(t:TG)(g:DG):Prop :=
 ∀ (H₀:Hp) (A:Nat->Addr->Prop) (σ:St) (H:Hp) (ρ:DSt) (v:V) (d:PyData) (Q:St->Hp->Prop) (Qd:DSt->Prop),Rep K O H₀ A H σ ρ->flat d=true->Is K (unO O A) H v d->g d ρ Qd ->
   (∀ A' σ' ρ',Rep K O H₀ A' H σ' ρ'->Frm O A H A' H->Qd ρ'->Q σ' H)->t v σ H Q
section
variable {K : Qa} {O : Ob}
theorem z2h{i:Nat}:GR K O (zbs i) (gN i):=λH₀ A σ H ρ v d Q Qd r _ h q k=>k _ _ _ (r.setIm h) (.setIm (.refl _ _)) q
def GRs(K:Qa)(O:Ob)(t:TGs)(is:List Nat):Prop :=
 ∀ (H₀:Hp) (A:Nat->Addr->Prop) (σ:St) (H:Hp) (ρ:DSt) (vs:List V) (ds:List PyData) (Q:St->Hp->Prop) (Qd:DSt->Prop),Rep K O H₀ A H σ ρ->flats ds=true->IsAll K (unO O A) H vs ds->gTD is ds ρ Qd ->
   (∀ A' σ' ρ',Rep K O H₀ A' H σ' ρ'->Frm O A H A' H->Qd ρ'->Q σ' H)->t vs σ H Q
theorem z2g:GRs K O gNil []:=λH₀ A σ H ρ vs ds Q Qd r _ i h k=>by
 cases i with
 | nil=>exact⟨rfl,k A σ ρ r .refl h⟩
 | cons _ _=>exact h.elim
theorem zyb{i:Nat}{is:List Nat}{t:TGs}(ht:GRs K O t is):GRs K O (zkk (zbs i) t) (i::is):=λH₀ A σ H ρ vs ds Q Qd r fl h q k=>by
 cases h with
 | nil=>exact q.elim
 | cons h1 h2 =>
   rw[flats,Qp] at fl
   have f1:Frm O A H (λj a=>j ≠ i/\A j a) H := .setIm (.refl _ _)
   refine⟨_,_,rfl,ht _ _ _ H _ _ _ _ _ (r.setIm h1) fl.2 (IsAll.flats (TupStay.refl H) h2 fl.2) q λA' σ' ρ' r' f q'=>k A' σ' ρ' r' (f1.trans f) q'⟩
theorem z9c{is:List Nat}{t:TGs}{n:Nat}(hn:is.length=n)(ht:GRs K O t is):GR K O (gTup K n t) (gT is):=λH₀ A σ H ρ v d Q Qd r fl i h k=>by
 obtain⟨ds,rfl,h⟩:=h
 cases i with
 | tuple q is'=>exact⟨_,_,rfl,q,by rw[is'.length,zl1 h];exact hn,ht H₀ A σ H ρ _ ds Q Qd r (by simpa[flat] using fl) is' h k⟩
def zfn(g:DG)(gb:DS)(Dd:DEnds):List PyData->DSt->Prop
 | [],ρ=>Dd.nx ρ
 | d::ds,ρ=>flat d=true/\g d ρ λρ2=>gb { Dd with nx:=zfn g gb Dd ds,ct:=zfn g gb Dd ds,bk:=Dd.nx } ρ2
abbrev DJ:=DSt->(List PyData->Prop)->Prop
def SrcR(K:Qa)(O:Ob)(wi:TI)(f:DJ):Prop :=
 ∀ (H₀:Hp) (A:Nat->Addr->Prop) (σ:St) (H:Hp) (ρ:DSt) (R:It->Hp->Prop) (Qd:List PyData->Prop),Rep K O H₀ A H σ ρ->f ρ Qd ->
   (∀ (J:It) (H1:Hp) (ds:List PyData) (B:Addr->Prop),Walk K O H H1 J ds B->(∀ a,B a->unO O A a)->Qd ds->R J H1)->wi σ H R
def newJ(f:DI):DJ:=λρ Q=>f ρ λfr ds=>fr=true/\Q ds
theorem z3c{wi:TI}{f:DI}(h:SrcS K O wi f):SrcR K O wi (newJ f):=λH₀ A σ H ρ R Qd r q k=>by
 refine h σ H ρ _ _ r.seen q λJ H1 ds B fr W hfr ⟨e,q1⟩=>k J H1 ds B W (λa b=>⟨(W.hb a b).1,λj z=>?_⟩) q1
 obtain⟨_,⟨xs,q,_⟩,_⟩:=r.own j a z
 rw[hfr e a b] at q;cases q
def forS(f:DJ)(g:DG)(gb:DS):DS:=λDd ρ=>f ρ λds=>zfn g gb Dd ds ρ
theorem Rep.tupStay{H₀:Hp}{A A2:Nat->Addr->Prop}{H1 H2:Hp}{σ:St}{ρ:DSt}(r:Rep K O H₀ A H1 σ ρ)(f:Frm O A H1 A2 H2):TupStay H1 H2:=λa u hu e=>by
 refine(f a u e ⟨λm=>?_,λj z=>?_⟩).1
 ·have mm:=r.ok.mutb H1 a u r.p e m
  obtain⟨xs,e1|⟨o,e1⟩⟩:=hu
  ·exact mm.1 xs e1
  ·exact mm.2 o _ e1
 ·obtain⟨_,⟨xs,q,ho⟩,_⟩:=r.own j a z
  rw[e] at q
  cases q
  obtain⟨ys,e1|⟨o,e1⟩⟩:=hu
  ·exact(ho ys).1 e1
  ·exact(ho ys).2 o e1
theorem z6r{wi:TI}{tg:TG}{tb:TS}{f:DJ}{g:DG}{gb:DS}(hs:SrcR K O wi f)(hg:GR K O tg g)(hb:SD K O tb gb):SD K O (tFor wi tg tb) (forS f g gb):=λH₀ A σ H ρ D Dd r q P=>by
 refine hs H₀ A σ H ρ _ _ r q λJ H1 ds B W uB go=>?_
 have r1:=r.stp W.st
 have f1:Frm O A H A H1 := .stp W.st
 refine⟨λi m σ2 H2=>m=ds.length - i/\i<=ds.length/\∃ A2 ρ2,Rep K O H₀ A2 H2 σ2 ρ2/\Frm O A H1 A2 H2/\zfn g gb Dd (ds.drop i) ρ2,⟨ds.length,rfl,QO _,A,ρ,r1,.refl,by simpa using go⟩,?_⟩
 rintro i m σ2 H2 ⟨rfl,hi,A2,ρ2,r2,f2,go2⟩
 have kB:∀ a o,B a->H1 a=some o->H2 a=some o:=λa o b e=>(f2 a o e (uB a b)).1
 have ts:TupStay H1 H2:=r1.tupStay f2
 by_cases hlt:i<ds.length
 ·right
  have hd:ds[i]? = some ds[i]:=Qk hlt
  rw[Jd hlt] at go2
  obtain⟨fl,go2⟩:=go2
  obtain⟨hgo,hy⟩:=W.item H2 i ds[i] kB ts hd (.inl fl)
  refine⟨hgo,λσ' H'=>∃ A' ρ',Rep K O H₀ A' H' σ' ρ'/\Frm O A H1 A' H'/\zfn g gb Dd (ds.drop (i+1)) ρ',λσ' H' ⟨A',ρ',x1,x2,x3⟩=>⟨ds.length - (i+1),by omega,rfl,hlt,A',ρ',x1,x2,x3⟩,λx H3 y=>?_⟩
  obtain⟨sm,ix⟩:=hy x H3 y
  have st3:Stp O H2 H3 := .same r2.ok sm
  have r3:=r2.stp st3
  refine hg H₀ A2 σ2 H3 ρ2 x ds[i] _ _ r3 fl (Is.flat (TupStay.refl H3) ix fl) go2 λA3 σ3 ρ3 r3' f3 q3=>?_
  have f13:Frm O A H1 A3 H3:=(f2.trans (.stp st3)).trans f3
  refine hb H₀ A3 σ3 H3 ρ3 _ _ r3' q3 ⟨λA' σ' H' ρ' r' f' q'=>⟨A',ρ',r',f13.trans f',q'⟩,λA' σ' H' ρ' r' f' q'=>P.nx A' σ' H' ρ' r' (f1.trans (f13.trans f')) q',λA' σ' H' ρ' r' f' q'=>⟨A',ρ',r',f13.trans f',q'⟩,P.rt⟩
 ·left
  have e:i=ds.length:=by omega
  subst e
  rw[JT] at go2
  exact⟨W.stop H2 _ kB ts (Qt _),P.nx A2 σ2 H2 ρ2 r2 (f1.trans f2) go2⟩
end
def spO(K:Qa)(φ:Ob->Prop)(n:Nat)(f:List PyData->(R->Prop)->Prop):Sp:=λvs H Q _ =>
 ∃ (O:Ob) (ds:List PyData) (Qr:R->Prop),O.Ok/\φ O/\O.P H/\ds.length=n/\IsAll K (unM O) H vs ds/\f ds Qr/\∀ r,Qr r->∀ v H',Stp O H H'->Out K O H H' v r->Q v H'
def spD(K:Qa)(φ:Ob->Prop)(n:Nat)(f:List PyData->(R->Prop)->Prop):Sp:=λvs H Q _ =>
 ∃ (O:Ob) (ds:List PyData) (ws:List V) (Qr:R->Prop),O.Ok/\φ O/\O.P H/\ds.length=n/\vs=O.v::ws/\IsAll K (unM O) H ws ds/\f ds Qr/\∀ r,Qr r->∀ v H',Stp O H H'->Out K O H H' v r->Q v H'
def zer(N:List Str)(rs:List DV):DSt:=rs.map some++Qm (N.length - rs.length) none
section
variable {K : Qa} {O : Ob}
theorem zh3{N:List Str}{H:Hp}{vs:List V}{rs:List DV}(ok:O.Ok)(p:O.P H)(hl:vs.length=rs.length)(h:∀ (i:Nat) r,rs[i]? = some r->∃ v,vs[i]? = some v/\((∃ d,r = .im d/\Is K (unM O) H v d)\/(r = .ob/\v=O.v))) :
 Rep K O H (λ_ _=>False) H (L2.start N vs) (zer N rs):=by
 refine⟨ok,p,p,.refl _ _,λ_ _ _ z=>z.elim,λ_ _ z=>z.elim,λi r e=>?_,?_⟩
 ·unfold zer at e
  by_cases hi:i<rs.length
  ·rw[Zp (by simpa using hi),Q4] at e
   cases q:rs[i]? with
   | none=>rw[q] at e;cases e
   | some r' =>
     rw[q] at e
     have e':r'=r:=Zy (Zy e)
     subst e'
     obtain⟨v,hv,hh⟩:=h i r' q
     refine⟨v,?_,?_⟩
     ·unfold L2.start
      rw[Zp (by rw[Qe,hl];exact hi),Q4,hv]
      rfl
     ·rcases hh with ⟨d,rfl,hd⟩|⟨rfl,hd⟩
      ·exact hd.weak λa u=>⟨u,λj z=>z⟩
      ·exact hd
  ·rw[ZF (by simpa using hi),ZD] at e
   split at e <;> cases e
 ·unfold zer L2.start
  rw[Qf,Qf,Qe,Qe,Zv,Zv,hl]
theorem ybd{N:List Str}{t:TS}{g:DS}{H:Hp}{vs:List V}{ds:List PyData}{Q:VK}{Qr:R->Prop}(h:SD K O t g)(ok:O.Ok)(p:O.P H)(ia:IsAll K (unM O) H vs ds)
 (hg:g { nx:=λ_=>Qr (.o .none),rt:=Qr } (zer N (ds.map .im))) (hQ:∀ r,Qr r->∀ v H',Stp O H H'->Out K O H H' v r->Q v H'):t { nx:=λ_ H'=>Q .non H',rt:=Q } (L2.start N vs) H:=by
 refine h H _ _ H _ _ _ (zh3 ok p (by rw[Qe];exact ia.length) λi r e=>?_) hg ⟨λA' σ' H' ρ' r' _ q=>hQ _ q .non H' r'.st Is.none,λA' σ' H' ρ' r' _ q=>q.elim,λA' σ' H' ρ' r' _ q=>q.elim,λH' v r s o q=>hQ r q v H' s o⟩
 rw[Q4] at e
 obtain⟨d,hd,rfl⟩:=QV.mp e
 obtain⟨v,hv,iv⟩:=ia.get hd
 exact⟨v,hv,.inl ⟨d,rfl,iv⟩⟩
theorem yba{N:List Str}{t:TS}{g:DS}{H:Hp}{ws:List V}{ds:List PyData}{Q:VK}{Qr:R->Prop}(h:SD K O t g)(ok:O.Ok)(p:O.P H)(ia:IsAll K (unM O) H ws ds)
 (hg:g { nx:=λ_=>Qr (.o .none),rt:=Qr } (zer N (.ob::ds.map .im))) (hQ:∀ r,Qr r->∀ v H',Stp O H H'->Out K O H H' v r->Q v H'):t { nx:=λ_ H'=>Q .non H',rt:=Q } (L2.start N (O.v::ws)) H:=by
 refine h H _ _ H _ _ _ (zh3 ok p (by rw[Qy,Qy,Qe,ia.length]) λi r e=>?_) hg ⟨λA' σ' H' ρ' r' _ q=>hQ _ q .non H' r'.st Is.none,λA' σ' H' ρ' r' _ q=>q.elim,λA' σ' H' ρ' r' _ q=>q.elim,λH' v r s o q=>hQ r q v H' s o⟩
 cases i with
 | zero=>cases e;exact⟨O.v,rfl,.inr ⟨rfl,rfl⟩⟩
 | succ i =>
   rw[J4,Q4] at e
   obtain⟨d,hd,rfl⟩:=QV.mp e
   obtain⟨v,hv,iv⟩:=ia.get hd
   exact⟨v,by rw[J4];exact hv,.inl ⟨d,rfl,iv⟩⟩
def calD(n:Nat)(f:List PyData->(R->Prop)->Prop)(g:DA):DE:=λρ Q=>g ρ λds=>ds.length=n/\f ds Q
theorem z4s{φ:Ob->Prop}{n:Nat}{f:List PyData->(R->Prop)->Prop}{E:XK}{t:TA}{g:DA}(hφ:φ O)(h:AD K O t g):ED K O (zd6 (spO K φ n f) [] E t) (calD n f g):=λσ H ρ Q Qd S q k=>by
 refine h σ H ρ _ _ S q λvs H1 ds s1 is ⟨hn,q1⟩=>?_
 rw[QU]
 exact⟨O,ds,Qd,S.ok,hφ,s1.p S.p,hn,is,q1,λr qr v H' s2 o2=>k v H' r (s1.trans s2) (o2.ahead S.ok S.p s1) qr⟩
def calO(i:Nat)(n:Nat)(f:List PyData->(R->Prop)->Prop)(g:DA):DE:=λρ Q=>ρ[i]? = some (some .ob)/\g ρ λds=>ds.length=n/\f ds Q
theorem zyr{φ:Ob->Prop}{i n:Nat}{f:List PyData->(R->Prop)->Prop}{E:XK}{t:TA}{g:DA}(hφ:φ O)(h:AD K O t g):ED K O (zd6 (spD K φ n f) [] E (zbb (tVar i) t)) (calO i n f g):=λσ H ρ Q Qd S q k=>by
 obtain⟨e,q⟩:=q
 obtain⟨v,hv,hh⟩:=S.at_ i _ e
 refine⟨v,hv,?_⟩
 refine h σ H ρ _ _ S q λvs H1 ds s1 is ⟨hn,q1⟩=>?_
 show spD K φ n f ((v::vs) ++ []) H1 Q E
 rw[QU]
 exact⟨O,ds,vs,Qd,S.ok,hφ,s1.p S.p,hn,by rw[show v=O.v from hh],is,q1,λr qr v H' s2 o2=>k v H' r (s1.trans s2) (o2.ahead S.ok S.p s1) qr⟩
theorem z3q{φ:Ob->Prop}{n:Nat}{f:List PyData->(R->Prop)->Prop}{ps:List Str}(hn:ps.length=n):∀ vs H Q E,spO K φ n f vs H Q E->vs.length=ps.length:=λvs H Q E zz=>by obtain⟨O,ds,_,_,_,_,h,is,_⟩:=zz;rw[is.length,h,hn]
theorem zqi{φ:Ob->Prop}{n:Nat}{f:List PyData->(R->Prop)->Prop}{ps:List Str}(hn:ps.length=n+1):∀ vs H Q E,spD K φ n f vs H Q E->vs.length=ps.length:=λvs H Q E zz=>by obtain⟨O,ds,ws,_,_,_,_,h,e,is,_⟩:=zz;rw[e,Qy,is.length,h,hn]
end
section
variable {X : Cx}
def rEqD(K:Qa)(neg:Bool):R2:=λx y H Q=>∃ F G d e,Is K F H x d/\Is K G H y e/\d.canLay0=true/\e.canLay0=true/\d.depth<=60/\Q (.bl (if neg then !PyData.eqv d e else QP d e)) H
theorem z6j(hu:X.A.units+64<cLine):OpR X (compareOp .Eq) (rEqD X.K false):=by
 intro pins s σ H x y v u Q I rx ry h
 obtain⟨F,G,d,e,i1,i2,h1,h2,h3,q⟩:=h
 obtain⟨as,ra⟩:=i1.reads I rx
 obtain⟨bs,rb⟩:=i2.reads I ry
 exact SeqAt.compareEq_reads ra rb h1 h2 (by omega) ⟨.bl _,H,I,rfl,q⟩
theorem z7b(hu:X.A.units+64<cLine):OpR X (compareOp .NotEq) (rEqD X.K true):=by
 intro pins s σ H x y v u Q I rx ry h
 obtain⟨F,G,d,e,i1,i2,h1,h2,h3,q⟩:=h
 obtain⟨as,ra⟩:=i1.reads I rx
 obtain⟨bs,rb⟩:=i2.reads I ry
 exact SeqAt.compareNe_reads ra rb h1 h2 (by omega) ⟨.bl _,H,I,rfl,q⟩
def rInD(K:Qa)(neg:Bool):R2:=λx y H Q=>∃ F G d es,Is K F H x d/\(Is K G H y (.list es)\/Is K G H y (.tuple es))/\d.canLay0=true/\ZC es=true/\d.depth<=60 /\
 Q (.bl (if neg then !es.any (λy=>QP y d) else es.any λy=>QP y d)) H
theorem z9j(hu:X.A.units+64<cLine):OpR X (compareOp .In) (rInD X.K false):=by
 intro pins s σ H x y v u Q I rx ry h
 obtain⟨F,G,d,es,i1,i2,h1,h2,h3,q⟩:=h
 obtain⟨as,ra⟩:=i1.reads I rx
 rcases i2 with i2|i2
 ·obtain⟨bs,rb⟩:=i2.reads I ry
  exact SeqAt.in_list_reads rb ra h2 h1 (by omega) ⟨.bl _,H,I,rfl,q⟩
 ·obtain⟨bs,rb⟩:=i2.reads I ry
  exact SeqAt.in_tuple_reads rb ra h2 h1 (by omega) ⟨.bl _,H,I,rfl,q⟩
theorem zud(hu:X.A.units+64<cLine):OpR X (compareOp .NotIn) (rInD X.K true):=by
 intro pins s σ H x y v u Q I rx ry h
 obtain⟨F,G,d,es,i1,i2,h1,h2,h3,q⟩:=h
 obtain⟨as,ra⟩:=i1.reads I rx
 rcases i2 with i2|i2
 ·obtain⟨bs,rb⟩:=i2.reads I ry
  exact SeqAt.notIn_list_reads rb ra h2 h1 (by omega) ⟨.bl _,H,I,rfl,q⟩
 ·obtain⟨bs,rb⟩:=i2.reads I ry
  exact SeqAt.notIn_tuple_reads rb ra h2 h1 (by omega) ⟨.bl _,H,I,rfl,q⟩
theorem zrm:∀ {bs:List Bool} {us:List Value},Vals (bs.map V.bl) us->us=bs.map ZE
 | [],_,r=>by cases r;rfl
 | b::bs,_,r=>by
   rw[Q3] at r
   cases r with
   | cons h t=>rw[zrm t,show _=ZE b from h];rfl
theorem zv5{bs:List Bool}:(Yl bs.length).all (λi=>bs[i]?.getD false)=bs.all id:=by
 apply JD.mpr
 rw[QK,QK]
 constructor
 ·intro h x hx
  obtain⟨i,hi,e⟩:=YG.mp hx
  have:=h i (by simpa using hi)
  rw[Qk hi] at this
  rw[<- e];simpa using this
 ·intro h i hi
  have hi':i<bs.length:=by simpa using hi
  rw[Qk hi']
  simpa using h _ (QQ hi')
def rAll(any:Bool):List V->Hp->VK->Prop:=λxs H Q=>∃ (p:Addr) (bs:List Bool),xs = [.ref p]/\H p=some (.lst (bs.map V.bl))/\Q (.bl (if any then bs.any id else bs.all id)) H
theorem zvf(hc:X.calm=true):CallR X (.builtin "all") (rAll false):=by
 intro pins s σ H xs us Q I r h
 obtain⟨p,bs,rfl,hH,q⟩:=h
 obtain⟨u,rfl,ru⟩:=Vals.one r
 cases ru
 obtain⟨z,its,n,rv,hl,e⟩:=I.lstM hH
 have ei:=zrm rv
 subst ei
 have pl:s.heap.IsList p (bs.map ZE).toArray:=⟨_,e,rfl,_,rfl⟩
 have hne:p ≠ s.heap.objs.size:=Q9 (Qn e)
 refine call_all_walk (wpAny_pyIter_list pl ?_)
 refine⟨s.heap.objs.size,_,_,_,_,_,λi=>bs[i]?.getD false,rfl,qw (A:=X.A.in1) (I.ok.hd hc) _ p hne (bs.map ZE).toArray,⟨⟨_,Qq _ rfl,rfl,rfl⟩,_,Qb _ e,rfl,_,rfl⟩,?_,λh' tk kk=>?_⟩
 ·intro i v s' Q' E' hv hq
  have hv:(bs.map ZE).toArray[i]? = some v:=hv
  rw[Y5,Q4] at hv
  obtain⟨b,hb,rfl⟩:=QV.mp hv
  have hq:Q' (bs[i]?.getD false) s':=hq
  rw[hb] at hq
  exact wpAny_truthy_bool hq
 ·have I1:Inv X pins σ H { s with heap:=h',toks:=tk }:=I.kept λb o eb=>kk b o (by simp;exact Q9 (Qn eb)) (Qb _ eb)
  refine⟨.bl _,H,I1,?_,q⟩
  show ZE _=ZE _
  rw[Qs,Qe,zv5]
  rfl
theorem zhp:∀ {ys:List Str} {us:List Value},Vals (ys.map V.str) us->StrsAre us ys
 | [],_,r=>by cases r;exact .nil
 | y::ys,_,r=>by
   rw[Q3] at r
   cases r with
   | cons h t=>obtain⟨tk,rfl⟩:=h;exact .cons y tk (zhp t)
theorem zf6:∀ {ys:List Str} {us:List Value},StrsAre us ys->Vals (ys.map V.str) us
 | _,_,.nil => .nil
 | _,_,.cons y t r => .cons ⟨t,rfl⟩ (zf6 r)
def zno:V->List V->Hp->VK->Prop:=λx vs H Q=>∃ sep p ys,x = .str sep/\vs = [.ref p]/\H p=some (.lst (ys.map V.str))/\(ys.map (·.length)).sum+ys.length * sep.length<=16777216/\Q (.str (Yw sep ys)) H
theorem z5z:MtM X "str.join" zno:=by
 intro pins s σ H x vs v us Q I rx rv h
 obtain⟨sep,p,ys,rfl,rfl,hH,hz,q⟩:=h
 obtain⟨t,rfl⟩:=rx
 obtain⟨u,rfl,ru⟩:=rv.one
 cases ru
 obtain⟨z,its,n,r,hl,e⟩:=I.lstM hH
 exact join_list ⟨_,e,rfl,_,rfl⟩ (by simpa using zhp r) hz λt' k=>⟨.str _,H,I.tok _,⟨_,rfl⟩,q⟩
theorem ztb{P:Nat->Value->Prop}{acc:Array Value}{ys:List V}(h:ItemsOf P acc ys.length)(hv:∀ i v,P i v->∃ y,ys[i]? = some y/\RelV y v):Vals ys acc.toList:=by
 have go:∀ (k:Nat) (zs:List V) (l:List Value),zs.length=l.length->(∀ (i:Nat) v,l[i]? = some v->∃ y,zs[i]? = some y/\RelV y v)->Vals zs l:=by
  intro k zs l
  induction l generalizing zs with
  | nil=>intro e _;cases zs with
    | nil=>exact .nil
    | cons _ _=>simp at e
  | cons a l ih=>intro e hh;cases zs with
    | nil=>simp at e
    | cons z zs =>
      obtain⟨y,h1,h2⟩:=hh 0 a rfl
      simp at h1
      subst h1
      exact .cons h2 (ih zs (by simpa using e) λi v ev=>by simpa using hh (i+1) v (by simpa using ev))
 refine go 0 ys acc.toList (by have e:=h.1;simp[e]) λi v e=>hv i v (h.2 i v (by simpa using e))
def zu6:List V->Hp->VK->Prop:=λxs H Q=>∃ x:Str,xs = [.str x]/\x.cps.size<=sizeLine/\∀ l,H l=none->Q (.ref l) (upd H l (.lst (x.cps.toList.map λc=>V.str (sg c))))
theorem zsb(hc:X.calm=true):CallR X (.type "list") zu6:=by
 intro pins s σ H xs us Q I r h
 obtain⟨x,rfl,hz,q⟩:=h
 obtain⟨u,rfl,ru⟩:=Vals.one r
 obtain⟨t,rfl⟩:=ru
 refine call_list_str (I.ok.hd hc) x t (λh' tk acc c kk e it=>?_) hz
 refine⟨.ref _,_,I.laid (a:=s.heap.objs.size) (o := .lst (x.cps.toList.map λc=>V.str (sg c))) kk (Qt _) ?_,rfl,q _ I.fresh⟩
 refine⟨by simpa using hz,acc.toList,c,ztb (P:=SignAt x) (by simpa using it) λi v hv=>?_,by simpa using e⟩
 obtain⟨cc,uu,h1,rfl⟩:=hv
 exact⟨.str (sg cc),by rw[Q4];simp[h1],⟨uu,rfl⟩⟩
end
def tx(l:List Nat):Str:=⟨l.toArray⟩
theorem zow(x:Str):tx x.cps.toList=x:=by cases x;simp[tx]
theorem zbd(l:List Nat):(tx l).cps.toList=l:=by simp[tx]
theorem zwd(l:List Nat):(tx l).length=l.length:=by simp[tx,ja]
def cutL{α:Type}(xs:List α)(lo hi:Option Int):List α:=(xs.drop (HT.sIx xs.length 0 lo)).take (HT.sIx xs.length xs.length hi - HT.sIx xs.length 0 lo)
theorem zeb(n d:Nat)(v:Int):max (0:Int) (min (if v<0 then v+n else v) n)=((HT.sIx n d (some v):Nat):Int):=by
 rw[<- HT.clip_eq v n d]
 by_cases h:v<0
 ·rw[if_pos h,if_pos h];omega
 ·rw[if_neg h,if_neg h];omega
theorem zp4(lo hi:Option Int)(n:Nat):YS lo hi 1 n=(Yl (HT.sIx n n hi - HT.sIx n 0 lo)).map λk=>HT.sIx n 0 lo+k:=by
 have e1:(match lo with|none=>(0:Int)|some i=>max 0 (min (if i<0 then i+(n:Int) else i) n))=((HT.sIx n 0 lo:Nat):Int):=by
  cases lo with
  | none=>rfl
  | some v=>exact zeb n 0 v
 have e2:(match hi with|none=>(n:Int)|some i=>max 0 (min (if i<0 then i+(n:Int) else i) n))=((HT.sIx n n hi:Nat):Int):=by
  cases hi with
  | none=>rfl
  | some v=>exact zeb n n v
 have e0:YS lo hi 1 n=sliceRange ((HT.sIx n 0 lo:Nat):Int) ((HT.sIx n n hi:Nat):Int) 1:=by
  rw[<- e1,<- e2]
  cases lo <;> cases hi <;> rfl
 rw[e0]
 generalize HT.sIx n 0 lo=a
 generalize HT.sIx n n hi=b
 simp only[sliceRange,show((1:Int) > 0)=True from by simp,if_true]
 by_cases hlt:(a:Int)<b
 ·have e3:(((b:Int) - a+1 - 1) / 1).toNat=b - a:=by first|omega|(simp;done)|(simp;omega)
  simp only[hlt,if_true,e3]
  refine Ji λk _=>?_
  omega
 ·have:b - a=0:=by omega
  simp[hlt,this]
theorem zwb{α:Type}(l:List α):∀ (n a:Nat),a+n<=l.length->((Yl n).map λk=>a+k).filterMap (λi=>l[i]?)=(l.drop a).take n
 | 0,_,_=>by simp
 | n+1,a,h=>by
   have hlt:a+n<l.length:=by omega
   rw[List.range_succ,QA,List.filterMap_append,zwb l n a (by omega),List.take_add_one,Jm]
   simp[Qk hlt]
section
variable {X : Cx}
def rSlS:V->Option Int->Option Int->Hp->VK->Prop:=λx lo hi H Q=>∃ z:Str,x = .str z/\z.length<=sizeLine/\Q (.str (tx (cutL z.cps.toList lo hi))) H
theorem z9o:SlR X rSlS:=by
 intro pins s σ H x v vl vu lo hi sl Q I rx hs pl pu h
 obtain⟨z,rfl,hz,q⟩:=h
 obtain⟨t,rfl⟩:=rx
 refine⟨"str", _,PySem.F.slot_str_getitem.lookup,typeIs_str s z t,?_⟩
 have hl:z.cps.toList.length=z.length:=by simp[ja]
 have hi':HT.sIx z.length z.length hi<=z.length:=HT.sIx_le _ _ (Qt _) hi
 have key:∀ l u:Option (Int × Tok),l.map (·.1)=lo->u.map (·.1)=hi->s.heap.IsSlice sl l u none->wpAny (model X.prog X.w) X.A (getItem (.str z t) (.ref sl)) (EP X pins σ Q) X.xe s:=by
  intro l u el eu hsl
  have e:slicePicked z l u none=(Yl (HT.sIx z.length z.length hi - HT.sIx z.length 0 lo)).map λk=>HT.sIx z.length 0 lo+k:=by
   unfold slicePicked
   rw[el,eu]
   exact zp4 lo hi z.length
  have ec:tx (cutL z.cps.toList lo hi)=⟨((slicePicked z l u none).filterMap (z.cps[·]?)).toArray⟩:=by
   rw[e]
   unfold cutL tx
   rw[hl]
   by_cases hij:HT.sIx z.length 0 lo<=HT.sIx z.length z.length hi
   ·have p:=zwb z.cps.toList (HT.sIx z.length z.length hi - HT.sIx z.length 0 lo) (HT.sIx z.length 0 lo) (by rw[hl];omega)
    rw[<- p]
    simp
   ·have:HT.sIx z.length z.length hi - HT.sIx z.length 0 lo=0:=by omega
    rw[this]
    simp
  refine wpAny_getItem_str_slice hsl rfl ?_
  unfold sliceMade
  split
  ·rename_i hc
   have hw:(slicePicked z l u none).length=z.length:=by simpa using hc
   have ex:tx (cutL z.cps.toList lo hi)=z:=by
    rw[e,Qe,Yx] at hw
    unfold cutL
    rw[hl]
    have h0:HT.sIx z.length 0 lo=0\/z.length=0:=by omega
    rcases h0 with h0|h0
    ·rw[h0] at hw ⊢
     rw[jV,jH (by rw[hl];omega)]
     exact zow z
    ·have hn:z.cps.toList = []:=Jg (by rw[hl];exact h0)
     rw[hn]
     simp only[List.drop_nil,zx]
     rw[<- hn]
     exact zow z
   exact⟨.str _,H,I,⟨t,by rw[ex]⟩,q⟩
  ·rw[<- ec]
   have hlen:(tx (cutL z.cps.toList lo hi)).length<=sizeLine:=by
    rw[zwd]
    unfold cutL
    rw[ZJ,Z1,hl]
    omega
   first
    | exact⟨.str _,H,I.tok _,⟨_,rfl⟩,q⟩
    | exact⟨hlen,.str _,H,I.tok _,⟨_,rfl⟩,q⟩
    | exact λ_=>⟨.str _,H,I.tok _,⟨_,rfl⟩,q⟩
 obtain⟨o,ho,hc,hd⟩:=hs
 cases pl with
 | none=>cases pu with
   | none=>exact key none none rfl rfl ⟨o,ho,hc,hd⟩
   | int j t'=>exact key none (some (j,t')) rfl rfl ⟨o,ho,hc,hd⟩
 | int i ti=>cases pu with
   | none=>exact key (some (i,ti)) none rfl rfl ⟨o,ho,hc,hd⟩
   | int j t'=>exact key (some (i,ti)) (some (j,t')) rfl rfl ⟨o,ho,hc,hd⟩
def zzp(K:Qa):V->Option Int->Option Int->Hp->VK->Prop:=λx lo hi H Q=>∃ a xs,x = .ref a/\SqT K H a xs/\(HT.sIx xs.length 0 lo=0/\HT.sIx xs.length xs.length hi=xs.length)/\Q (.ref a) H
theorem zh2{prog:Program}{w:World}{A:Around}{E:Value->Shared->Prop}{s:Shared}{t sl:Addr}{items:Array Value}{vl vu:Value}{lo hi:Option Int}{Q:Value->Shared->Prop}(ht:IsTup s.heap t items)(hs:s.heap.IsSliceOf sl vl vu .none)(pl:IsPart vl lo)(pu:IsPart vu hi)
 (hw:HT.sIx items.size 0 lo=0/\HT.sIx items.size items.size hi=items.size) (h:Q (.ref t) s):wpAny (model prog w) A (getItem (.ref t) (.ref sl)) Q E s:=by
 obtain⟨os,hos,hcs,hds⟩:=id hs
 have hTs:s.TypeIs (.ref sl) "slice" := ⟨os,hos,hcs⟩
 unfold getItem
 try with_reducible refine wpAny_holding ?_
 first|refine wpAny_bind (wpAny_pure ?_)|skip
 refine wpAny_bind (wpAny_sequenceKey ht.typeIs (by decide) ?_)
 refine wpAny_bind (wpAny_callSpecial?_slot (name:=Qi "__getitem__") ht.typeIs Zu
  (wpAny_call_entry Zu ht.typeIs entry_tuple_getitem ?_ (args_tuple_getitem _ _)))
 show wpAny _ _ (YZ (.ref t) >>= _) _ _ s
 refine wpAny_bind (tupleItemsOf_ ht ?_)
 refine wpAny_bind (wpAny_typeOf hTs ?_)
 rw[if_pos (by decide)]
 refine wpAny_bind (HT.sliceApplied_gen hs pl pu ?_)
 have hno:(((HT.sIx items.size 0 lo:Nat):Int) == 0 && (1:Int) == 1 && (HT.sIx items.size items.size hi - HT.sIx items.size 0 lo) == items.size)=true:=by
  rw[hw.1,hw.2]
  simp
 show wpAny _ _ (if(((HT.sIx items.size 0 lo:Nat):Int) == 0 && (1:Int) == 1 && (HT.sIx items.size items.size hi - HT.sIx items.size 0 lo) == items.size)=true then _ else _) _ _ s
 rw[if_pos hno]
 obtain⟨o,ho,hc,n,hd⟩:=id ht
 refine wpAny_bind ?_
 unfold Builtin.Tuple.tupleIsExact
 refine wpAny_bind (wpAny_typeOf ht.typeIs (wpAny_pure ?_))
 show wpAny _ _ (if((J9 "tuple") == (J9 "tuple"))=true then _ else _) _ _ s
 rw[if_pos (by decide)]
 exact wpAny_bind (wpAny_rule (wpAny_pure ⟨_,rfl,wpAny_pure h⟩))
theorem sl_tupW:SlR X (zzp X.K):=by
 intro pins s σ H x v vl vu lo hi sl Q I rx hs pl pu h
 obtain⟨a,xs,rfl,hx,hw,q⟩:=h
 cases rx
 obtain⟨its,r,ht,hz⟩:=I.tuple hx
 have hlen:its.toArray.size=xs.length:=by rw[Qs];exact r.length.symm
 exact⟨"tuple", _,Zu.lookup,ht.typeIs,zh2 ht hs pl pu (by rw[hlen];exact hw) ⟨.ref a,H,I,rfl,q⟩⟩
def rSl(K:Qa):V->Option Int->Option Int->Hp->VK->Prop:=λx lo hi H Q=>rSlL K x lo hi H Q\/rSlT K x lo hi H Q\/zzp K x lo hi H Q\/rSlS x lo hi H Q
theorem z8v:SlR X (rSl X.K):=sl_list.or (sl_tup.or (sl_tupW.or z9o))
def zw1(K:Qa):R2:=λx y H Q=>∃ a b ys,x = .ref a/\y = .ref b/\SqT K H a []/\SqT K H b ys/\Q (.ref b) H
theorem zya:OpR X (binaryOp .Add) (zw1 X.K):=by
 intro pins s σ H x y v u Q I rx ry h
 obtain⟨a,b,ys,rfl,rfl,ha,hb,q⟩:=h
 cases rx
 cases ry
 obtain⟨its,r1,p1,_⟩:=I.tuple ha
 obtain⟨its2,r2,p2,_⟩:=I.tuple hb
 cases r1
 obtain⟨⟨cls,dd,data,sl⟩,ho,hc,n,hd⟩:=id p1
 obtain⟨⟨cls2,dd2,data2,sl2⟩,ho2,hc2,n2,hd2⟩:=id p2
 simp only at hc hd hc2 hd2
 subst hc hd hc2 hd2
 exact concat_meets ⟨_,ho,rfl⟩ ⟨_,ho2,rfl⟩ noFill_tuple_add seq_tuple_add Yt Yo (Yg _ _)
  (tuple_addW0 a b _ its2.toArray n n2 dd dd2 sl sl2 (by simp)) ⟨ho,ho2,⟨.ref b,H,I,rfl,q⟩⟩
end
section
variable {K : Qa} {O : Ob} {F : Addr → Prop} {H : Hp}
theorem zdu:∀ {vs:List V} {ys:List Str},IsAll K F H vs (ys.map .str)->vs=ys.map V.str
 | _,[],h=>by cases h;rfl
 | _,y::ys,h=>by
   rw[Q3] at h
   cases h with
   | cons h1 h2=>cases h1;rw[zdu h2];rfl
theorem zjg:∀ {vs:List V} {bs:List Bool},IsAll K F H vs (bs.map .bool)->vs=bs.map V.bl
 | _,[],h=>by cases h;rfl
 | _,y::ys,h=>by
   rw[Q3] at h
   cases h with
   | cons h1 h2=>cases h1;rw[zjg h2];rfl
theorem zfo:∀ (ys:List Str),IsAll K F H (ys.map V.str) (ys.map .str)
 | [] => .nil
 | y::ys => .cons (.str y) (zfo ys)
theorem zmk{vs:List V}{ds:List PyData}{i:Int}{d:PyData}(h:IsAll K F H vs ds)(e:atI ds i=some d):∃ v,atI vs i=some v/\Is K F H v d:=by
 unfold atI at e ⊢
 rw[h.length]
 cases q:ixN ds.length i with
 | none=>rw[q] at e;cases e
 | some j =>
   rw[q] at e
   obtain⟨v,hv,iv⟩:=h.get (i:=j) e
   exact⟨v,hv,iv⟩
theorem zit{vs:List V}{ds:List PyData}(h:IsAll K F H vs ds)(lo hi:Option Int):IsAll K F H (cutV vs lo hi) (cutL ds lo hi):=by
 unfold cutV cutL
 rw[h.length]
 exact(h.drop _).take _
theorem zdn{H:Hp}{p:Addr}{vs:List V}{ds:List PyData}(ok:O.Ok)(hp:H p=none)(h:IsAll K (unM O) H vs ds):Stp O H (upd H p (.lst vs))/\Out K O H (upd H p (.lst vs)) (.ref p) (.n ds):=by
 have s:Stp O H (upd H p (.lst vs)) := .new ok hp _
 exact⟨s,p,vs,rfl,hp,zap,h.stp s (λ_ z=>z) (λ_ z=>z)⟩
theorem zi7{H:Hp}{p:Addr}{vs:List V}{ds:List PyData}(ok:O.Ok)(hp:H p=none)(h:IsAll K (unM O) H vs ds):Stp O H (upd H p (.tup vs))/\Out K O H (upd H p (.tup vs)) (.ref p) (.o (.tuple ds)):=by
 have s:Stp O H (upd H p (.tup vs)) := .new ok hp _
 exact⟨s,Is.tuple (.of zap) (h.stp s (λ_ z=>z) (λ_ z=>z))⟩
def okD(d:PyData):Bool:=d.canLay0 && decide (d.depth<=60)
def eqF(neg:Bool):PyData->PyData->Option R:=λd e=>if(okD d && e.canLay0)=true then some (.o (.bool (if neg then !PyData.eqv d e else QP d e))) else none
theorem zkr(neg:Bool):OpD K O (rEqD K neg) (fn2 (eqF neg)):=λH x y d e Q Qd ok p ix iy ⟨r,hr,q⟩ k=>by
 unfold eqF at hr
 split at hr
 ·rename_i hc
  cases hr
  simp only[Qp,okD,decide_eq_true_eq] at hc
  exact⟨_,_,d,e,ix,iy,hc.1.1,hc.2,hc.1.2,k _ H (.o _) (.refl _ _) (Is.bool _) q⟩
 ·cases hr
def inF(neg:Bool):PyData->PyData->Option R:=λd e=>match d,e with
 | .str x,.str y=>some (.o (.bool (if neg then !(!(QM y x 0 y.length 1).isEmpty) else !(QM y x 0 y.length 1).isEmpty)))
 | d,.list es=>if(okD d && ZC es)=true then some (.o (.bool (if neg then !es.any (λy=>QP y d) else es.any λy=>QP y d))) else none
 | d,.tuple es=>if(okD d && ZC es)=true then some (.o (.bool (if neg then !es.any (λy=>QP y d) else es.any λy=>QP y d))) else none
 | _,_=>none
def rInU(K:Qa):R2:=λx y H Q=>(∃ i j,x = .str i/\y = .str j/\Q (.bl (!(QM j i 0 j.length 1).isEmpty)) H)\/rInD K false x y H Q
def zl6(K:Qa):R2:=λx y H Q=>(∃ i j,x = .str i/\y = .str j/\Q (.bl (!(!(QM j i 0 j.length 1).isEmpty))) H)\/rInD K true x y H Q
theorem z7g{X:Cx}(hu:X.A.units+64<cLine):OpR X (compareOp .In) (rInU X.K):=op_in_str.or (z9j hu)
theorem zwz{X:Cx}(hu:X.A.units+64<cLine):OpR X (compareOp .NotIn) (zl6 X.K):=op_notin_str.or (zud hu)
theorem zrs{neg:Bool}{H:Hp}{x y:V}{d e:PyData}{Q:VK}{Qd:R->Prop}(ix:Is K (unM O) H x d)(iy:Is K (unM O) H y e)(q:fn2 (inF neg) d e Qd)(k:∀ v H' r,Stp O H H'->Out K O H H' v r->Qd r->Q v H') :
 (∃ i j,x = .str i/\y = .str j/\Q (.bl (if neg then !(!(QM j i 0 j.length 1).isEmpty) else !(QM j i 0 j.length 1).isEmpty)) H)\/rInD K neg x y H Q:=by
 obtain⟨r,hr,q⟩:=q
 unfold inF at hr
 split at hr
 ·rename_i a b
  cases ix
  cases iy
  cases hr
  exact .inl ⟨a,b,rfl,rfl,k _ H (.o _) (.refl _ _) (Is.bool _) q⟩
 ·split at hr
  ·rename_i hc
   cases hr
   simp only[Qp,okD,decide_eq_true_eq] at hc
   exact .inr ⟨_,_,_,_,ix,.inl iy,hc.1.1,hc.2,hc.1.2,k _ H (.o _) (.refl _ _) (Is.bool _) q⟩
  ·cases hr
 ·split at hr
  ·rename_i hc
   cases hr
   simp only[Qp,okD,decide_eq_true_eq] at hc
   exact .inr ⟨_,_,_,_,ix,.inr iy,hc.1.1,hc.2,hc.1.2,k _ H (.o _) (.refl _ _) (Is.bool _) q⟩
  ·cases hr
 ·cases hr
theorem zvq:OpD K O (rInU K) (fn2 (inF false)):=λH x y d e Q Qd ok p ix iy q k=>zrs ix iy q k
theorem zun:OpD K O (zl6 K) (fn2 (inF true)):=λH x y d e Q Qd ok p ix iy q k=>zrs (neg:=true) ix iy q k
def intF(g:Int->Int->PyData):PyData->PyData->Option R
 | .int i,.int j=>some (.o (g i j))
 | _,_=>none
theorem zhl{g:Int->Int->V}{G:Int->Int->PyData}(h:∀ i j H,Is K (unM O) H (g i j) (G i j)):OpD K O (rI0 g) (fn2 (intF G)):=λH x y d e Q Qd ok p ix iy ⟨r,hr,q⟩ k=>by
 unfold intF at hr
 split at hr
 ·cases ix
  cases iy
  cases hr
  exact⟨_,_,rfl,rfl,k _ H (.o _) (.refl _ _) (h _ _ H) q⟩
 ·cases hr
theorem z4y:OpD K O (rI0 λi j => .int (i - j)) (fn2 (intF λi j => .int (i - j))):=zhl λ_ _ _ => .int _
theorem zvw:OpD K O (rI0 λi j => .bl (decide (i<j))) (fn2 (intF λi j => .bool (decide (i<j)))):=zhl λ_ _ _ => .bool _
theorem zvh:OpD K O (rI0 λi j => .bl (decide (i<=j))) (fn2 (intF λi j => .bool (decide (i<=j)))):=zhl λ_ _ _ => .bool _
theorem zt1:OpD K O (rI0 λi j => .bl (decide (j<i))) (fn2 (intF λi j => .bool (decide (j<i)))):=zhl λ_ _ _ => .bool _
def isNF(neg:Bool):PyData->PyData->(R->Prop)->Prop:=λd e Q=>e = .none/\Q (.o (.bool (match d with | .none=>!neg|_=>neg)))
theorem Is.non{v:V}{d:PyData}(h:Is K F H v d):decide (v = .non)=(match d with | .none=>true|_=>false):=by cases h <;> rfl
theorem z5y:OpD K O (λx y H Q=>y = .non/\Q (.bl (decide (x = .non))) H) (isNF false):=λH x y d e Q Qd ok p ix iy ⟨e1,q⟩ k=>by
 subst e1
 cases iy
 refine⟨rfl,k _ H (.o _) (.refl _ _) ?_ q⟩
 rw[ix.non]
 cases d <;> exact Is.bool _
theorem zy3:OpD K O (λx y H Q=>y = .non/\Q (.bl (!decide (x = .non))) H) (isNF true):=λH x y d e Q Qd ok p ix iy ⟨e1,q⟩ k=>by
 subst e1
 cases iy
 refine⟨rfl,k _ H (.o _) (.refl _ _) ?_ q⟩
 rw[ix.non]
 cases d <;> exact Is.bool _
def z0d(K:Qa):R2:=λx y H Q=>rI0 (λi j => .int (i+j)) x y H Q\/(∃ i j,x = .str i/\y = .str j/\i.length+j.length<=sizeLine/\Q (.str (i++j)) H)\/rCat x y H Q\/zzl K x y H Q\/zw1 K x y H Q
theorem z2j{X:Cx}:OpR X (binaryOp .Add) (z0d X.K):=op_add.or (op_add_str.or (op_cat.or (op_catT.or zya)))
def addF:PyData->PyData->Option R:=λd e=>match d,e with
 | .int i,.int j=>some (.o (.int (i+j)))
 | .str x,.str y=>if x.length+y.length<=sizeLine then some (.o (.str (x++y))) else none
 | .list a,.list b=>if a.length+b.length<=sizeLine then some (.n (a++b)) else none
 | .tuple a,.tuple b=>if a.length+b.length<=sizeLine then some (.o (.tuple (a++b))) else none
 | _,_=>none
theorem z2s:OpD K O (z0d K) (fn2 addF):=λH x y d e Q Qd ok p ix iy ⟨r,hr,q⟩ k=>by
 unfold addF at hr
 split at hr
 ·cases ix
  cases iy
  cases hr
  exact .inl ⟨_,_,rfl,rfl,k _ H (.o _) (.refl _ _) (Is.int _) q⟩
 ·split at hr
  ·rename_i hz
   cases ix
   cases iy
   cases hr
   exact .inr (.inl ⟨_,_,rfl,rfl,hz,k _ H (.o _) (.refl _ _) (Is.str _) q⟩)
  ·cases hr
 ·split at hr
  ·rename_i hz
   cases hr
   cases ix with
   | list f1 h1 s1 =>
     cases iy with
     | list f2 h2 s2 =>
       refine .inr (.inr (.inl ⟨_,_,_,_,rfl,rfl,h1,h2,by rw[s1.length,s2.length];exact hz,λp' hp=>?_⟩))
       obtain⟨a1,a2⟩:=zdn ok hp (s1.append s2)
       exact k _ _ _ a1 a2 q
  ·cases hr
 ·split at hr
  ·rename_i hz
   cases hr
   cases ix with
   | tuple h1 s1 =>
     cases iy with
     | tuple h2 s2 =>
       rename_i a xs b ys
       cases xs with
       | nil =>
         cases s1
         exact .inr (.inr (.inr (.inr ⟨a,b,ys,rfl,rfl,h1,h2,k _ H (.o _) (.refl _ _) (Is.tuple h2 s2) q⟩)))
       | cons z zs =>
         refine .inr (.inr (.inr (.inl ⟨a,b,_,ys,rfl,rfl,h1,h2,by simp,by rw[s1.length,s2.length];exact hz,λe=>?_,λ_ p' hp=>?_⟩)))
         ·subst e
          cases s2
          rw[QU] at q
          exact k _ H (.o _) (.refl _ _) (Is.tuple h1 s1) q
         ·obtain⟨a1,a2⟩:=zi7 ok hp (s1.append s2)
          exact k _ _ _ a1 a2 q
  ·cases hr
 ·cases hr
def idxF:PyData->PyData->Option R:=λd e=>match d,e with
 | .list ds,.int i=>(atI ds i).map .o
 | .tuple ds,.int i=>(atI ds i).map .o
 | .str x,.int i=>if x.length<=sizeLine then(atI x.cps.toList i).map λc => .o (.str (sg c)) else none
 | _,_=>none
theorem z5i:OpD K O (rIx K) (fn2 idxF):=λH x y d e Q Qd ok p ix iy ⟨r,hr,q⟩ k=>by
 unfold idxF at hr
 split at hr
 ·obtain⟨z,hz,rfl⟩:=QV.mp hr
  cases iy
  cases ix with
  | list f1 h1 s1 =>
    obtain⟨v,hv,iv⟩:=zmk s1 hz
    exact .inl ⟨_,_,_,v,rfl,rfl,.of h1,hv,k v H (.o z) (.refl _ _) iv q⟩
 ·obtain⟨z,hz,rfl⟩:=QV.mp hr
  cases iy
  cases ix with
  | tuple h1 s1 =>
    obtain⟨v,hv,iv⟩:=zmk s1 hz
    exact .inr (.inl ⟨_,_,_,v,rfl,rfl,h1,hv,k v H (.o z) (.refl _ _) iv q⟩)
 ·split at hr
  ·rename_i hl
   obtain⟨c,hc,rfl⟩:=QV.mp hr
   cases iy
   cases ix
   exact .inr (.inr ⟨_,_,c,rfl,rfl,hl,hc,k _ H (.o _) (.refl _ _) (Is.str _) q⟩)
  ·cases hr
 ·cases hr
abbrev DO:=DSt->(Option Int->Prop)->Prop
def OD(K:Qa)(O:Ob)(t:TO)(f:DO):Prop :=
 ∀ (σ:St) (H:Hp) (ρ:DSt) (Q:Option Int->Hp->Prop) (Qd:Option Int->Prop),Seen K O H σ ρ->f ρ Qd->(∀ o H',Stp O H H'->Qd o->Q o H')->t σ H Q
def noO:DO:=λ_ Q=>Q none
def z0o(f:DE):DO:=λρ Q=>f ρ λr=>∃ i,r.d = .int i/\Q (some i)
theorem z5h:OD K O zqo noO:=λσ H ρ Q Qd S h k=>k none H (.refl _ _) h
theorem z6c{t:TE}{f:DE}(h:ED K O t f):OD K O (zzn t) (z0o f):=λσ H ρ Q Qd S hf k=>by
 refine h σ H ρ _ _ S hf λv H1 r s1 o1 ⟨i,e,q⟩=>?_
 have iv:=o1.is S.ok S.p
 rw[e] at iv
 cases iv
 exact⟨i,rfl,k (some i) H1 s1 q⟩
def slcF(lo hi:Option Int):PyData->Option R
 | .list ds=>some (.n (cutL ds lo hi))
 | .tuple ds=>some (.o (.tuple (cutL ds lo hi)))
 | .str x=>if x.length<=sizeLine then some (.o (.str (tx (cutL x.cps.toList lo hi)))) else none
 | _=>none
def slD(f:DE)(a b:DO):DE:=λρ Q=>f ρ λr=>a ρ λlo=>b ρ λhi=>∃ s,slcF lo hi r.d=some s/\Q s
theorem zyy{t:TE}{tl th:TO}{f:DE}{a b:DO}(h:ED K O t f)(ha:OD K O tl a)(hb:OD K O th b):ED K O (tSl (rSl K) t tl th) (slD f a b):=λσ H ρ Q Qd S hf k=>by
 refine h σ H ρ _ _ S hf λv H1 r s1 o1 q1=>?_
 refine ha σ H1 ρ _ _ (S.stp s1) q1 λlo H2 s2 q2=>?_
 refine hb σ H2 ρ _ _ ((S.stp s1).stp s2) q2 λhi H3 s3 ⟨s,hr,q⟩=>?_
 have st:=(s1.trans s2).trans s3
 have iv:Is K (unM O) H3 v r.d:=Is.stp (s2.trans s3) (λ_ z=>z) (λ_ z=>z) (o1.is S.ok S.p)
 revert hr
 generalize r.d=d at iv
 intro hr
 unfold slcF at hr
 split at hr
 ·cases hr
  cases iv with
  | list f1 h1 z1 =>
    refine .inl ⟨_,_,rfl,.of h1,λp hp=>?_⟩
    obtain⟨a1,a2⟩:=zdn S.ok hp (zit z1 lo hi)
    exact k _ _ _ (st.trans a1) (Out.ahead S.ok S.p st a2) q
 ·cases hr
  cases iv with
  | tuple h1 z1 =>
    rename_i a' xs
    by_cases hw:HT.sIx xs.length 0 lo=0/\HT.sIx xs.length xs.length hi=xs.length
    ·refine .inr (.inr (.inl ⟨a',xs,rfl,h1,hw,k _ H3 (.o _) st ?_ q⟩))
     have e:cutV xs lo hi=xs:=by
      unfold cutV
      rw[hw.1,hw.2,jV,Nat.sub_zero,YA]
     have z2:=zit z1 lo hi
     rw[e] at z2
     exact Is.tuple h1 z2
    ·refine .inr (.inl ⟨a',xs,rfl,h1,hw,λp hp=>?_⟩)
     obtain⟨a1,a2⟩:=zi7 S.ok hp (zit z1 lo hi)
     exact k _ _ _ (st.trans a1) (Out.ahead S.ok S.p st a2) q
 ·split at hr
  ·rename_i hl
   cases hr
   cases iv
   exact .inr (.inr (.inr ⟨_,rfl,hl,k _ H3 (.o _) st (Is.str _) q⟩))
  ·cases hr
 ·cases hr
def lenF:List PyData->Option R
 | [.str x]=>if x.length<=sizeLine then some (.o (.int x.length)) else none
 | [.list ds]=>some (.o (.int ds.length))
 | [.tuple ds]=>some (.o (.int ds.length))
 | _=>none
theorem zbe{vs:List V}{d:PyData}(h:IsAll K F H vs [d]):∃ v,vs = [v]/\Is K F H v d:=by
 cases h with
 | cons h1 h2=>cases h2;exact⟨_,rfl,h1⟩
theorem z9z:zes K O (λxs H Q=>∃ x n,xs = [x]/\LenV K x H n/\Q (.int n) H) (fn1 lenF):=λH vs ds Q Qd ok p is ⟨r,hr,q⟩ k=>by
 unfold lenF at hr
 split at hr
 ·split at hr
  ·rename_i hl
   obtain⟨v,rfl,iv⟩:=zbe is
   cases iv
   cases hr
   exact⟨_,_,rfl,⟨hl,rfl⟩,k _ H (.o _) (.refl _ _) (Is.int _) q⟩
  ·cases hr
 ·obtain⟨v,rfl,iv⟩:=zbe is
  cases hr
  cases iv with
  | list f1 h1 s1=>exact⟨_,_,rfl,.inl ⟨_,.of h1,s1.length.symm⟩,k _ H (.o _) (.refl _ _) (Is.int _) q⟩
 ·obtain⟨v,rfl,iv⟩:=zbe is
  cases hr
  cases iv with
  | tuple h1 s1=>exact⟨_,_,rfl,.inr ⟨_,h1,s1.length.symm⟩,k _ H (.o _) (.refl _ _) (Is.int _) q⟩
 ·cases hr
def allD(any:Bool):List PyData->(R->Prop)->Prop:=λds Q=>∃ bs:List Bool,ds = [.list (bs.map .bool)]/\Q (.o (.bool (if any then bs.any id else bs.all id)))
theorem z9v(any:Bool):zes K O (rAll any) (allD any):=λH vs ds Q Qd ok p is ⟨bs,e,q⟩ k=>by
 subst e
 obtain⟨v,rfl,iv⟩:=zbe is
 cases iv with
 | list f1 h1 s1 =>
   rw[zjg s1] at h1
   exact⟨_,bs,rfl,h1,k _ H (.o _) (.refl _ _) (Is.bool _) q⟩
def zv9(K:Qa):List V->Hp->VK->Prop:=λxs H Q=>zu6 xs H Q\/(∃ p ys,xs = [.ref p]/\(SqL K H p ys\/SqT K H p ys)/\∀ l,H l=none->Q (.ref l) (upd H l (.lst ys)))
theorem zsh{X:Cx}(hc:X.calm=true):CallR X (.type "list") (zv9 X.K):=(zsb hc).or zic
def zkq:List PyData->Option R
 | [.str x]=>if x.length<=sizeLine then some (.n (sgs x)) else none
 | [.list ds]=>some (.n ds)
 | [.tuple ds]=>some (.n ds)
 | _=>none
theorem zu7(x:Str):IsAll K F H (x.cps.toList.map λc=>V.str (sg c)) (sgs x):=by
 have e:=zfo (K:=K) (F:=F) (H:=H) (x.cps.toList.map sg)
 rw[Q5,Q5] at e
 exact e
theorem z5l:zes K O (zv9 K) (fn1 zkq):=λH vs ds Q Qd ok p is ⟨r,hr,q⟩ k=>by
 unfold zkq at hr
 split at hr
 ·split at hr
  ·rename_i hl
   obtain⟨v,rfl,iv⟩:=zbe is
   cases iv
   cases hr
   refine .inl ⟨_,rfl,hl,λl hl=>?_⟩
   obtain⟨a1,a2⟩:=zdn (K:=K) ok hl (zu7 _)
   exact k _ _ _ a1 a2 q
  ·cases hr
 ·obtain⟨v,rfl,iv⟩:=zbe is
  cases hr
  cases iv with
  | list f1 h1 s1 =>
    refine .inr ⟨_,_,rfl,.inl (.of h1),λl hl=>?_⟩
    obtain⟨a1,a2⟩:=zdn ok hl s1
    exact k _ _ _ a1 a2 q
 ·obtain⟨v,rfl,iv⟩:=zbe is
  cases hr
  cases iv with
  | tuple h1 s1 =>
    refine .inr ⟨_,_,rfl,.inr h1,λl hl=>?_⟩
    obtain⟨a1,a2⟩:=zdn ok hl s1
    exact k _ _ _ a1 a2 q
 ·cases hr
def tupF:List PyData->Option R
 | [.list ds]=>some (.o (.tuple ds))
 | [.tuple ds]=>some (.o (.tuple ds))
 | _=>none
theorem zyn:zes K O (λxs H Q=>∃ p ys,xs = [.ref p]/\((SqL K H p ys/\∀ l,H l=none->Q (.ref l) (upd H l (.tup ys)))\/(SqT K H p ys/\Q (.ref p) H))) (fn1 tupF):=λH vs ds Q Qd ok p is ⟨r,hr,q⟩ k=>by
 unfold tupF at hr
 split at hr
 ·obtain⟨v,rfl,iv⟩:=zbe is
  cases hr
  cases iv with
  | list f1 h1 s1 =>
    refine⟨_,_,rfl,.inl ⟨.of h1,λl hl=>?_⟩⟩
    obtain⟨a1,a2⟩:=zi7 ok hl s1
    exact k _ _ _ a1 a2 q
 ·obtain⟨v,rfl,iv⟩:=zbe is
  cases hr
  cases iv with
  | tuple h1 s1=>exact⟨_,_,rfl,.inr ⟨h1,k _ H (.o _) (.refl _ _) (Is.tuple h1 s1) q⟩⟩
 ·cases hr
def zzv(fo:DE)(fa:DE):DE:=λρ Q=>fo ρ λr0=>∃ sep,r0.d = .str sep/\fa ρ λr=>∃ ys:List Str,r.d = .list (ys.map .str)/\(ys.map (·.length)).sum+ys.length * sep.length<=16777216/\Q (.o (.str (Yw sep ys)))
theorem z4v{to ta:TE}{fo fa:DE}(ho:ED K O to fo)(ha:ED K O ta fa):ED K O (tBM K "str" zno to (zbb ta tNil)) (zzv fo fa):=λσ H ρ Q Qd S hf k=>by
 refine ho σ H ρ _ _ S hf λv H1 r0 s1 o1 ⟨sep,e0,q1⟩=>?_
 have i0:=o1.is S.ok S.p
 rw[e0] at i0
 cases i0
 refine⟨rfl,?_⟩
 refine ha σ H1 ρ _ _ (S.stp s1) q1 λw H2 r s2 o2 ⟨ys,e,hz,q⟩=>?_
 have i1:=o2.is S.ok (s1.p S.p)
 rw[e] at i1
 cases i1 with
 | list f1 h1 z1 =>
   rw[zdu z1] at h1
   exact⟨sep,_,ys,rfl,rfl,h1,hz,k _ H2 (.o _) (s1.trans s2) (Is.str _) q⟩
end
structure Ctx3 {ι:Type} (P:Program) (w:World) (K:Qa) (mg:Str->Option Value) (base:Heap) (k:Nat) (X:ι->Cx):Prop where
 hP:∀ i,(X i).prog=P
 hw:∀ i,(X i).w=w
 hK:∀ i,(X i).K=K
 hmg:∀ i,(X i).mg=mg
 hb:∀ i,(X i).base=base
 calm:∀ i,(X i).calm=true
 room:∀ i,Room k (X i).A
 xe:∀ i,(X i).xe=λ_ _=>False
def E3{ι κ:Type}(K:Qa)(X:ι->Cx)(O:κ->Ob)(e:Expr)(f:DE):Prop:=∃ t,(∀ i,PE (X i) e t)/\∀ j,ED K (O j) t f
def T3{ι κ:Type}(K:Qa)(X:ι->Cx)(O:κ->Ob)(e:Expr)(f:DT):Prop:=∃ t,(∀ i,PT (X i) e t)/\∀ j,TD K (O j) t f
def W3{ι κ:Type}(K:Qa)(X:ι->Cx)(O:κ->Ob)(e:Expr)(f:DT):Prop:=∃ t,(∀ i,PW (X i) e t)/\∀ j,TD K (O j) t f
def A3{ι κ:Type}(K:Qa)(X:ι->Cx)(O:κ->Ob)(es:List Expr)(f:DA):Prop:=∃ t,(∀ i,PA (X i) es t)/\∀ j,AD K (O j) t f
def I3{ι κ:Type}(K:Qa)(X:ι->Cx)(O:κ->Ob)(tg e:Expr)(f:DI):Prop:=∃ t,(∀ i,PI (X i) tg e t)/\∀ j,SrcS K (O j) t f
def J3{ι κ:Type}(K:Qa)(X:ι->Cx)(O:κ->Ob)(tg e:Expr)(f:DJ):Prop:=∃ t,(∀ i,PI (X i) tg e t)/\∀ j,SrcR K (O j) t f
def S3{ι κ:Type}(K:Qa)(X:ι->Cx)(O:κ->Ob)(s:Stmt)(g:DS):Prop:=∃ t,(∀ i,PS (X i) s t)/\∀ j,SD K (O j) t g
def Ss3{ι κ:Type}(K:Qa)(X:ι->Cx)(O:κ->Ob)(s:List Stmt)(g:DS):Prop:=∃ t,(∀ i,PSs (X i) s t)/\∀ j,SD K (O j) t g
def O3{ι κ:Type}(K:Qa)(X:ι->Cx)(O:κ->Ob)(e:Option Expr)(f:DO):Prop:=∃ t,(∀ i,PO (X i) e t)/\∀ j,OD K (O j) t f
def G3{ι:Type}(K:Qa)(X:ι->Cx)(h:Nat)(tg:Expr)(g:DG):Prop:=∃ t,(∀ i,PG (X i) tg t)/\(∀ O:Ob,GS K O t g)/\(∀ O:Ob,GR K O t g)/\OwnG h t
section
variable {ι κ : Type} {P : Program} {w : World} {K : Qa} {mg : Str → Option Value} {base : Heap} {k : Nat} {X : ι → Cx} {O : κ → Ob} {a b c : Expr} {fa fb fc : DE} {pos : Pos}
theorem zab(n:Nat){x:Str}(hN:∀ i,(X i).N[n]? = some x:=by intro i;rfl)(hv:∀ i,Vis (X i).env.scope x:=by intro i;first|exact Or.inl rfl|exact Or.inr (Or.inl rfl)|exact Or.inr (Or.inr rfl))
 (hd:(x == ("__debug__" : Str))=false:=by decide) (hcd:(x == ("__classdict__" : Str))=false:=by decide):E3 K X O (.Name x pos) (vD n):=⟨_,λi=>zaq (hN i) (hv i) hd hcd,λj=>z8n⟩
theorem zae{n:Int}{j:Nat}:E3 K X O (.Constant (.int n) j pos) (cD (.int n)):=⟨_,λi=>zau,λj=>z7x⟩
theorem zag{x:Str}{j:Nat}:E3 K X O (.Constant (.str x) j pos) (cD (.str x)):=⟨_,λi=>z8m,λj=>z9m⟩
theorem e_bl{x:Bool}{j:Nat}:E3 K X O (.Constant (.bool x) j pos) (cD (.bool x)):=⟨_,λi=>ybz,λj=>ybf⟩
theorem znd{j:Nat}:E3 K X O (.Constant .none j pos) (cD .none):=⟨_,λi=>yal,λj=>z9s⟩
theorem e_op{op:Operator}{r:R2}{F:PyData->PyData->(R->Prop)->Prop}(ho:∀ i,OpR (X i) (binaryOp op) r)(hd:∀ j,OpD K (O j) r F)(ha:E3 K X O a fa)(hb:E3 K X O b fb):E3 K X O (.BinOp a op b pos) (opDE F fa fb) :=
 let ⟨_,p1,d1⟩:=ha;let ⟨_,p2,d2⟩:=hb; ⟨_,λi=>zbl (ho i) (p1 i) (p2 i),λj=>znq (hd j) (d1 j) (d2 j)⟩
theorem zaw(C:Ctx3 P w K mg base k X)(ha:E3 K X O a fa)(hb:E3 K X O b fb):E3 K X O (.BinOp a .Add b pos) (opDE (fn2 addF) fa fb):=e_op (λi=>by have h:=z2j (X:=X i);rw[C.hK] at h;exact h) (λ_=>z2s) ha hb
theorem zk5(ha:E3 K X O a fa)(hb:E3 K X O b fb):E3 K X O (.BinOp a .Sub b pos) (opDE (fn2 (intF λi j => .int (i - j))) fa fb):=e_op (λi=>z8z) (λ_=>z4y) ha hb
theorem zgm{op:CmpOp}{r:R2}{F:PyData->PyData->(R->Prop)->Prop}(ho:∀ i,OpR (X i) (compareOp op) r)(hd:∀ j,OpD K (O j) r F)(ha:E3 K X O a fa)(hb:E3 K X O b fb)(hm:behindInMarks op b=false):E3 K X O (.Compare a [op] [b] pos) (opDE F fa fb) :=
 let ⟨_,p1,d1⟩:=ha;let ⟨_,p2,d2⟩:=hb; ⟨_,λi=>z1f (ho i) (p1 i) (p2 i) hm,λj=>znq (hd j) (d1 j) (d2 j)⟩
theorem zgp{op:CmpOp}{r:R2}{F:PyData->PyData->(R->Prop)->Prop}(ho:∀ i,OpR (X i) (compareOp op) r)(hd:∀ j,OpD K (O j) r F)(ha:E3 K X O a fa)(hb:E3 K X O b fb)(hm:behindInMarks op b=false):T3 K X O (.Compare a [op] [b] pos) (bD (opDE F fa fb)) :=
 let ⟨_,p1,d1⟩:=ha;let ⟨_,p2,d2⟩:=hb; ⟨_,λi=>zhb (ho i) (p1 i) (p2 i) hm,λj=>z7c (znq (hd j) (d1 j) (d2 j))⟩
theorem zzt(C:Ctx3 P w K mg base k X):∀ i,OpR (X i) (compareOp .Eq) (rEqD K false):=λi=>by have h:=z6j (X:=X i) (C.room i).units;rw[C.hK] at h;exact h
theorem zzu(C:Ctx3 P w K mg base k X):∀ i,OpR (X i) (compareOp .NotEq) (rEqD K true):=λi=>by have h:=z7b (X:=X i) (C.room i).units;rw[C.hK] at h;exact h
theorem z0v(C:Ctx3 P w K mg base k X):∀ i,OpR (X i) (compareOp .In) (rInU K):=λi=>by have h:=z7g (X:=X i) (C.room i).units;rw[C.hK] at h;exact h
theorem zyp(C:Ctx3 P w K mg base k X):∀ i,OpR (X i) (compareOp .NotIn) (zl6 K):=λi=>by have h:=zwz (X:=X i) (C.room i).units;rw[C.hK] at h;exact h
theorem e_eq(C:Ctx3 P w K mg base k X)(ha:E3 K X O a fa)(hb:E3 K X O b fb):E3 K X O (.Compare a [.Eq] [b] pos) (opDE (fn2 (eqF false)) fa fb):=zgm (zzt C) (λ_=>zkr false) ha hb (zb1 b)
theorem e_ne(C:Ctx3 P w K mg base k X)(ha:E3 K X O a fa)(hb:E3 K X O b fb):E3 K X O (.Compare a [.NotEq] [b] pos) (opDE (fn2 (eqF true)) fa fb):=zgm (zzu C) (λ_=>zkr true) ha hb (zb1 b)
theorem e_lt(ha:E3 K X O a fa)(hb:E3 K X O b fb):E3 K X O (.Compare a [.Lt] [b] pos) (opDE (fn2 (intF λi j => .bool (decide (i<j)))) fa fb):=zgm (λi=>zsw) (λ_=>zvw) ha hb (zb1 b)
theorem e_gt(ha:E3 K X O a fa)(hb:E3 K X O b fb):E3 K X O (.Compare a [.Gt] [b] pos) (opDE (fn2 (intF λi j => .bool (decide (j<i)))) fa fb):=zgm (λi=>zng) (λ_=>zt1) ha hb (zb1 b)
theorem e_in(C:Ctx3 P w K mg base k X)(ha:E3 K X O a fa)(hb:E3 K X O b fb)(hm:behindInMarks .In b=false:=by rfl):E3 K X O (.Compare a [.In] [b] pos) (opDE (fn2 (inF false)) fa fb):=zgm (z0v C) (λ_=>zvq) ha hb hm
theorem t_eq(C:Ctx3 P w K mg base k X)(ha:E3 K X O a fa)(hb:E3 K X O b fb):T3 K X O (.Compare a [.Eq] [b] pos) (bD (opDE (fn2 (eqF false)) fa fb)):=zgp (zzt C) (λ_=>zkr false) ha hb (zb1 b)
theorem t_ne(C:Ctx3 P w K mg base k X)(ha:E3 K X O a fa)(hb:E3 K X O b fb):T3 K X O (.Compare a [.NotEq] [b] pos) (bD (opDE (fn2 (eqF true)) fa fb)):=zgp (zzu C) (λ_=>zkr true) ha hb (zb1 b)
theorem t_lt(ha:E3 K X O a fa)(hb:E3 K X O b fb):T3 K X O (.Compare a [.Lt] [b] pos) (bD (opDE (fn2 (intF λi j => .bool (decide (i<j)))) fa fb)):=zgp (λi=>zsw) (λ_=>zvw) ha hb (zb1 b)
theorem t_gt(ha:E3 K X O a fa)(hb:E3 K X O b fb):T3 K X O (.Compare a [.Gt] [b] pos) (bD (opDE (fn2 (intF λi j => .bool (decide (j<i)))) fa fb)):=zgp (λi=>zng) (λ_=>zt1) ha hb (zb1 b)
theorem t_in(C:Ctx3 P w K mg base k X)(ha:E3 K X O a fa)(hb:E3 K X O b fb)(hm:behindInMarks .In b=false:=by rfl):T3 K X O (.Compare a [.In] [b] pos) (bD (opDE (fn2 (inF false)) fa fb)):=zgp (z0v C) (λ_=>zvq) ha hb hm
theorem z1p(C:Ctx3 P w K mg base k X)(ha:E3 K X O a fa)(hb:E3 K X O b fb)(hm:behindInMarks .NotIn b=false:=by rfl):T3 K X O (.Compare a [.NotIn] [b] pos) (bD (opDE (fn2 (inF true)) fa fb)):=zgp (zyp C) (λ_=>zun) ha hb hm
theorem t_is(ha:E3 K X O a fa)(hb:E3 K X O b fb):T3 K X O (.Compare a [.Is] [b] pos) (bD (opDE (isNF false) fa fb)):=zgp (λi=>yai) (λ_=>z5y) ha hb (zb1 b)
theorem z3v(ha:E3 K X O a fa)(hb:E3 K X O b fb):T3 K X O (.Compare a [.IsNot] [b] pos) (bD (opDE (isNF true) fa fb)):=zgp (λi=>z5j) (λ_=>zy3) ha hb (zb1 b)
variable {ft fu : DT} {rest : List Expr}
theorem zcv(ha:E3 K X O a fa)(he:∀ i whole,isTrue a (X i).env whole=(do let v <- whole;standAt a.pos;holding [v] (truthy v)):=by intro _ _;rfl):T3 K X O a (bD fa):=let ⟨_,p,d⟩:=ha; ⟨_,λi=>yay (p i) (he i),λj=>z6e (d j)⟩
theorem zfi(h:T3 K X O a ft):T3 K X O (.UnaryOp .Not a pos) (notT ft):=let ⟨_,p,d⟩:=h; ⟨_,λi=>z7t (p i),λj=>yam (d j)⟩
theorem zvd(h:T3 K X O a ft):W3 K X O (.BoolOp .And [a] pos) ft:=let ⟨_,p,d⟩:=h; ⟨_,λi=>z2u (p i),d⟩
theorem zfs(h:T3 K X O a ft):W3 K X O (.BoolOp .Or [a] pos) ft:=let ⟨_,p,d⟩:=h; ⟨_,λi=>z9u (p i),d⟩
theorem z0g(h:T3 K X O a ft)(h':W3 K X O (.BoolOp .And (b::rest) pos) fu):W3 K X O (.BoolOp .And (a::b::rest) pos) (andT ft fu):=let ⟨_,p,d⟩:=h;let ⟨_,p2,d2⟩:=h'; ⟨_,λi=>z6t (p i) (p2 i),λj=>yac (d j) (d2 j)⟩
theorem w_or(h:T3 K X O a ft)(h':W3 K X O (.BoolOp .Or (b::rest) pos) fu):W3 K X O (.BoolOp .Or (a::b::rest) pos) (orT ft fu):=let ⟨_,p,d⟩:=h;let ⟨_,p2,d2⟩:=h'; ⟨_,λi=>ycb (p i) (p2 i),λj=>yb4 (d j) (d2 j)⟩
theorem t_w(h:W3 K X O a ft):T3 K X O a ft:=let ⟨_,p,d⟩:=h; ⟨_,λi=>(p i).pt,d⟩
theorem zc8{op:BoolOp}(h:E3 K X O a fa):E3 K X O (.BoolOp op [a] pos) fa:=let ⟨_,p,d⟩:=h; ⟨_,λi=>z7z (p i),d⟩
theorem zb6(h:E3 K X O a fa)(h':E3 K X O (.BoolOp .And (b::rest) pos) fb):E3 K X O (.BoolOp .And (a::b::rest) pos) (andV fa fb):=let ⟨_,p,d⟩:=h;let ⟨_,p2,d2⟩:=h'; ⟨_,λi=>z8g (p i) (p2 i),λj=>z5e (d j) (d2 j)⟩
theorem e_or(h:E3 K X O a fa)(h':E3 K X O (.BoolOp .Or (b::rest) pos) fb):E3 K X O (.BoolOp .Or (a::b::rest) pos) (orV fa fb):=let ⟨_,p,d⟩:=h;let ⟨_,p2,d2⟩:=h'; ⟨_,λi=>ybj (p i) (p2 i),λj=>z7v (d j) (d2 j)⟩
theorem e_if(hc:T3 K X O c ft)(ha:E3 K X O a fa)(hb:E3 K X O b fb):E3 K X O (.IfExp c a b pos) (ifD ft fa fb):=let ⟨_,p,d⟩:=hc;let ⟨_,p1,d1⟩:=ha;let ⟨_,p2,d2⟩:=hb; ⟨_,λi=>zyi (p i) (p1 i) (p2 i),λj=>yb3 (d j) (d1 j) (d2 j)⟩
variable {es : List Expr} {ga : DA}
theorem zac:A3 K X O [] aNil:=⟨_,λi=>zb9,λj=>zti⟩
theorem zaa(ha:E3 K X O a fa)(hr:A3 K X O es ga)(hs:∀ i,starEach (a::es) (X i).env=(false,eval a (X i).env)::starEach es (X i).env:=by intro i;rfl):A3 K X O (a::es) (ze9 fa ga):=let ⟨_,p,d⟩:=ha;let ⟨_,p2,d2⟩:=hr; ⟨_,λi=>za7 (p i) (p2 i) (hs i),λj=>z5t (d j) (d2 j)⟩
theorem zba{n:Nat}(h:A3 K X O es ga):E3 K X O (.Tuple es n pos) (tupD ga):=let ⟨_,p,d⟩:=h; ⟨_,λi=>zkz (p i),λj=>ya4 (d j)⟩
theorem zbz(h:A3 K X O es ga):E3 K X O (.List es pos) (lstD ga):=let ⟨_,p,d⟩:=h; ⟨_,λi=>zj0 (p i),λj=>z6q (d j)⟩
theorem zan(C:Ctx3 P w K mg base k X)(ha:E3 K X O a fa)(hb:E3 K X O b fb)(hs:zha b:=by intro _ _;rfl):E3 K X O (.Subscript a b pos) (opDE (fn2 idxF) fa fb) :=
 let ⟨_,p1,d1⟩:=ha;let ⟨_,p2,d2⟩:=hb; ⟨tOp (rIx K) _ _,λi=>by have h:=zby (pos:=pos) (zkh (X:=X i)) (p1 i) (p2 i) hs;rw[C.hK] at h;exact h,λj=>znq z5i (d1 j) (d2 j)⟩
theorem zcg:O3 K X O none noO:=⟨_,λi=>z2v,λj=>z5h⟩
theorem zbk(ha:E3 K X O a fa):O3 K X O (some a) (z0o fa):=let ⟨_,p,d⟩:=ha; ⟨_,λi=>z1e (p i),λj=>z6c (d j)⟩
theorem zbi(C:Ctx3 P w K mg base k X){lo hi:Option Expr}{fl fh:DO}{p2:Pos}(ha:E3 K X O a fa)(hl:O3 K X O lo fl)(hh:O3 K X O hi fh):E3 K X O (.Subscript a (.Slice lo hi none p2) pos) (slD fa fl fh) :=
 let ⟨_,p1,d1⟩:=ha;let ⟨_,q2,d2⟩:=hl;let ⟨_,q3,d3⟩:=hh; ⟨tSl (rSl K) _ _ _,λi=>by have h:=zy1 (pos:=pos) (p2:=p2) (z8v (X:=X i)) (p1 i) (q2 i) (q3 i);rw[C.hK] at h;exact h,λj=>zyy (d1 j) (d2 j) (d3 j)⟩
theorem znu{x:Str}{id:String}{r:List V->Hp->VK->Prop}{F:List PyData->(R->Prop)->Prop}{p:Pos}(C:Ctx3 P w K mg base k X)(hc:∀ i,CallR (X i) (.builtin id) r)(hd:∀ j,zes K (O j) r F)(hv:bootBuiltins x=some (.builtin id))(hm:mg x=none)(ha:A3 K X O (a::es) ga)
 (hg:∀ i,Gl (X i) x:=by intro i;rfl) (hn:x ≠ "__name__" := by decide) (hdb:(x == ("__debug__" : Str))=false:=by decide) (he:∀ i,starEach (a::es) (X i).env=(false,eval a (X i).env)::starEach es (X i).env:=by intro i;rfl) (hpl:∀ i,(backTo pos (starEach es (X i).env)).any (·.1)=false:=by intro i;rfl) :
 E3 K X O (.Call (.Name x p) (a::es) [] pos) (zci F ga):=let ⟨_,q,d⟩:=ha; ⟨_,λi=>zhr (hc i) (hg i) (by rw[C.hmg];exact hm) hv (q i) hn hdb (he i) (hpl i),λj=>zpv (hd j) (d j)⟩
theorem znv{x:Str}{T:String}{r:List V->Hp->VK->Prop}{F:List PyData->(R->Prop)->Prop}{p:Pos}(C:Ctx3 P w K mg base k X)(hc:∀ i,CallR (X i) (.type T) r)(hd:∀ j,zes K (O j) r F)(hv:bootBuiltins x=some (.type T))(hm:mg x=none)(ha:A3 K X O (a::es) ga)
 (hg:∀ i,Gl (X i) x:=by intro i;rfl) (hn:x ≠ "__name__" := by decide) (hdb:(x == ("__debug__" : Str))=false:=by decide) (he:∀ i,starEach (a::es) (X i).env=(false,eval a (X i).env)::starEach es (X i).env:=by intro i;rfl) (hpl:∀ i,(backTo pos (starEach es (X i).env)).any (·.1)=false:=by intro i;rfl) :
 E3 K X O (.Call (.Name x p) (a::es) [] pos) (zci F ga):=let ⟨_,q,d⟩:=ha; ⟨_,λi=>zmc (hc i) (hg i) (by rw[C.hmg];exact hm) hv (q i) hn hdb (he i) (hpl i),λj=>zpv (hd j) (d j)⟩
end
theorem zkd:bootBuiltins "len" = some (.builtin "len"):=by decide +kernel
theorem z8q:bootBuiltins "all" = some (.builtin "all"):=by decide +kernel
theorem zmi:bootBuiltins "sorted" = some (.builtin "sorted"):=by decide +kernel
theorem yae:bootBuiltins "min" = some (.builtin "min"):=by decide +kernel
theorem z8p:bootBuiltins "int" = some (.type "int"):=by decide +kernel
theorem zqk:bootBuiltins "list" = some (.type "list"):=by decide +kernel
theorem zxo:bootBuiltins "tuple" = some (.type "tuple"):=by decide +kernel
structure Blt (mg:Str->Option Value):Prop where
 len:mg "len" = none
 all:mg "all" = none
 any:mg "any" = none
 sorted:mg "sorted" = none
 min:mg "min" = none
 max:mg "max" = none
 repr:mg "repr" = none
 int:mg "int" = none
 list:mg "list" = none
 tuple:mg "tuple" = none
 range:mg "range" = none
 set:mg "set" = none
 isinstance:mg "isinstance" = none
 enumerate:mg "enumerate" = none
 zip:mg "zip" = none
 reversed:mg "reversed" = none
 str:mg "str" = none
 sum:mg "sum" = none
 dict:mg "dict" = none
 bool:mg "bool" = none
structure Def3 (P:Program) (w:World) (K:Qa) (mg:Str->Option Value) (base:Heap) (k:Nat) (x:Str) (ps:List Str) (sp:Sp):Prop where
 ex:∃ f fd,FnOk P w K mg base CX0 k f fd ps sp/\mg x=some (.ref f)/\Z5 K (.ref f)=true/\Binds K fd ps []
structure Top3 (K:Qa) (mg:Str->Option Value) (x:Str) (st:Stmt):Prop where
 ex:∃ f fd,Fun K x x st f fd/\mg x=some (.ref f)
structure CIx where
 C:Addr
 s:Shared
 H:Hp
 ex:List Addr
def zhg{ι:Type}(X:ι->Cx)(scope:Scope)(N':List Str):ι × CIx->Cx:=λp=>zdd (X p.1) scope N' p.2.C p.2.s p.2.H p.2.ex
def zkx{κ:Type}(O:κ->Ob):{ p:κ × (Addr × List V) // ¬ (O p.1).M p.2.1 }->Ob:=λp=>(O p.1.1).plus p.1.2.1 (.lst p.1.2.2)
def F3{ι κ:Type}(K:Qa)(X:ι->Cx)(O:κ->Ob)(ifs:List Expr)(f:DT):Prop:=∃ t,(∀ i,PF (X i) ifs t)/\∀ j,TD K (O j) t f
def yesD:DT:=λ_ Q=>Q true
section
variable {ι κ : Type} {P : Program} {w : World} {K : Qa} {mg : Str → Option Value} {base : Heap} {k : Nat} {X : ι → Cx} {O : κ → Ob} {a b c tg : Expr} {fa fb fc : DE} {pos p : Pos} {es : List Expr} {ga : DA}
theorem Ctx3.comp(C:Ctx3 P w K mg base k X)(scope:Scope)(N':List Str):Ctx3 P w K mg base k (zhg X scope N'):=⟨λi=>C.hP i.1,λi=>C.hw i.1,λi=>C.hK i.1,λi=>C.hmg i.1,λi=>C.hb i.1,λi=>C.calm i.1,λi=>C.room i.1,λ_=>rfl⟩
theorem za9(C:Ctx3 P w K mg base k X)(B:Blt mg)(ha:A3 K X O [a] ga)(hg:∀ i,Gl (X i) "len" := by intro i;rfl)(he:∀ i,starEach [a] (X i).env=(false,eval a (X i).env)::starEach [] (X i).env:=by intro i;rfl):E3 K X O (.Call (.Name "len" p) [a] [] pos) (zci (fn1 lenF) ga) :=
 znu C (λi=>by have h:=zhh (X:=X i);rw[C.hK] at h;exact h) (λ_=>z9z) zkd B.len ha hg (by decide) (by decide) he
theorem znm(C:Ctx3 P w K mg base k X)(B:Blt mg)(ha:A3 K X O [a] ga)(hg:∀ i,Gl (X i) "all" := by intro i;rfl)(he:∀ i,starEach [a] (X i).env=(false,eval a (X i).env)::starEach [] (X i).env:=by intro i;rfl):E3 K X O (.Call (.Name "all" p) [a] [] pos) (zci (allD false) ga) :=
 znu C (λi=>zvf (C.calm i)) (λ_=>z9v false) z8q B.all ha hg (by decide) (by decide) he
theorem zqg(C:Ctx3 P w K mg base k X)(B:Blt mg)(ha:A3 K X O [a] ga)(hg:∀ i,Gl (X i) "list" := by intro i;rfl)(he:∀ i,starEach [a] (X i).env=(false,eval a (X i).env)::starEach [] (X i).env:=by intro i;rfl):E3 K X O (.Call (.Name "list" p) [a] [] pos) (zci (fn1 zkq) ga) :=
 znv C (λi=>by have h:=zsh (X:=X i) (C.calm i);rw[C.hK] at h;exact h) (λ_=>z5l) zqk B.list ha hg (by decide) (by decide) he
theorem zd7(C:Ctx3 P w K mg base k X)(B:Blt mg)(ha:A3 K X O [a] ga)(hg:∀ i,Gl (X i) "tuple" := by intro i;rfl)(he:∀ i,starEach [a] (X i).env=(false,eval a (X i).env)::starEach [] (X i).env:=by intro i;rfl):E3 K X O (.Call (.Name "tuple" p) [a] [] pos) (zci (fn1 tupF) ga) :=
 znv C (λi=>by have h:=znc (X:=X i);rw[C.hK] at h;exact h) (λ_=>zyn) zxo B.tuple ha hg (by decide) (by decide) he
theorem zx8{X:Cx}:MtR X "str.join" zno:=λpins s σ H x xs v us Q I rx rv h=>z5z pins s σ H x xs v us Q I rx rv h
theorem zdb{apos:Pos}(C:Ctx3 P w K mg base k X)(ho:E3 K X O a fa)(hb:E3 K X O b fb)(hbase:∀ i,attributeBase a "join" (X i).env (eval a (X i).env)=eval a (X i).env:=by intro i;rfl)
 (hfew:∀ i,((backTo pos (starEach [b] (X i).env)).all (λx=>!x.1) && (backToKw pos (keywordEach [] (X i).env)).all (λx=>x.1.isSome) && decide (([b]:List Expr).length+([]:List Keyword).length+(if([]:List Keyword).isEmpty then 0 else 1)<30))=true:=by intro i;rfl)
 (hline:(apos.endLine == pos.line)=true:=by rfl) (hs:∀ i,starEach [b] (X i).env = [(false,eval b (X i).env)]:=by intro i;rfl):E3 K X O (.Call (.Attribute a "join" apos) [b] [] pos) (zzv fa fb) :=
 let ⟨_,p1,d1⟩:=ho;let ⟨_,p2,d2⟩:=hb; ⟨tBM K "str" zno _ (zbb _ tNil),λi=>by
  have h:=zj1 (apos:=apos) (cpos:=pos) jI PySem.F.slot_str_join PySem.F.type_str_join (zx8 (X:=X i)) (p1 i) (za7 (p2 i) zb9 (hs i)) (hbase i) (hfew i) hline (hs i)
  rw[C.hK] at h
  exact h,λj=>z4v (d1 j) (d2 j)⟩
theorem za1{k' n:Nat}{x:Str}{ps:List Str}{φ:Ob->Prop}{F:List PyData->(R->Prop)->Prop}(C:Ctx3 P w K mg base k X)(D:Def3 P w K mg base k' x ps (spO K φ n F))(hφ:∀ j,φ (O j))(ha:A3 K X O (a::es) ga)(hk:k'<=k:=by decide)(hg:∀ i,Gl (X i) x:=by intro i;rfl)
 (hdb:(x == ("__debug__" : Str))=false:=by decide) (he:∀ i,starEach (a::es) (X i).env=(false,eval a (X i).env)::starEach es (X i).env:=by intro i;rfl) (hpl:∀ i,(backTo pos (starEach es (X i).env)).any (·.1)=false:=by intro i;rfl):E3 K X O (.Call (.Name x p) (a::es) [] pos) (calD n F ga):=by
 obtain⟨f,fd,G,m,kp,bn⟩:=D.ex
 obtain⟨t,q,d⟩:=ha
 refine⟨zd6 (spO K φ n F) [] E0 t,λi=>?_,λj=>z4s (hφ j) (d j)⟩
 have G':FnOk (X i).prog (X i).w (X i).K (X i).mg (X i).base CX0 k f fd ps (spO K φ n F):=by rw[C.hP,C.hw,C.hK,C.hmg,C.hb];exact G.mono hk
 exact zln G' (C.room i) (hg i) (by rw[C.hmg];exact m) (by rw[C.hK];exact kp) (by rw[C.hK];exact bn) .nil zsz (q i) hdb (he i) (hpl i)
theorem zam{k' n:Nat}(v:Nat){x y:Str}{py:Pos}{ps:List Str}{φ:Ob->Prop}{F:List PyData->(R->Prop)->Prop}(C:Ctx3 P w K mg base k X)(D:Def3 P w K mg base k' x ps (spD K φ n F))(hφ:∀ j,φ (O j))(ha:A3 K X O es ga)(hk:k'<=k:=by decide)(hg:∀ i,Gl (X i) x:=by intro i;rfl)
 (hN:∀ i,(X i).N[v]? = some y:=by intro i;rfl) (hv:∀ i,Vis (X i).env.scope y:=by intro i;first|exact Or.inl rfl|exact Or.inr (Or.inl rfl)|exact Or.inr (Or.inr rfl)) (hd:(y == ("__debug__" : Str))=false:=by decide) (hcd:(y == ("__classdict__" : Str))=false:=by decide)
 (hdb:(x == ("__debug__" : Str))=false:=by decide) (he:∀ i,starEach (.Name y py::es) (X i).env=(false,eval (.Name y py) (X i).env)::starEach es (X i).env:=by intro i;rfl) (hpl:∀ i,(backTo pos (starEach es (X i).env)).any (·.1)=false:=by intro i;rfl) :
 E3 K X O (.Call (.Name x p) (.Name y py::es) [] pos) (calO v n F ga):=by
 obtain⟨f,fd,G,m,kp,bn⟩:=D.ex
 obtain⟨t,q,d⟩:=ha
 refine⟨zd6 (spD K φ n F) [] E0 (zbb (tVar v) t),λi=>?_,λj=>zyr (hφ j) (d j)⟩
 have G':FnOk (X i).prog (X i).w (X i).K (X i).mg (X i).base CX0 k f fd ps (spD K φ n F):=by rw[C.hP,C.hw,C.hK,C.hmg,C.hb];exact G.mono hk
 exact zln G' (C.room i) (hg i) (by rw[C.hmg];exact m) (by rw[C.hK];exact kp) (by rw[C.hK];exact bn) .nil zsz (za7 (zaq (hN i) (hv i) hd hcd) (q i) (he i)) hdb (he i) (hpl i)
theorem zg5(C:Ctx3 P w K mg base k X)(ha:E3 K X O a fa):I3 K X O tg a (srcL fa):=let ⟨_,p,d⟩:=ha; ⟨zta K _,λi=>by have h:=z2n (tg:=tg) (p i);rw[C.hK] at h;exact h,λj=>zxg (d j)⟩
theorem zi8(C:Ctx3 P w K mg base k X)(ha:E3 K X O a fa):I3 K X O tg a (srcT fa):=let ⟨_,p,d⟩:=ha; ⟨iTup K _,λi=>by have h:=z6s (tg:=tg) (p i);rw[C.hK] at h;exact h,λj=>z1m (d j)⟩
theorem zsa(ha:E3 K X O a fa):I3 K X O tg a (srcS fa):=let ⟨_,p,d⟩:=ha; ⟨_,λi=>yar (p i),λj=>z5m (d j)⟩
theorem i_r1(C:Ctx3 P w K mg base k X)(B:Blt mg)(ha:A3 K X O [a] ga)(hg:∀ i,Gl (X i) "range" := by intro i;rfl)(hs:∀ i,starEach [a] (X i).env = [(false,eval a (X i).env)]:=by intro i;rfl):I3 K X O tg (.Call (.Name "range" p) [a] [] pos) (z0r ga) :=
 let ⟨_,q,d⟩:=ha; ⟨_,λi=>zt7 (hg i) (by rw[C.hmg];exact B.range) (q i) (hs i),λj=>zyc (d j)⟩
theorem i_r2(C:Ctx3 P w K mg base k X)(B:Blt mg)(ha:A3 K X O [a,b] ga)(hg:∀ i,Gl (X i) "range" := by intro i;rfl)(hs:∀ i,starEach [a,b] (X i).env = [(false,eval a (X i).env),(false,eval b (X i).env)]:=by intro i;rfl)(hs2:∀ i,starEach [b] (X i).env = [(false,eval b (X i).env)]:=by intro i;rfl) :
 I3 K X O tg (.Call (.Name "range" p) [a,b] [] pos) (zzd ga):=let ⟨_,q,d⟩:=ha; ⟨_,λi=>zwv (hg i) (by rw[C.hmg];exact B.range) (q i) (hs i) (hs2 i),λj=>zw9 (d j)⟩
theorem zel{fi:DI}(h:I3 K X O tg a fi):J3 K X O tg a (newJ fi):=let ⟨_,p,d⟩:=h; ⟨_,p,λj=>z3c (d j)⟩
theorem zbh{h:Nat}(n:Nat){x:Str}(hlt:n<h:=by decide)(hN:∀ i,(X i).N.Nodup:=by intro i;exact of_decide_eq_true (by kernel_rfl))(hi:∀ i,(X i).N[n]? = some x:=by intro i;rfl)(hx:∀ i,Loc (X i).env.scope x:=by intro i;first|exact Or.inl rfl|exact Or.inr rfl)
 (hf:∀ i,(X i).fn x=true\/(X i).env.scope.names.lookup x=some .local:=by intro i;first|exact .inl rfl|exact .inr rfl):G3 K X h (.Name x pos) (gN n):=⟨_,λi=>zq9 (hN i) (hi i) (hx i) (hf i),λ_=>z4o,λ_=>z2h,zpo hlt⟩
def Gs3{ι:Type}(K:Qa)(X:ι->Cx)(h:Nat)(es:List Expr)(is:List Nat):Prop:=∃ t,(∀ i,PGs (X i) es t)/\(∀ O:Ob,GSs K O t is)/\(∀ O:Ob,GRs K O t is)/\zke h t/\zka t
theorem zkl{h:Nat}:Gs3 K X h [] []:=⟨_,λi=>z6b,λ_=>z2t,λ_=>z2g,z1n,z3z⟩
theorem zdp{h:Nat}{es:List Expr}{is:List Nat}(n:Nat){x:Str}(hr:Gs3 K X h es is)(hlt:n<h:=by decide)(hN:∀ i,(X i).N.Nodup:=by intro i;exact of_decide_eq_true (by kernel_rfl))(hi:∀ i,(X i).N[n]? = some x:=by intro i;rfl)(hx:∀ i,Loc (X i).env.scope x:=by intro i;first|exact Or.inl rfl|exact Or.inr rfl)
 (hf:∀ i,(X i).fn x=true\/(X i).env.scope.names.lookup x=some .local:=by intro i;first|exact .inl rfl|exact .inr rfl) (hs:∀ i,(assignEach (.Name x pos::es) (X i).env).map (·.2)=assign (.Name x pos) (X i).env::(assignEach es (X i).env).map (·.2):=by intro i;rfl):Gs3 K X h (.Name x pos::es) (n::is) :=
 let ⟨_,p,d1,d2,o,m⟩:=hr; ⟨_,λi=>zza (zq9 (hN i) (hi i) (hx i) (hf i)) (p i) (hs i),λO=>zx5 (d1 O),λO=>zyb (d2 O),zy6 zol m (zpo hlt) o,zxm zol m⟩
theorem znh{h n:Nat}{es:List Expr}{is:List Nat}{j:Nat}(C:Ctx3 P w K mg base k X)(hr:Gs3 K X h es is)(hn:is.length=n:=by rfl)(hn2:∀ i,(assignEach es (X i).env).length=n:=by intro i;rfl)(hst:∀ i,(assignEach es (X i).env).findIdx? (·.1)=none:=by intro i;rfl):G3 K X h (.Tuple es j pos) (gT is) :=
 let ⟨_,p,d1,d2,o,m⟩:=hr; ⟨_,λi=>by have z:=z6m (pos:=pos) (k:=j) (C.calm i) (p i) (hn2 i) (hst i);rw[C.hK] at z;exact z,λO=>z6y hn (d1 O),λO=>z9c hn (d2 O),z3u o⟩
theorem zfm{n:Int}{j:Nat}{p2:Pos}:E3 K X O (.UnaryOp .USub (.Constant (.int n) j p2) pos) (cD (.int (-n))):=⟨tUn (rU λi => .int (-i)) (tC (.int n)),λi=>ybc yab zau,λ_ σ H ρ Q Qd S h kk=>⟨n,rfl,kk _ H (.o _) (.refl _ _) (Is.int _) h⟩⟩
theorem zdh{O':κ->Ob}:F3 K X O' [] yesD:=⟨_,λi=>yas,λj σ H ρ Q Qd S h k=>k true H (.refl _ _) h⟩
theorem ya8{ft:DT}(h:T3 K X O c ft):F3 K X O [c] ft:=let ⟨_,p,d⟩:=h; ⟨_,λi=>z6k (p i),d⟩
theorem zcp{elt iter:Expr}{ifs:List Expr}{scope:Scope}{fi:DI}{g:DG}{ft:DT}{fe:DE}(h:Nat)(N':List Str)(C:Ctx3 P w K mg base k X)(S:∀ i,ScopeOk h N' (X i).N scope (X i).env.scope)(hs:I3 K X O tg iter fi)
 (hg:G3 K (zhg X scope N') h tg g) (hf:F3 K (zhg X scope N') (zkx O) ifs ft) (he:E3 K (zhg X scope N') (zkx O) elt fe) (hset:∀ i x,foldedSetIterable iter (X i).env x=pure x:=by intro _ _;rfl) :
 E3 K X O (.ListComp elt [⟨tg,iter,ifs,0⟩] scope pos) (zsr h fi g ft fe):=by
 obtain⟨ti,p1,d1⟩:=hs
 obtain⟨tg',p2,d2,_,ow⟩:=hg
 obtain⟨tf,p3,d3⟩:=hf
 obtain⟨te,p4,d4⟩:=he
 exact⟨_,λi=>z1s h (S i) (C.calm i) (p1 i) (λc s H ex=>p2 (i,⟨c,s,H,ex⟩)) ow (λc s H ex=>p3 (i,⟨c,s,H,ex⟩)) (λc s H ex=>p4 (i,⟨c,s,H,ex⟩)) (hset i),λj=>zqe (d1 j) d2 (λD xs nm=>d3 ⟨(j,(D,xs)),nm⟩) λD xs nm=>d4 ⟨(j,(D,xs)),nm⟩⟩
variable {st : Stmt} {sts : List Stmt} {g1 g2 : DS} {ft : DT}
theorem za2:Ss3 K X O [] (λDd ρ=>Dd.nx ρ):=⟨_,λi=>zi1,λj=>z2k⟩
theorem zai(h:S3 K X O st g1):Ss3 K X O [st] g1:=let ⟨_,p,d⟩:=h; ⟨_,λi=>zdq (p i),d⟩
theorem zad(h:S3 K X O st g1)(h':Ss3 K X O sts g2):Ss3 K X O (st::sts) (seqD g1 g2):=let ⟨_,p,d⟩:=h;let ⟨_,p2,d2⟩:=h'; ⟨_,λi=>zbo (p i) (p2 i),λj=>z7k (d j) (d2 j)⟩
theorem zar(ha:E3 K X O a fa):S3 K X O (.Return (some a) pos) (retS fa):=let ⟨_,p,d⟩:=ha; ⟨_,λi=>zg4 (p i),λj=>z7i (d j)⟩
theorem z6v(n:Nat){x:Str}{px:Pos}(hN:∀ i,(X i).N[n]? = some x:=by intro i;rfl)(hv:∀ i,Vis (X i).env.scope x:=by intro i;first|exact Or.inl rfl|exact Or.inr (Or.inl rfl)|exact Or.inr (Or.inr rfl))(hd:(x == ("__debug__" : Str))=false:=by decide)(hcd:(x == ("__classdict__" : Str))=false:=by decide) :
 S3 K X O (.Return (some (.Name x px)) pos) (retO n):=⟨_,λi=>zg4 (zaq (hN i) (hv i) hd hcd),λj=>zwx⟩
theorem s_if{sa sb:List Stmt}(hc:T3 K X O c ft)(h:Ss3 K X O sa g1)(h':Ss3 K X O sb g2):S3 K X O (.If c sa sb pos) (ifS ft g1 g2):=let ⟨_,p,d⟩:=hc;let ⟨_,p1,d1⟩:=h;let ⟨_,p2,d2⟩:=h'; ⟨_,λi=>zi4 (p i) (p1 i) (p2 i),λj=>yb7 (d j) (d1 j) (d2 j)⟩
theorem zao(n:Nat){x:Str}{px:Pos}(ha:E3 K X O a fa)(hN:∀ i,(X i).N.Nodup:=by intro i;exact of_decide_eq_true (by kernel_rfl))(hi:∀ i,(X i).N[n]? = some x:=by intro i;rfl)(hx:∀ i,Loc (X i).env.scope x:=by intro i;first|exact Or.inl rfl|exact Or.inr rfl)
 (hs:∀ i,swapsWith a (some (.Name x px)) pos.line (X i).env=pure false:=by intro i;rfl) (hf:∀ i,(X i).fn x=true\/(X i).env.scope.names.lookup x=some .local:=by intro i;first|exact .inl rfl|exact .inr rfl):S3 K X O (.Assign [.Name x px] a pos) (asgS n fa) :=
 let ⟨_,p,d⟩:=ha; ⟨_,λi=>zdi (hN i) (hi i) (hx i) (p i) (hs i) (hf i),λj=>z9q (d j)⟩
theorem zj5{X:Cx}:MtR X "list.append" zfx:=λpins s σ H x xs v us Q I rx rv h=>zih pins s σ H x xs v us Q I rx rv h
theorem zkp(n:Nat){x:Str}{px apos cpos:Pos}(C:Ctx3 P w K mg base k X)(hb:E3 K X O b fb)(hN:∀ i,(X i).N[n]? = some x:=by intro i;rfl)(hv:∀ i,Vis (X i).env.scope x:=by intro i;first|exact Or.inl rfl|exact Or.inr (Or.inl rfl)|exact Or.inr (Or.inr rfl))(hd:(x == ("__debug__" : Str))=false:=by decide)(hcd:(x == ("__classdict__" : Str))=false:=by decide)
 (hbase:∀ i,attributeBase (.Name x px) "append" (X i).env (eval (.Name x px) (X i).env)=eval (.Name x px) (X i).env:=by intro i;rfl)
 (hfew:∀ i,((backTo cpos (starEach [b] (X i).env)).all (λx=>!x.1) && (backToKw cpos (keywordEach [] (X i).env)).all (λx=>x.1.isSome) && decide (([b]:List Expr).length+([]:List Keyword).length+(if([]:List Keyword).isEmpty then 0 else 1)<30))=true:=by intro i;rfl)
 (hline:(apos.endLine == cpos.line)=true:=by rfl) (hs:∀ i,starEach [b] (X i).env = [(false,eval b (X i).env)]:=by intro i;rfl) (hsw:∀ i,swapsWith (.Call (.Attribute (.Name x px) "append" apos) [b] [] cpos) none pos.line (X i).env=pure false:=by intro i;rfl) :
 S3 K X O (.Expr (.Call (.Attribute (.Name x px) "append" apos) [b] [] cpos) pos) (appS n fb):=let ⟨_,p2,d2⟩:=hb;
 ⟨zhn (tBM K "list" zfx (tVar n) (zbb _ tNil)),λi=>by
  have h:=zj1 (apos:=apos) (cpos:=cpos) Yp jy jz (zj5 (X:=X i)) (zaq (pos:=px) (hN i) (hv i) hd hcd) (za7 (p2 i) zb9 (hs i)) (hbase i) (hfew i) hline (hs i)
  rw[C.hK] at h
  exact zlc h (hsw i),λj=>zv1 (d2 j)⟩
theorem zoe{X:Cx}(h:X.xe=λ_ _=>False):PassesOwn (model X.prog X.w) X.A X.env X.xe:=by rw[h];exact PassesOwn.never
theorem zfp{iter:Expr}{body:List Stmt}{fj:DJ}{g:DG}{hh:Nat}(C:Ctx3 P w K mg base k X)(hi:J3 K X O tg iter fj)(hg:G3 K X hh tg g)(hb:Ss3 K X O body g1)(hs:∀ i x,foldedSetIterable iter (X i).env x=pure x:=by intro _ _;rfl):S3 K X O (.For tg iter body [] pos) (forS fj g g1):=by
 obtain⟨ti,p1,d1⟩:=hi
 obtain⟨tg',p2,_,d2,_⟩:=hg
 obtain⟨tb,p3,d3⟩:=hb
 exact⟨_,λi=>zuj (zoe (C.xe i)) (C.calm i) (p1 i) (p2 i) (p3 i) (hs i),λj=>z6r (d1 j) (d2 (O j)) (d3 j)⟩
end
theorem len1{fd:FuncData}{p0:Str}{us:List Value}(hl:us.length=1)(h:∀ u0,bindArgs fd ⟨[u0],[]⟩=pure ([p0].zip [u0])):bindArgs fd ⟨us,[]⟩=pure ([p0].zip us):=by
 match us,hl with
 | [u0],_=>exact h u0
theorem len2{fd:FuncData}{p0 p1:Str}{us:List Value}(hl:us.length=2)(h:∀ u0 u1,bindArgs fd ⟨[u0,u1],[]⟩=pure ([p0,p1].zip [u0,u1])):bindArgs fd ⟨us,[]⟩=pure ([p0,p1].zip us):=by
 match us,hl with
 | [u0,u1],_=>exact h u0 u1
theorem len3{fd:FuncData}{p0 p1 p2:Str}{us:List Value}(hl:us.length=3)(h:∀ u0 u1 u2,bindArgs fd ⟨[u0,u1,u2],[]⟩=pure ([p0,p1,p2].zip [u0,u1,u2])):bindArgs fd ⟨us,[]⟩=pure ([p0,p1,p2].zip us):=by
 match us,hl with
 | [u0,u1,u2],_=>exact h u0 u1 u2
theorem len4{fd:FuncData}{p0 p1 p2 p3:Str}{us:List Value}(hl:us.length=4)(h:∀ u0 u1 u2 u3,bindArgs fd ⟨[u0,u1,u2,u3],[]⟩=pure ([p0,p1,p2,p3].zip [u0,u1,u2,u3])):bindArgs fd ⟨us,[]⟩=pure ([p0,p1,p2,p3].zip us):=by
 match us,hl with
 | [u0,u1,u2,u3],_=>exact h u0 u1 u2 u3
section
variable {P : Program} {w : World} {K : Qa} {mg : Str → Option Value} {base : Heap} {k n : Nat} {x : Str} {st : Stmt} {N ps : List Str} {φ : Ob → Prop} {F : List PyData → (R → Prop) → Prop}
abbrev zfk(P:Program)(w:World)(K:Qa)(mg:Str->Option Value)(base:Heap)(N:List Str)(x:Str)(sc:Scope)(f:Addr)(cdv:Value)(A:Around)(outer:List Env)(s:Shared)(H:Hp)(E:XK):Unit->Cx:=λ_=>(cxOf CX0 P w K mg base N x sc f cdv A outer s H E).nox
theorem zjv{f:Addr}{cdv:Value}{A:Around}{outer:List Env}{s:Shared}{H:Hp}{E:XK}{sc:Scope}(hr:Room k (A.deeper (envOfC x sc s.heap.objs.size f cdv))):Ctx3 P w K mg base k (zfk P w K mg base N x sc f cdv A outer s H E) :=
 ⟨λ_=>rfl,λ_=>rfl,λ_=>rfl,λ_=>rfl,λ_=>rfl,λ_=>rfl,λ_=>hr,λ_=>rfl⟩
theorem mk_O(T:Top3 K mg x st)(S:FnScope N ps (zah st))(hb:∀ (kV doc pm:Value) (an:Option Addr) (cdv ct:Value) (us:List Value),us.length=ps.length->bindArgs (Z4 x x (zdf st) (zbu st) (zah st) .none kV doc pm an cdv ct) ⟨us,[]⟩=pure (ps.zip us))(hn:ps.length=n)
 (body:∀ (f:Addr) (cdv:Value) (A:Around) (outer:List Env) (s:Shared) (H:Hp) (E:XK) (O:Ob),φ O->Ctx3 P w K mg base k (zfk P w K mg base N x (zah st) f cdv A outer s H E) ->
  ∃ g,Ss3 K (zfk P w K mg base N x (zah st) f cdv A outer s H E) (λ_:Unit=>O) (zbu st) g/\∀ ds Qr,ds.length=n->F ds Qr->g { nx:=λ_=>Qr (.o .none),rt:=Qr } (zer N (ds.map .im))):Def3 P w K mg base (k+1) x ps (spO K φ n F):=by
 obtain⟨f,fd,Fu,m⟩:=T.ex
 refine⟨f,fd,Fu.ok S (z3q hn) (λcdv A outer s H vs Q E hr h=>?_),m,Fu.kp,Fu.binds hb⟩
 obtain⟨O,ds,Qr,ok,hφ,p,hl,is,q,kk⟩:=h
 obtain⟨g,⟨t,h1,h2⟩,h3⟩:=body f cdv A outer s H E O hφ (zjv hr)
 exact⟨t,h1 (),ybd (h2 ()) ok p is (h3 ds Qr hl q) kk⟩
theorem mk_D(T:Top3 K mg x st)(S:FnScope N ps (zah st))(hb:∀ (kV doc pm:Value) (an:Option Addr) (cdv ct:Value) (us:List Value),us.length=ps.length->bindArgs (Z4 x x (zdf st) (zbu st) (zah st) .none kV doc pm an cdv ct) ⟨us,[]⟩=pure (ps.zip us))(hn:ps.length=n+1)
 (body:∀ (f:Addr) (cdv:Value) (A:Around) (outer:List Env) (s:Shared) (H:Hp) (E:XK) (O:Ob),φ O->Ctx3 P w K mg base k (zfk P w K mg base N x (zah st) f cdv A outer s H E) ->
  ∃ g,Ss3 K (zfk P w K mg base N x (zah st) f cdv A outer s H E) (λ_:Unit=>O) (zbu st) g/\∀ ds Qr,ds.length=n->F ds Qr->g { nx:=λ_=>Qr (.o .none),rt:=Qr } (zer N (.ob::ds.map .im))):Def3 P w K mg base (k+1) x ps (spD K φ n F):=by
 obtain⟨f,fd,Fu,m⟩:=T.ex
 refine⟨f,fd,Fu.ok S (zqi hn) (λcdv A outer s H vs Q E hr h=>?_),m,Fu.kp,Fu.binds hb⟩
 obtain⟨O,ds,ws,Qr,ok,hφ,p,hl,rfl,is,q,kk⟩:=h
 obtain⟨g,⟨t,h1,h2⟩,h3⟩:=body f cdv A outer s H E O hφ (zjv hr)
 exact⟨t,h1 (),yba (h2 ()) ok p is (h3 ds Qr hl q) kk⟩
end
structure PotStp (a l:Addr) (H H':Hp):Prop where
 oth:∀ b,b ≠ a->b ≠ l->H' b=H b
theorem PotStp.trans{a l:Addr}{H H1 H2:Hp}(x:PotStp a l H H1)(y:PotStp a l H1 H2):PotStp a l H H2:=⟨λb h1 h2=>(y.oth b h1 h2).trans (x.oth b h1 h2)⟩
theorem PotStp.upA{a l:Addr}{H:Hp}(o:HO):PotStp a l H (upd H a o):=⟨λb h1 _=>zaf h1⟩
abbrev lenR(K:Qa):List V->Hp->VK->Prop:=λxs H Q=>∃ x n,xs = [x]/\LenV K x H n/\Q (.int n) H
abbrev pAt(K:Qa)(i:Int):TE:=tOp (rIxL K) (tVar 0) (tC (.int i))
def zi9:List PyData->(R->Prop)->Prop:=λds Q=>∃ m:Int,ds = [.int m]/\0<m/\m<1073741824/\∀ k,0<=k->k<m->Q (.o (.int k))
def abc:List Nat:=(Yl 26).map (· + 97)
def z0e(c:Nat):Prop:=97<=c/\c<123
theorem zmw:∀ (l:List Nat) (acc:Array Nat),(l.map sg).foldl (λacc p=>acc++(Qi "").cps++p.cps) acc=acc++l.toArray
 | [],acc=>by simp
 | c::r,acc=>by
   rw[Q3,Ju,zmw r]
   have e:(Qi "").cps = #[]:=by decide +kernel
   rw[e]
   apply JU.mp
   simp[sg]
theorem z1d(w:List Nat):Yw "" (w.map sg)=tx w:=by
 cases w with
 | nil=>decide +kernel
 | cons c r =>
   show Yy (Qi "") (sg c::r.map sg)=tx (c::r)
   unfold Yy
   show(⟨(r.map sg).foldl _ (sg c).cps⟩:Str)=_
   rw[zmw]
   unfold tx sg
   congr 1
   apply JU.mp
   simp
theorem z9t(c:Nat):(sg c).length=1:=rfl
theorem z8l(w:List Nat):((w.map sg).map (·.length)).sum=w.length:=by
 induction w with
 | nil=>rfl
 | cons c r ih=>rw[Q3,Q3,YD,ih,z9t,Qy];omega
theorem z8b{a b:Nat}(h:sg a=sg b):a=b:=by
 have:=congrArg (λx:Str=>x.cps.toList) h
 simpa[sg] using this
theorem zjk:∀ {w:List Nat} {x:Nat},risingS (sg x) (w.map sg)=true->(∀ c ∈ w,x<=c)/\w.Pairwise (·<=·)
 | [],_,_=>⟨λ_ h=>(nomatch h),.nil⟩
 | y::r,x,h=>by
   have h:(!(decide (y<x) || (y == x && false)) && risingS (sg y) (r.map sg))=true:=h
   rw[QI,qk,Qp,JJ,decide_eq_false_iff_not] at h
   obtain⟨h1,h2⟩:=zjk (w:=r) (x:=y) h.2
   refine⟨λc hc=>?_,.cons h1 h2⟩
   rcases Ql.mp hc with rfl|hc
   ·omega
   ·have:=h1 c hc
    omega
theorem zj7:∀ {w:List Nat},sortedS (w.map sg)=true->w.Nodup->w.Pairwise (· < ·)
 | [],_,_ => .nil
 | x::r,h,hn=>by
   obtain⟨h1,h2⟩:=zjk (w:=r) (x:=x) h
   obtain⟨n1,n2⟩:=Zr.mp hn
   refine .cons (λc hc=>qx (h1 c hc) λe=>n1 (e ▸ hc)) ?_
   exact(List.Pairwise.and h2 n2).imp λ⟨a,b⟩=>qx a b
structure StAt (H:Hp) (a l:Addr) (num cnt:Int) (pl:Nat) (cs:List Int):Prop where
 ne:a ≠ l
 ha:H a=some (.lst [.ref l,.int num,.int cnt,.int pl])
 hl:H l=some (.lst (cs.map V.int))
 n0:0<=num
 c0:0<=cnt
structure IsState (O:Ob):Prop where
 ex:∃ a l,O.v = .ref a/\O.M a/\O.M l/\(∀ H,O.P H->∃ n c p cs,StAt H a l n c p cs)/\∀ H H' n c p cs,O.P H->StAt H' a l n c p cs->(∀ b,O.M b->b ≠ a->b ≠ l->H' b=H b)->O.P H'
theorem IsState.plus{O:Ob}(h:IsState O)(D:Addr)(u:HO)(nm:¬ O.M D):IsState (O.plus D u):=by
 obtain⟨a,l,hv,ma,ml,h1,h2⟩:=h.ex
 have da:D ≠ a:=λe=>nm (e ▸ ma)
 have dl:D ≠ l:=λe=>nm (e ▸ ml)
 refine⟨a,l,hv,.inl ma,.inl ml,λH p=>h1 H p.1,λH H' n c p cs pp q k=>⟨h2 H H' n c p cs pp.1 q λb mb=>k b (.inl mb),?_⟩⟩
 rw[k D (.inr rfl) da dl]
 exact pp.2
theorem upS{κ:Type}{O:κ->Ob}(h:∀ j,IsState (O j)):∀ j,IsState (zkx O j):=λj=>(h j.1.1).plus _ _ j.2
def stOb(a l:Addr):Ob:=⟨λb=>b=a\/b=l,λH=>∃ n c p cs,StAt H a l n c p cs,.ref a⟩
theorem z3w(a l:Addr):(stOb a l).Ok:=by
 refine⟨λH H' e ⟨n,c,pl,cs,p⟩=>⟨n,c,pl,cs,p.ne,(e a (.inl rfl)).trans p.ha,(e l (.inr rfl)).trans p.hl,p.n0,p.c0⟩,λH b o ⟨n,c,pl,cs,p⟩ eb m=>?_,λH b ⟨n,c,pl,cs,p⟩ m=>?_⟩
 ·rcases m with rfl|rfl
  ·rw[p.ha] at eb;cases eb;exact⟨λ_ z=>(by cases z),λ_ _ z=>(by cases z)⟩
  ·rw[p.hl] at eb;cases eb;exact⟨λ_ z=>(by cases z),λ_ _ z=>(by cases z)⟩
 ·rcases m with rfl|rfl
  ·exact⟨_,p.ha⟩
  ·exact⟨_,p.hl⟩
theorem z5s(a l:Addr):IsState (stOb a l):=⟨a,l,rfl,.inl rfl,.inr rfl,λ_ p=>p,λ_ _ n c p cs _ q _=>⟨n,c,p,cs,q⟩⟩
abbrev mAdd(a b:TE):TE:=tOp (rI0 λi j => .int (i+j)) a b
abbrev mMul(a b:TE):TE:=tOp (rI CMul λi j => .int (i * j)) a b
abbrev mMod(a b:TE):TE:=tOp (rI (λ_ j=>0<j) λi j => .int (i % j)) a b
abbrev mDiv(a b:TE):TE:=tOp (rI CDiv λi j => .int (i / j)) a b
abbrev mC(i:Int):TE:=tC (.int i)
abbrev mLen(K:Qa):TE:=tCB (lenR K) (zbb (pAt K 0) tNil)
def zkc(K:Qa):TS :=
 tSeq (tAsg (mMod (mAdd (mAdd (mMul (mMod (tVar 3) (mC 2147483629)) (mC 48271)) (mMul (mC 7919) (pAt K 2))) (mC 5)) (mC 2147483647)) (zbs 4))
 (tSeq (tAsg (mMod (mAdd (mMul (tVar 4) (tVar 4)) (mMul (mC 104729) (pAt K 2))) (mC 2147483629)) (zbs 4))
 (tSeq (tAsg (mMod (mAdd (mMul (tVar 4) (mC 69621)) (mC 16807)) (mC 2147483587)) (zbs 4))
 (tRet (mMod (mMod (mMul (tVar 4) (tVar 4)) (mC 2147483579)) (tVar 1)))))
def zo5(K:Qa):TS :=
 tSeq (tAsg (mAdd (pAt K 2) (mC 1)) (gSub (tVar 0) (mC 2) zhy))
 (tSeq (tIfS (zix (tOp (rI0 λi j => .bl (decide (j<i))) (pAt K 1) (mC 0)))
  (tSeq (tAsg (mMod (pAt K 1) (tVar 1)) (zbs 2)) (tSeq (tAsg (mDiv (pAt K 1) (tVar 1)) (gSub (tVar 0) (mC 1) zhy)) (tRet (tVar 2)))) zjz)
 (tSeq (tAsg (mC 7) (zbs 3))
 (tSeq (tIfS (zix (tOp (rI0 λi j => .bl (decide (i<j))) (pAt K 3) (mLen K)))
  (tSeq (tAsg (tOp (rIxL K) (pAt K 0) (pAt K 3)) (zbs 3)) (tSeq (tAsg (mAdd (pAt K 3) (mC 1)) (gSub (tVar 0) (mC 3) zhy))
   (tIfS (zix (tOp (rI0 λi j => .bl (decide (j<=i))) (tVar 3) (tOp (rI CPow λi j => .int (i ^ j.toNat)) (mC 10) (mC 18))))
    (tSeq (tAsg (mDiv (tVar 3) (tVar 1)) (gSub (tVar 0) (mC 1) zhy)) (tRet (mMod (tVar 3) (tVar 1)))) zjz)))
  (tIfS (zix (tOp (rI0 λi j => .bl (decide (j<i))) (mLen K) (mC 0))) (tAsg (tOp (rIxL K) (pAt K 0) (mMod (pAt K 2) (mLen K))) (zbs 3)) zjz))
 (zkc K))))
theorem zdo{K:Qa}{H:Hp}{a l:Addr}{n c:Int}{pl:Nat}{cs:List Int}{σ:St}{Q:VK}(p:StAt H a l n c pl cs)(hσ:σ[0]? = some (some (.ref a))){i:Int}{v:V}(hv:atI [V.ref l,V.int n,V.int c,V.int pl] i=some v)(q:Q v H):pAt K i σ H Q :=
 ⟨_,hσ,a,_,i,v,rfl,rfl,.of p.ha,hv,q⟩
theorem StAt.setN{H:Hp}{a l:Addr}{n c:Int}{pl:Nat}{cs:List Int}(p:StAt H a l n c pl cs){n':Int}(h:0<=n'):StAt (upd H a (.lst ([V.ref l,V.int n,V.int c,V.int pl].set 1 (.int n')))) a l n' c pl cs :=
 ⟨p.ne,zap,by rw[zaf (ZY p.ne)];exact p.hl,h,p.c0⟩
theorem StAt.setC{H:Hp}{a l:Addr}{n c:Int}{pl:Nat}{cs:List Int}(p:StAt H a l n c pl cs){c':Int}(h:0<=c'):StAt (upd H a (.lst ([V.ref l,V.int n,V.int c,V.int pl].set 2 (.int c')))) a l n c' pl cs :=
 ⟨p.ne,zap,by rw[zaf (ZY p.ne)];exact p.hl,p.n0,h⟩
theorem StAt.setP{H:Hp}{a l:Addr}{n c:Int}{pl:Nat}{cs:List Int}(p:StAt H a l n c pl cs){pl':Nat}:StAt (upd H a (.lst ([V.ref l,V.int n,V.int c,V.int pl].set 3 (.int pl')))) a l n c pl' cs :=
 ⟨p.ne,zap,by rw[zaf (ZY p.ne)];exact p.hl,p.n0,p.c0⟩
theorem zo7{K:Qa}{H:Hp}{a l:Addr}{n c:Int}{pl:Nat}{cs:List Int}{m cell:Int}{o2 o4:Option V}{D:Ends}(p:StAt H a l n c pl cs)(m0:0<m)(q:∀ k,0<=k->k<m->D.rt (.int k) H):zkc K D [some (.ref a),some (.int m),o2,some (.int cell),o4] H:=by
 refine⟨_,rfl,cell,2147483629,rfl,rfl,(show(0:Int)<2147483629 by decide),?_⟩
 refine⟨_,_,rfl,rfl,.inr ⟨by decide,by decide⟩,?_⟩
 refine zdo p rfl rfl ?_
 refine⟨7919,c,rfl,rfl,.inl ⟨by decide,by decide⟩,?_⟩
 refine⟨_,_,rfl,rfl,_,_,rfl,rfl,_,_,rfl,rfl,(show(0:Int)<2147483647 by decide),?_⟩
 dsimp only
 generalize hA:(cell % 2147483629 * 48271+7919 * c+5) % 2147483647=A
 have a0:0<=A:=hA ▸ JE _ (by decide)
 have a1:A<2147483647:=hA ▸ Jp _ (by decide)
 refine⟨_,rfl,_,rfl,A,A,rfl,rfl,.inl ⟨by omega,by omega⟩,?_⟩
 refine zdo p rfl rfl ?_
 refine⟨104729,c,rfl,rfl,.inl ⟨by decide,by decide⟩,?_⟩
 refine⟨_,_,rfl,rfl,_,_,rfl,rfl,(show(0:Int)<2147483629 by decide),?_⟩
 dsimp only
 generalize hB:(A * A+104729 * c) % 2147483629=B
 refine⟨_,rfl,B,69621,rfl,rfl,.inr ⟨by decide,by decide⟩,?_⟩
 refine⟨_,_,rfl,rfl,_,_,rfl,rfl,(show(0:Int)<2147483587 by decide),?_⟩
 dsimp only
 generalize hC:(B * 69621+16807) % 2147483587=C
 have c0:0<=C:=hC ▸ JE _ (by decide)
 have c1:C<2147483587:=hC ▸ Jp _ (by decide)
 refine⟨_,rfl,_,rfl,C,C,rfl,rfl,.inl ⟨by omega,by omega⟩,?_⟩
 refine⟨_,_,rfl,rfl,(show(0:Int)<2147483579 by decide),_,rfl,_,_,rfl,rfl,m0,?_⟩
 exact q _ (JE _ (by omega)) (Jp _ m0)
theorem zx6{K:Qa}{H:Hp}{a l:Addr}{n c:Int}{pl:Nat}{cs:List Int}{m:Int}{D:Ends}(p:StAt H a l n c pl cs)(m0:0<m)(m1:m<1073741824)
 (q:∀ k H' n' c' pl',0<=k->k<m->StAt H' a l n' c' pl' cs->PotStp a l H H'->D.rt (.int k) H'):zo5 K D [some (.ref a),some (.int m),none,none,none] H:=by
 refine zdo p rfl rfl ?_
 refine⟨c,1,rfl,rfl,?_⟩
 refine⟨_,rfl,a,_,2,2,rfl,rfl,p.ha,rfl,?_⟩
 have c0:=p.c0
 have p1:=p.setC (c':=c+1) (by omega)
 refine zdo p1 rfl rfl ?_
 refine⟨n,0,rfl,rfl,_,rfl,?_⟩
 refine ite2 (λz=>?_) (λz=>?_)
 ·refine zdo p1 rfl rfl ?_
  refine⟨_,rfl,n,m,rfl,rfl,m0,?_⟩
  refine zdo p1 rfl rfl ?_
  refine⟨_,rfl,n,m,rfl,rfl,⟨m0,m1⟩,?_⟩
  refine⟨_,rfl,a,_,1,1,rfl,rfl,p1.ha,rfl,?_⟩
  exact⟨_,rfl,q _ _ _ _ _ (JE _ (by omega)) (Jp _ m0) (p1.setN (zc p.n0 (by omega))) (PotStp.trans (.upA _) (.upA _))⟩
 ·refine zdo p1 rfl rfl ?_
  have ln:∀ {Q:VK} {σ:St},σ[0]? = some (some (.ref a))->Q (.int (cs.length:Nat)) (upd H a (.lst ([V.ref l,V.int n,V.int c,V.int pl].set 2 (.int (c+1)))))->mLen K σ (upd H a (.lst ([V.ref l,V.int n,V.int c,V.int pl].set 2 (.int (c+1))))) Q:=λhs q=>zdo p1 hs rfl ⟨_,_,rfl,.inl ⟨_,.of p1.hl,by rw[Qe]⟩,q⟩
  refine ln rfl ?_
  refine⟨(pl:Nat),(cs.length:Nat),rfl,rfl,_,rfl,?_⟩
  refine ite2 (λz2=>?_) (λz2=>?_)
  ·have hlt:pl<cs.length:=by have:=of_decide_eq_true z2;omega
   refine zdo p1 rfl rfl ?_
   refine zdo p1 rfl rfl ?_
   refine⟨l,_,(pl:Nat),.int cs[pl],rfl,rfl,.of p1.hl,?_,?_⟩
   ·exact zg0 (by rw[Q4,Qk hlt];rfl)
   refine zdo p1 rfl rfl ?_
   refine⟨(pl:Nat),1,rfl,rfl,?_⟩
   refine⟨_,rfl,a,_,3,3,rfl,rfl,p1.ha,rfl,?_⟩
   have p2:=p1.setP (pl':=pl+1)
   generalize cs[pl]=cell
   have out:zkc K D [some (.ref a),some (.int m),none,some (.int cell),none] (upd (upd H a (.lst ([V.ref l,V.int n,V.int c,V.int pl].set 2 (.int (c+1))))) a (.lst ([V.ref l,V.int n,V.int (c+1),V.int pl].set 3 (.int ((pl+1:Nat):Int))))):=zo7 p2 m0 λk k0 k1=>q k _ _ _ _ k0 k1 p2 (PotStp.trans (.upA _) (.upA _))
   refine⟨_,rfl,10,18,rfl,rfl,⟨by decide,by decide,by decide⟩,cell,_,rfl,rfl,_,rfl,?_⟩
   refine ite2 (λz3=>?_) (λ_=>out)
   have hc:(10:Int) ^ (18:Nat)<=cell:=of_decide_eq_true z3
   have hc0:0<=cell:=by omega
   refine⟨_,rfl,_,rfl,cell,m,rfl,rfl,⟨m0,m1⟩,?_⟩
   refine⟨_,rfl,a,_,1,1,rfl,rfl,p2.ha,rfl,?_⟩
   have p3:=p2.setN (n':=cell / m) (zc hc0 (by omega))
   exact⟨_,rfl,_,rfl,cell,m,rfl,rfl,m0,q _ _ _ _ _ (JE _ (by omega)) (Jp _ m0) p3 (PotStp.trans (PotStp.trans (.upA _) (.upA _)) (.upA _))⟩
  ·have out:∀ cell:Int,zkc K D [some (.ref a),some (.int m),none,some (.int cell),none] (upd H a (.lst ([V.ref l,V.int n,V.int c,V.int pl].set 2 (.int (c+1))))):=λcell=>zo7 p1 m0 λk k0 k1=>q k _ _ _ _ k0 k1 p1 (.upA _)
   refine ln rfl ?_
   refine⟨(cs.length:Nat),0,rfl,rfl,_,rfl,?_⟩
   refine ite2 (λz3=>?_) (λ_=>out 7)
   have hl:0<cs.length:=by have:=of_decide_eq_true z3;omega
   refine zdo p1 rfl rfl ?_
   refine zdo p1 rfl rfl ?_
   refine ln rfl ?_
   refine⟨c+1,(cs.length:Nat),rfl,rfl,(show(0:Int)<(cs.length:Nat) by omega),?_⟩
   dsimp only
   have i0:0<=(c+1) % ((cs.length:Nat):Int):=JE _ (by omega)
   have i1:(c+1) % ((cs.length:Nat):Int)<((cs.length:Nat):Int):=Jp _ (by omega)
   obtain⟨j,hj⟩:=Zn i0
   rw[hj] at i1 ⊢
   have hlt:j<cs.length:=by omega
   exact⟨l,_,(j:Nat),.int cs[j],rfl,rfl,.of p1.hl,zg0 (by rw[Q4,Qk hlt];rfl),out _⟩
theorem z6o{O:Ob}{H H':Hp}{a l:Addr}{n c n' c':Int}{p p':Nat}{cs cs':List Int}(ma:O.M a)(ml:O.M l)(h2:∀ H H' n c p cs,O.P H->StAt H' a l n c p cs->(∀ b,O.M b->b ≠ a->b ≠ l->H' b=H b)->O.P H')(p0:StAt H a l n c p cs)(p1:StAt H' a l n' c' p' cs')(st:PotStp a l H H'):Stp O H H':=by
 refine⟨λb o e nm=>?_,λpp=>h2 H H' _ _ _ _ pp p1 λb _ h3 h4=>st.oth b h3 h4,λb u hu e=>?_⟩
 ·rw[st.oth b (λz=>nm (z ▸ ma)) λz=>nm (z ▸ ml)];exact e
 ·rw[st.oth b (λz=>?_) λz=>?_]
  ·exact e
  ·rw[z,p0.ha] at e;cases e;obtain⟨xs,e1|⟨o,e1⟩⟩:=hu <;> cases e1
  ·rw[z,p0.hl] at e;cases e;obtain⟨xs,e1|⟨o,e1⟩⟩:=hu <;> cases e1
theorem zss{K:Qa}{O:Ob}{H:Hp}{ds:List PyData}{ws:List V}{Qr:R->Prop}{Q:VK}{x1 x2 x3 x4 x5:Str}(hφ:IsState O)(p:O.P H)(is:IsAll K (unM O) H ws ds)(q:zi9 ds Qr)(kk:∀ r,Qr r->∀ v H',Stp O H H'->Out K O H H' v r->Q v H') :
 zo5 K { nx:=λ_ H'=>Q .non H',rt:=Q } (L2.start [x1,x2,x3,x4,x5] (O.v::ws)) H:=by
 obtain⟨m,rfl,m0,m1,q⟩:=q
 obtain⟨a,l,hv,ma,ml,h1,h2⟩:=hφ.ex
 obtain⟨n,c,pl,cs,pa⟩:=h1 H p
 cases is with
 | cons i1 is =>
   cases is
   cases i1
   rw[hv]
   exact zx6 pa m0 m1 λk H' n' c' pl' k0 k1 pa' st=>kk _ (q k k0 k1) _ H' (z6o ma ml h2 pa pa' st) (.int k)
end L3
namespace L32
open PySem PySem.Spec
open PyProof.Rows hiding St
open L2 L3
def top(i:Nat):Stmt:=PySem.Challenge.pw_lostpost_k32_texts_of_no_house.main.body.getD i (.Pass ⟨0,0,0,0⟩)
section
variable {P : Program} {w : World} {K : Qa} {mg : Str → Option Value} {base : Heap} {k : Nat}
abbrev ze8(P:Program)(w:World)(K:Qa)(mg:Str->Option Value)(base:Heap):Prop:=Def3 P w K mg base 1 "_law_draw" ["_law_state", "_law_many"] (spD K IsState 1 zi9)
abbrev zte:Stmt:=top 28
theorem yag:FnScope ["_law_state", "_law_many", "_law_found", "_law_cell", "_law_number_here"] ["_law_state", "_law_many"] (zah zte):=⟨rfl,rfl,rfl,by decide +kernel,rfl,by decide +kernel,by decide +kernel⟩
theorem zaj(B:Blt mg)(T:Top3 K mg "_law_draw" zte):Def3 P w K mg base 1 "_law_draw" ["_law_state", "_law_many"] (spD K IsState 1 zi9):=by
 obtain⟨f,fd,Fu,m⟩:=T.ex
 refine⟨f,fd,Fu.ok yag (zqi rfl) (λcdv A outer s H vs Q E hr h=>?_),m,Fu.kp,Fu.binds (λ_ _ _ _ _ _ us hl=>len2 hl λ_ _=>rfl)⟩
 obtain⟨O,ds,ws,Qr,ok,hφ,p,hl,rfl,is,q,kk⟩:=h
 have nd:(["_law_state", "_law_many", "_law_found", "_law_cell", "_law_number_here"]:List Str).Nodup:=by decide +kernel
 refine⟨zo5 K,?_,zss hφ p is q kk⟩
 exact(zbo (zir (zbl op_add (zby ix_list (zaq (i:=0) rfl (by first|exact Or.inl rfl|exact Or.inr (Or.inl rfl)|exact Or.inr (Or.inr rfl))) zau (λ_ _=>rfl)) zau) (zh8 (zaq (i:=0) rfl (by first|exact Or.inl rfl|exact Or.inr (Or.inl rfl)|exact Or.inr (Or.inr rfl))) zau zgh)) (zbo (zi4 (zhb zng (zby ix_list (zaq (i:=0) rfl (by first|exact Or.inl rfl|exact Or.inr (Or.inl rfl)|exact Or.inr (Or.inr rfl))) zau (λ_ _=>rfl)) zau (zb1 _)) (zbo (zdi (i:=2) nd rfl (by first|exact Or.inl rfl|exact Or.inr rfl) (zbl zeu (zby ix_list (zaq (i:=0) rfl (by first|exact Or.inl rfl|exact Or.inr (Or.inl rfl)|exact Or.inr (Or.inr rfl))) zau (λ_ _=>rfl)) (zaq (i:=1) rfl (by first|exact Or.inl rfl|exact Or.inr (Or.inl rfl)|exact Or.inr (Or.inr rfl))))) (zbo (zir (zbl zru (zby ix_list (zaq (i:=0) rfl (by first|exact Or.inl rfl|exact Or.inr (Or.inl rfl)|exact Or.inr (Or.inr rfl))) zau (λ_ _=>rfl)) (zaq (i:=1) rfl (by first|exact Or.inl rfl|exact Or.inr (Or.inl rfl)|exact Or.inr (Or.inr rfl)))) (zh8 (zaq (i:=0) rfl (by first|exact Or.inl rfl|exact Or.inr (Or.inl rfl)|exact Or.inr (Or.inr rfl))) zau zgh)) (zdq (zg4 (zaq (i:=2) rfl (by first|exact Or.inl rfl|exact Or.inr (Or.inl rfl)|exact Or.inr (Or.inr rfl))))))) zi1) (zbo (zdi (i:=3) nd rfl (by first|exact Or.inl rfl|exact Or.inr rfl) zau) (zbo (zi4 (zhb zsw (zby ix_list (zaq (i:=0) rfl (by first|exact Or.inl rfl|exact Or.inr (Or.inl rfl)|exact Or.inr (Or.inr rfl))) zau (λ_ _=>rfl)) (zhr zhh rfl B.len zkd (za7 (zby ix_list (zaq (i:=0) rfl (by first|exact Or.inl rfl|exact Or.inr (Or.inl rfl)|exact Or.inr (Or.inr rfl))) zau (λ_ _=>rfl)) zb9)) (zb1 _)) (zbo (zdi (i:=3) nd rfl (by first|exact Or.inl rfl|exact Or.inr rfl) (zby ix_list (zby ix_list (zaq (i:=0) rfl (by first|exact Or.inl rfl|exact Or.inr (Or.inl rfl)|exact Or.inr (Or.inr rfl))) zau (λ_ _=>rfl)) (zby ix_list (zaq (i:=0) rfl (by first|exact Or.inl rfl|exact Or.inr (Or.inl rfl)|exact Or.inr (Or.inr rfl))) zau (λ_ _=>rfl)) (λ_ _=>rfl))) (zbo (zir (zbl op_add (zby ix_list (zaq (i:=0) rfl (by first|exact Or.inl rfl|exact Or.inr (Or.inl rfl)|exact Or.inr (Or.inr rfl))) zau (λ_ _=>rfl)) zau) (zh8 (zaq (i:=0) rfl (by first|exact Or.inl rfl|exact Or.inr (Or.inl rfl)|exact Or.inr (Or.inr rfl))) zau zgh)) (zdq (zi4 (zhb ybx (zaq (i:=3) rfl (by first|exact Or.inl rfl|exact Or.inr (Or.inl rfl)|exact Or.inr (Or.inr rfl))) (zbl z9g zau zau) (zb1 _)) (zbo (zir (zbl zru (zaq (i:=3) rfl (by first|exact Or.inl rfl|exact Or.inr (Or.inl rfl)|exact Or.inr (Or.inr rfl))) (zaq (i:=1) rfl (by first|exact Or.inl rfl|exact Or.inr (Or.inl rfl)|exact Or.inr (Or.inr rfl)))) (zh8 (zaq (i:=0) rfl (by first|exact Or.inl rfl|exact Or.inr (Or.inl rfl)|exact Or.inr (Or.inr rfl))) zau zgh)) (zdq (zg4 (zbl zeu (zaq (i:=3) rfl (by first|exact Or.inl rfl|exact Or.inr (Or.inl rfl)|exact Or.inr (Or.inr rfl))) (zaq (i:=1) rfl (by first|exact Or.inl rfl|exact Or.inr (Or.inl rfl)|exact Or.inr (Or.inr rfl))))))) zi1)))) (zdq (zi4 (zhb zng (zhr zhh rfl B.len zkd (za7 (zby ix_list (zaq (i:=0) rfl (by first|exact Or.inl rfl|exact Or.inr (Or.inl rfl)|exact Or.inr (Or.inr rfl))) zau (λ_ _=>rfl)) zb9)) zau (zb1 _)) (zdq (zdi (i:=3) nd rfl (by first|exact Or.inl rfl|exact Or.inr rfl) (zby ix_list (zby ix_list (zaq (i:=0) rfl (by first|exact Or.inl rfl|exact Or.inr (Or.inl rfl)|exact Or.inr (Or.inr rfl))) zau (λ_ _=>rfl)) (zbl zeu (zby ix_list (zaq (i:=0) rfl (by first|exact Or.inl rfl|exact Or.inr (Or.inl rfl)|exact Or.inr (Or.inr rfl))) zau (λ_ _=>rfl)) (zhr zhh rfl B.len zkd (za7 (zby ix_list (zaq (i:=0) rfl (by first|exact Or.inl rfl|exact Or.inr (Or.inl rfl)|exact Or.inr (Or.inr rfl))) zau (λ_ _=>rfl)) zb9))) (λ_ _=>rfl)))) zi1))) (zbo (zdi (i:=4) nd rfl (by first|exact Or.inl rfl|exact Or.inr rfl) (zbl zeu (zbl op_add (zbl op_add (zbl op_mul (zbl zeu (zaq (i:=3) rfl (by first|exact Or.inl rfl|exact Or.inr (Or.inl rfl)|exact Or.inr (Or.inr rfl))) zau) zau) (zbl op_mul zau (zby ix_list (zaq (i:=0) rfl (by first|exact Or.inl rfl|exact Or.inr (Or.inl rfl)|exact Or.inr (Or.inr rfl))) zau (λ_ _=>rfl)))) zau) zau)) (zbo (zdi (i:=4) nd rfl (by first|exact Or.inl rfl|exact Or.inr rfl) (zbl zeu (zbl op_add (zbl op_mul (zaq (i:=4) rfl (by first|exact Or.inl rfl|exact Or.inr (Or.inl rfl)|exact Or.inr (Or.inr rfl))) (zaq (i:=4) rfl (by first|exact Or.inl rfl|exact Or.inr (Or.inl rfl)|exact Or.inr (Or.inr rfl)))) (zbl op_mul zau (zby ix_list (zaq (i:=0) rfl (by first|exact Or.inl rfl|exact Or.inr (Or.inl rfl)|exact Or.inr (Or.inr rfl))) zau (λ_ _=>rfl)))) zau)) (zbo (zdi (i:=4) nd rfl (by first|exact Or.inl rfl|exact Or.inr rfl) (zbl zeu (zbl op_add (zbl op_mul (zaq (i:=4) rfl (by first|exact Or.inl rfl|exact Or.inr (Or.inl rfl)|exact Or.inr (Or.inr rfl))) zau) zau) zau)) (zdq (zg4 (zbl zeu (zbl zeu (zbl op_mul (zaq (i:=4) rfl (by first|exact Or.inl rfl|exact Or.inr (Or.inl rfl)|exact Or.inr (Or.inr rfl))) (zaq (i:=4) rfl (by first|exact Or.inl rfl|exact Or.inr (Or.inl rfl)|exact Or.inr (Or.inr rfl)))) zau) (zaq (i:=1) rfl (by first|exact Or.inl rfl|exact Or.inr (Or.inl rfl)|exact Or.inr (Or.inr rfl)))))))))))))
end
end L32
namespace L3
open PySem PySem.Spec
open PyProof.Rows hiding St
open L2
theorem zrh{neg:Bool}{x y:Str}(hx:Jf x=true)(hy:Jf y=true):eqF neg (.str x) (.str y)=some (.o (.bool (if neg then !(x == y) else x == y))):=by
 unfold eqF
 rw[if_pos (by simp[okD,J5,JV,hx,hy])]
 rfl
theorem zib{v w:List Nat}(h:tx v=tx w):v=w:=by
 have:=congrArg (λx:Str=>x.cps.toList) h
 simpa[tx] using this
theorem zlg{neg:Bool}{i j:Int}:eqF neg (.int i) (.int j)=some (.o (.bool (if neg then !decide (i=j) else decide (i=j)))):=by
 unfold eqF
 have e:(okD (ZO i) && (ZO j).canLay0)=true:=by simp[okD,J5,JV]
 rw[if_pos e]
 rfl
theorem zc0{α:Type}{enc:α->PyData}{i:Nat}{fe:DE}{ρ:DSt}{Q:List PyData->Prop}{as:List α}{e:α->PyData}{h:Nat}(step:∀ a ∈ as,∀ P:R->Prop,(∀ r,r.d=e a->P r)->fe ((Qm h none++ρ).set i (some (.im (enc a)))) P)(hz:as.length<=sizeLine)(q:Q (as.map e)) :
 zbt h (gN i) yesD fe ρ Q (as.map enc) []:=by
 have key:∀ (as:List α) (acc:List PyData),(∀ a ∈ as,∀ P:R->Prop,(∀ r,r.d=e a->P r)->fe ((Qm h none++ρ).set i (some (.im (enc a)))) P)->acc.length+as.length<=sizeLine->Q (acc++as.map e)->zbt h (gN i) yesD fe ρ Q (as.map enc) acc:=by
  intro as
  induction as with
  | nil=>intro acc _ _ q;show Q acc;simpa using q
  | cons a as ih =>
    intro acc st hz q
    rw[Qy] at hz
    refine st a Q8 _ λr hr=>?_
    refine⟨by omega,?_⟩
    rw[hr]
    exact ih (acc ++ [e a]) (λa' ha=>st a' (Qj _ ha)) (by rw[Qf];simp;omega) (by simpa using q)
 exact key as [] step (by simpa using hz) (by simpa using q)
theorem zb4{g:DG}{gb:DS}{Dd:DEnds}{ds:List PyData}{ρ:DSt}(J:Nat->DSt->Prop)(h0:J 0 ρ)(fin:∀ ρ,J ds.length ρ->Dd.nx ρ)
 (step:∀ (j:Nat) d ρ (N:DSt->Prop),ds[j]? = some d->(∀ ρ',J (j+1) ρ'->N ρ')->J j ρ->flat d=true/\g d ρ λρ2=>gb { Dd with nx:=N,ct:=N,bk:=Dd.nx } ρ2):zfn g gb Dd ds ρ:=by
 have key:∀ (k j:Nat),j+k=ds.length->∀ ρ,J j ρ->zfn g gb Dd (ds.drop j) ρ:=by
  intro k
  induction k with
  | zero =>
    intro j hj ρ h
    rw[Yz (by omega)]
    have e:j=ds.length:=by omega
    rw[e] at h
    exact fin ρ h
  | succ k ih =>
    intro j hj ρ h
    have hlt:j<ds.length:=by omega
    rw[Jd hlt]
    exact step j ds[j] ρ _ (Qk hlt) (λρ' h'=>ih (j+1) (by omega) ρ' h') h
 have:=key ds.length 0 (by omega) ρ h0
 simpa using this
theorem zc3(lo:Int)(n:Nat):(ze6 lo n).length=n:=by simp[ze6]
theorem zav{α:Type}{f:α->PyData}(h:∀ a,flat (f a)=true):∀ l:List α,flats (l.map f)=true
 | []=>rfl
 | a::l=>by rw[Q3,flats,h a,zav h l];rfl
abbrev LowW(w:List Nat):Prop:=∀ c ∈ w,z0e c
theorem zb5(w:List Nat):(tx w).length=w.length:=by simp[tx,ja]
theorem zgc{w:List Nat}(h:w.length<=16777216):lenF [.str (tx w)]=some (.o (.int w.length)):=by
 unfold lenF
 dsimp only
 rw[zb5,if_pos (by rw[sizeLine_eq];exact h)]
theorem zdc{w:List Nat}{k:Nat}(h:k<w.length)(hl:w.length<=16777216):idxF (.str (tx w)) (.int (k:Nat))=some (.o (.str (tx [w[k]]))):=by
 unfold idxF
 dsimp only
 rw[zb5,if_pos (by rw[sizeLine_eq];exact hl),zbd,zg0 (v:=w[k]) (by rw[Qk h])]
 rfl
theorem zf4{v w:List Nat}(h:v.length+w.length<=16777216):addF (.str (tx v)) (.str (tx w))=some (.o (.str (tx (v++w)))):=by
 unfold addF
 dsimp only
 rw[zb5,zb5,if_pos (by rw[sizeLine_eq];exact h)]
 have e:tx v++tx w=tx (v++w):=by
  show Str.mk _=Str.mk _
  simp[tx]
 rw[e]
theorem zq8(n d m:Nat):HT.sIx n d (some (m:Int))=min m n:=by
 have:=zeb n d (m:Int)
 rw[if_neg (by omega)] at this
 omega
theorem zpi(n d:Nat):HT.sIx n d none=d:=rfl
theorem zf3{α:Type}(xs:List α)(m:Nat):cutL xs none (some (m:Int))=xs.take m:=by
 unfold cutL
 rw[zq8,zpi,jV,Nat.sub_zero,jQ,Nat.min_assoc,Nat.min_self,<- jQ]
theorem zec{α:Type}(xs:List α)(m:Nat):cutL xs (some (m:Int)) none=xs.drop m:=by
 unfold cutL
 rw[zq8,zpi]
 rcases Nat.le_total m xs.length with h|h
 ·rw[Nat.min_eq_left h,jH (by rw[Z1];exact Qt _)]
 ·rw[Nat.min_eq_right h,Yz (Qt _),Yz h,zx]
theorem z0q{v:List Nat}{lo hi:Option Int}(h:v.length<=16777216):slcF lo hi (.str (tx v))=some (.o (.str (tx (cutL v lo hi)))):=by
 unfold slcF
 dsimp only
 rw[zb5,zbd,if_pos (by rw[sizeLine_eq];exact h)]
theorem zf0{o:Nat}{m:Int}{ρ:DSt}{Q:R->Prop}(hρ:ρ[o]? = some (some .ob))(h0:0<m)(h1:m<1073741824)(q:∀ k:Nat,(k:Int)<m->Q (.o (.int (k:Nat)))):calO o 1 zi9 (ze9 (cD (.int m)) aNil) ρ Q:=by
 refine⟨hρ,rfl,m,rfl,h0,h1,λk k0 k1=>?_⟩
 have:=q k.toNat (by omega)
 rwa [show((k.toNat:Nat):Int)=k by omega] at this
theorem zxs{o i:Nat}{d:PyData}{n:Nat}{ρ:DSt}{Q:R->Prop}(hρ:ρ[o]? = some (some .ob)){v:DV}(hi:ρ[i]? = some (some v))(hv:seeR v=some d)(hl:lenF [d]=some (.o (.int (n:Nat))))(h0:0<n)(h1:n<1073741824)(q:∀ k:Nat,k<n->Q (.o (.int (k:Nat)))) :
 calO o 1 zi9 (ze9 (zci (fn1 lenF) (ze9 (vD i) aNil)) aNil) ρ Q:=by
 refine⟨hρ,_,_,hi,hv,_,hl,rfl,_,rfl,by omega,by omega,λk k0 k1=>?_⟩
 have:=q k.toNat (by omega)
 rwa [show((k.toNat:Nat):Int)=k by omega] at this
theorem zuk{o i:Nat}{ls:List Nat}{ρ:DSt}{Q:R->Prop}(hρ:ρ[o]? = some (some .ob))(hi:ρ[i]? = some (some (.im (.str (tx ls)))))(hn:ls ≠ [])(hl:ls.length<=1000)(q:∀ c ∈ ls,Q (.o (.str (tx [c])))) :
 opDE (fn2 idxF) (vD i) (calO o 1 zi9 (ze9 (zci (fn1 lenF) (ze9 (vD i) aNil)) aNil)) ρ Q:=by
 have h0:0<ls.length:=Yd.mpr hn
 refine⟨_,_,hi,rfl,zxs hρ hi rfl (zgc (by omega)) h0 (by omega) λk hk=>⟨_,zdc hk (by omega),q _ (QQ hk)⟩⟩
theorem z4q(ws:List Nat)(hl:ws.length<=1000):∃ ys:List Str,Zo (ws.map λc => .str (tx [c])) = .list (ys.map .str)/\(ys.map (·.length)).sum+ys.length * (Qi "").length<=16777216/\Yw "" ys=tx ws:=by
 refine⟨ws.map sg,by rw[Q5];rfl,?_,z1d ws⟩
 have e0:(Qi "").length=0:=by decide +kernel
 rw[z8l,e0]
 omega
theorem zyo{α β:Type}(f:α->β)(xs:List α)(lo hi:Option Int):cutL (xs.map f) lo hi=(cutL xs lo hi).map f:=by
 unfold cutL
 rw[Qe,List.map_take,ql]
theorem zvp:Qi "abcdefghijklmnopqrstuvwxyz" = tx abc:=by decide +kernel
theorem z5a:LowW abc:=by unfold LowW z0e;decide
def zkm(K:Qa):Sp:=λvs H Q _=>∃ (a:Addr) (ns:List Int),vs = [.ref a]/\SqL K H a (ns.map V.int)/\ns.length<=63/\∀ H',Q (.bl true) H'
theorem zh1{α:Type}{f:α->PyData}:∀ {l:List α},(∀ a ∈ l,(f a).canLay0=true)->ZC (l.map f)=true
 | [],_=>rfl
 | a::l,h=>by rw[Q3,ZC,h a Q8,zh1 λx hx=>h x (Qj _ hx)];rfl
theorem zij{α:Type}{f:α->PyData}{n:Nat}:∀ {l:List α},(∀ a ∈ l,(f a).depth<=n)->Yk (l.map f)<=n
 | [],_=>by simp[Yk]
 | a::l,h=>by
   rw[Q3,Yk]
   exact Nat.max_le.mpr ⟨h a Q8,zij λx hx=>h x (Qj _ hx)⟩
theorem zjw:fillsNumberSlot (.type "tuple") "mul" = pure false :=
 PySem.fillsNumberSlot_seq (id := "tuple.__mul__") (r:=some (.builtin "tuple.__rmul__")) JW.lookup (by decide +kernel) qI.lookup (by decide +kernel)
theorem zn8:seqRepeat? (.type "tuple")=pure (some (.builtin "tuple.__mul__")):=by
 unfold seqRepeat?
 rw[qT (T := "tuple") (name := "__mul__") (id := "tuple.__mul__") JW.lookup (by decide +kernel),qT (T := "tuple") (name := "__rmul__") (id := "tuple.__rmul__") qI.lookup (by decide +kernel)]
 rfl
theorem zlo(a:Int)(t:Tok)(l:Addr)(items:Array Value)(n:Nat)(dd:Option Addr)(sl:Array (Option Value)) :
 Meets (Builtin.«int.__rmul__» ⟨[.int a t,.ref l],[]⟩) (λ_ R s=>s.heap.get? l=some { cls := .type "tuple", dict:=dd,data := .seq items n,slots:=sl }/\R (.ok (.ret Value.notImplemented)) s) :=
 .of_wp λprog w A R s h=>by obtain⟨hp,g,d,tk,os⟩:=s;obtain⟨hl,h⟩:=h;wp_walk;exact⟨_,rfl,h⟩
theorem zk6(l:Addr)(items:Array Value)(n:Nat)(dd:Option Addr)(sl:Array (Option Value))(x:Int)(u:Tok)(hr:(decide (x < -2 ^ 63) || decide (x ≥ 2 ^ 63))=false)(h1:(items.isEmpty || x == 1)=true) :
 Meets (Builtin.«tuple.__mul__» ⟨[.ref l,.int x u],[]⟩) (λ_ R s=>s.heap.get? l=some { cls := .type "tuple", dict:=dd,data := .seq items n,slots:=sl }/\R (.ok (.ret (.ref l))) s) :=
 .of_wp λprog w A R s h=>by obtain⟨hp,g,d,tk,os⟩:=s;obtain⟨hl,h⟩:=h;wp_walk;refine wpAny_ite_false (decide_eq_false (by rw[hr];exact Qc)) ?_;wp_walk;exact⟨_,rfl,h⟩
theorem zlf(l:Addr)(items:Array Value)(n:Nat)(dd:Option Addr)(sl:Array (Option Value))(x:Int)(u:Tok)(hr:(decide (x < -2 ^ 63) || decide (x ≥ 2 ^ 63))=false)(h1:¬ (items.isEmpty || x == 1)=true)(h2:(decide (x<=0) || items.isEmpty)=true) :
 Meets (Builtin.«tuple.__mul__» ⟨[.ref l,.int x u],[]⟩) (λ_ R s=>s.heap.get? l=some { cls := .type "tuple", dict:=dd,data := .seq items n,slots:=sl }/\R (.ok (.ret (.ref s.heap.objs.size))) { s with heap:=s.heap.push { cls:=J9 "tuple", data:=zF #[] },toks:=s.toks }) :=
 .of_wp λprog w A R s h=>by obtain⟨hp,g,d,tk,os⟩:=s;obtain⟨hl,h⟩:=h;wp_walk;refine wpAny_ite_false (decide_eq_false (by rw[hr];exact Qc)) ?_;wp_walk;exact⟨_,rfl,h⟩
theorem zk7(l:Addr)(items:Array Value)(n:Nat)(dd:Option Addr)(sl:Array (Option Value))(x:Int)(u:Tok)(hr:(decide (x < -2 ^ 63) || decide (x ≥ 2 ^ 63))=false)(h1:¬ (items.isEmpty || x == 1)=true)(h2:¬ (decide (x<=0) || items.isEmpty)=true)(h3:¬ (items.size:Int) * x > (2 ^ 63 - 1) / 8)(h4:¬ jd ((items.size:Int) * x)=true)(h5:(Y8 (λx1 x2=>x1++x2) #[] (Qm x.toNat items)).size<=sizeLine) :
 Meets (Builtin.«tuple.__mul__» ⟨[.ref l,.int x u],[]⟩) (λ_ R s=>s.heap.get? l=some { cls := .type "tuple", dict:=dd,data := .seq items n,slots:=sl }/\R (.ok (.ret (.ref s.heap.objs.size))) { s with heap:=s.heap.push { cls:=J9 "tuple", data:=zF (Y8 (λx1 x2=>x1++x2) #[] (Qm x.toNat items)) },toks:=s.toks }) :=
 .of_wp λprog w A R s h=>by obtain⟨hp,g,d,tk,os⟩:=s;obtain⟨hl,h⟩:=h;wp_walk;refine wpAny_ite_false (decide_eq_false (by rw[hr];exact Qc)) ?_;wp_walk;refine wpAny_ite_false (decide_eq_false h3) ?_;wp_walk;exact⟨_,rfl,h⟩
section
variable {X : Cx}
def zzo(K:Qa):R2:=λx y H Q=>∃ a k xs,x = .ref a/\y = .int k/\SqT K H a xs/\-(2 ^ 63)<=k/\k<2 ^ 63/\xs.length * k.toNat<=sizeLine /\
 ((xs = []\/k=1)->Q (.ref a) H)/\(¬ (xs = []\/k=1)->∀ p,H p=none->Q (.ref p) (upd H p (.tup (Qm k.toNat xs).flatten)))
theorem z2o:OpR X (binaryOp .Mult) (zzo X.K):=by
 intro pins s σ H x y v u Q I rx ry h
 obtain⟨a,k,xs,rfl,rfl,hS,h1,h2,hz,q1,q2⟩:=h
 cases rx
 obtain⟨t,rfl⟩:=ry
 obtain⟨its,r1,p1,_⟩:=I.tuple hS
 obtain⟨⟨cls,dd,data,sl⟩,ho,hc,n,hd⟩:=id p1
 simp only at hc hd
 subst hc hd
 have hlen:=r1.length
 have hr:(decide (k < -2 ^ 63) || decide (k ≥ 2 ^ 63))=false:=by
  rw[decide_eq_false (by omega),decide_eq_false (by omega)];rfl
 have nil:its.toArray.isEmpty=true↔xs = []:=by
  rw[<- r1.nil_iff]
  simp
 have go:∀ {R:Value->Shared->Prop},wpAny (model X.prog X.w) X.A (call (.builtin "tuple.__mul__") [.ref a,.int k t]) R X.xe s->wpAny (model X.prog X.w) X.A (binaryOp .Mult (.ref a) (.int k t)) R X.xe s:=λ{R} hh =>
  wpAny_binaryOp_repeat_ref (T := "tuple") (U := "int") (by decide) ⟨_,ho,rfl⟩ (λs'=>typeIs_int s' k t) zjw F.fills_int_mul YJ zn8 qR.lookup
   (call_meets YJ (typeIs_int s k t) qS (qG _ _) (zlo k t a its.toArray n dd sl) ⟨ho,rfl,⟨_,ho,rfl⟩,hh⟩)
 by_cases hc:xs = []\/k=1
 ·refine go (call_meets JW ⟨_,ho,rfl⟩ jo (je _ _) (zk6 a its.toArray n dd sl k t hr ?_) ⟨ho,⟨.ref a,H,I,rfl,q1 hc⟩⟩)
  rcases hc with e|e
  ·rw[nil.mpr e];rfl
  ·rw[e];simp
 ·have hx:xs ≠ []:=λe=>hc (.inl e)
  have hk:k ≠ 1:=λe=>hc (.inr e)
  have hne:its.toArray.isEmpty=false:=by
   cases e:its.toArray.isEmpty with
   | false=>rfl
   | true=>exact absurd (nil.mp e) hx
  have hb:¬ (its.toArray.isEmpty || k == 1)=true:=by rw[hne];simp[hk]
  by_cases h0:k<=0
  ·refine go (call_meets JW ⟨_,ho,rfl⟩ jo (je _ _) (zlf a its.toArray n dd sl k t hr hb (by rw[decide_eq_true h0];rfl)) ⟨ho,?_⟩)
   have e0:k.toNat=0:=by omega
   have q:=q2 hc s.heap.objs.size (I.hok.fresh (Qt _))
   rw[e0] at q
   exact⟨.ref s.heap.objs.size,_,I.laid (t':=s.toks) (o := .tup []) (λb ob q=>Qb _ q) (Qt _) ⟨QO _,_,.nil,j8 _ _⟩,rfl,q⟩
  ·have hsz:(its.toArray.size:Int) * k=((xs.length * k.toNat:Nat):Int):=by
    rw[Qs,<- hlen]
    rw[zd]
    congr 1
    omega
   have hnew:Y8 (λx1 x2=>x1++x2) #[] (Qm k.toNat its.toArray)=(Qm k.toNat its).flatten.toArray:=by
    have:=zh5 its k.toNat []
    rw[Yj] at this
    exact this
   have sz:=sizeLine_eq
   refine go (call_meets JW ⟨_,ho,rfl⟩ jo (je _ _) (zk7 a its.toArray n dd sl k t hr hb (by rw[hne,decide_eq_false h0];exact Qc) (by rw[hsz];omega) (by rw[hsz];unfold jd;rw[decide_eq_false (by omega)];exact Qc) (by rw[hnew,Qs,ziz,<- hlen,jG];exact hz)) ⟨ho,?_⟩)
   rw[hnew]
   exact⟨.ref s.heap.objs.size,_,I.laid (t':=s.toks) (o := .tup (Qm k.toNat xs).flatten) (λb ob q=>Qb _ q) (Qt _) ⟨by rw[ziz,jG];exact hz,_,r1.rep k.toNat,j8 _ _⟩,rfl,q2 hc _ (I.hok.fresh (Qt _))⟩
def zzh:R2:=λx y H Q=>∃ i k,x = .str i/\y = .int k/\-(2 ^ 63)<=k/\k<2 ^ 63/\i.length * k.toNat<=sizeLine/\Q (.str (tx (Qm k.toNat i.cps.toList).flatten)) H
theorem zks(w:List Nat):∀ (k:Nat) (acc:List Nat),Y8 (λx1 x2=>x1++x2) acc.toArray (Qm k w.toArray)=(acc++(Qm k w).flatten).toArray
 | 0,acc=>by simp
 | k+1,acc=>by
   rw[Z7,Ju,List.append_toArray,zks w k (acc++w),Z7,ZB,Qw]
theorem op_repS:OpR X (binaryOp .Mult) zzh:=by
 intro pins s σ H x y v u Q I rx ry h
 obtain⟨i,k,rfl,rfl,h1,h2,hz,q⟩:=h
 obtain⟨t,rfl⟩:=rx
 obtain⟨t2,rfl⟩:=ry
 have sz:=sizeLine_eq
 have hr:(decide (k < -(2 ^ 63:Int)) || decide (k ≥ 2 ^ 63))=false:=by
  rw[decide_eq_false (by omega),decide_eq_false (by omega)];rfl
 have hlen:i.length=i.cps.toList.length:=by simp[ja]
 have hnew:(⟨(Qm k.toNat i.cps).foldl (· ++ ·) #[]⟩:Str)=tx (Qm k.toNat i.cps.toList).flatten:=by
  have:=zks i.cps.toList k.toNat []
  rw[Yj] at this
  show Str.mk _=Str.mk _
  rw[<- this]
 refine PySem.P.mul_str hr (λn1 nn=>?_) (λn1 nn=>?_) ?_
 ·have hk:0<k.toNat:=by omega
  have h3:i.length<=sizeLine:=Q2 (Nat.le_mul_of_pos_right _ hk) hz
  intro hh
  have h4:(i.length:Int) * k<=16777216:=by
   have:((i.length * k.toNat:Nat):Int)<=16777216:=by omega
   rwa [zd,show((k.toNat:Nat):Int)=k by omega] at this
  have h5:=Int.lt_of_lt_of_le (Int.lt_mul_of_ediv_lt (by omega:(0:Int)<k) hh) h4
  omega
 ·unfold Builtin.Str.tooLong
  exact decide_eq_false (by omega)
 ·by_cases c1:k<1
  ·rw[if_pos c1]
   have e0:k.toNat=0:=by omega
   rw[e0] at q
   exact⟨by decide,.str _,H,I.tok _,⟨_,rfl⟩,q⟩
  ·rw[if_neg c1]
   by_cases c2:(k == 1 || i.length == 0)=true
   ·rw[if_pos c2]
    have e1:tx (Qm k.toNat i.cps.toList).flatten=i:=by
     rcases(JF _ _).mp c2 with e|e
     ·have:k=1:=by simpa using e
      subst this
      show tx ([i.cps.toList]:List (List Nat)).flatten=i
      simp[tx]
     ·have e:i.length=0:=by simpa using e
      have e2:i.cps.toList = []:=Jg (by omega)
      rw[e2]
      have:(Qm k.toNat ([]:List Nat)).flatten = []:=by simp
      rw[this]
      have e3:i.cps = #[]:=JU.mp e2
      cases i
      simp_all [tx]
    rw[e1] at q
    exact⟨.str i,H,I,⟨_,rfl⟩,q⟩
   ·rw[if_neg c2]
    refine⟨?_,.str _,H,I.tok _,⟨_,rfl⟩,?_⟩
    ·show ja _<=sizeLine
     rw[hnew,zb5,ziz,jG,<- hlen]
     exact hz
    ·show Q (.str _) H
     rw[hnew]
     exact q
end
def z0f(K:Qa):R2:=λx y H Q=>rI CMul (λi j => .int (i * j)) x y H Q\/zzh x y H Q\/rRep x y H Q\/zzo K x y H Q
theorem z6g{X:Cx}:OpR X (binaryOp .Mult) (z0f X.K):=op_mul.or (op_repS.or (op_rep.or z2o))
def mulD:PyData->PyData->(R->Prop)->Prop:=λd e Q=>∃ k:Int,e = .int k/\-(2 ^ 63)<=k/\k<2 ^ 63/\match d with
 | .int i=>CMul i k/\Q (.o (.int (i * k)))
 | .str x=>x.length * k.toNat<=sizeLine/\Q (.o (.str (tx (Qm k.toNat x.cps.toList).flatten)))
 | .list ds=>ds.length * k.toNat<=sizeLine/\Q (.n (Qm k.toNat ds).flatten)
 | .tuple ds=>ds.length * k.toNat<=sizeLine/\Q (.o (.tuple (Qm k.toNat ds).flatten))
 | _=>False
section
variable {K : Qa} {O : Ob} {F : Addr → Prop} {H : Hp}
theorem zh6{xs:List V}{ds:List PyData}(h:IsAll K F H xs ds):∀ k:Nat,IsAll K F H (Qm k xs).flatten (Qm k ds).flatten
 | 0 => .nil
 | k+1=>by
   rw[Z7,Z7,ZB,ZB]
   exact h.append (zh6 h k)
theorem zy2:OpD K O (z0f K) mulD:=λH x y d e Q Qd ok p ix iy ⟨k,he,h1,h2,q⟩ kk=>by
 subst he
 cases iy
 cases ix with
 | int i=>exact .inl ⟨_,_,rfl,rfl,q.1,kk _ H (.o _) (.refl _ _) (Is.int _) q.2⟩
 | str x=>exact .inr (.inl ⟨_,_,rfl,rfl,h1,h2,q.1,kk _ H (.o _) (.refl _ _) (Is.str _) q.2⟩)
 | list f1 h3 s1 =>
   refine .inr (.inr (.inl ⟨_,_,_,rfl,rfl,h3,h1,h2,by rw[s1.length];exact q.1,λp' hp=>?_⟩))
   obtain⟨a1,a2⟩:=zdn ok hp (zh6 s1 k.toNat)
   exact kk _ _ _ a1 a2 q.2
 | tuple h3 s1 =>
   refine .inr (.inr (.inr ⟨_,_,_,rfl,rfl,h3,h1,h2,by rw[s1.length];exact q.1,λhc=>?_,λhc p' hp=>?_⟩))
   ·rcases hc with e|e
    ·subst e
     cases s1
     have e2:(Qm k.toNat ([]:List PyData)).flatten = []:=by simp
     have q2:=q.2
     rw[e2] at q2
     exact kk _ H (.o _) (.refl _ _) (Is.tuple h3 .nil) q2
    ·subst e
     have q2:=q.2
     have e2:∀ ds:List PyData,(Qm (1:Int).toNat ds).flatten=ds:=λds=>by simp
     rw[e2] at q2
     exact kk _ H (.o _) (.refl _ _) (Is.tuple h3 s1) q2
   ·obtain⟨a1,a2⟩:=zi7 ok hp (zh6 s1 k.toNat)
    exact kk _ _ _ a1 a2 q.2
 | _=>exact q.elim
end
theorem zww{ι κ:Type}{P:Program}{w:World}{K:Qa}{mg:Str->Option Value}{base:Heap}{k:Nat}{X:ι->Cx}{O:κ->Ob}{a b:Expr}{fa fb:DE}{pos:Pos}(C:Ctx3 P w K mg base k X)(ha:E3 K X O a fa)(hb:E3 K X O b fb):E3 K X O (.BinOp a .Mult b pos) (opDE mulD fa fb):=e_op (λi=>by have h:=z6g (X:=X i);rw[C.hK] at h;exact h) (λ_=>zy2) ha hb
theorem zo4{α:Type}{enc:α->PyData}{g:DG}{fe:DE}{ρ:DSt}{Q:List PyData->Prop}{as:List α}{e:α->PyData}{h:Nat}(step:∀ a ∈ as,∀ P:R->Prop,(∀ r,r.d=e a->P r)->g (enc a) (Qm h none++ρ) λρ2=>if true=true then fe ρ2 P else False)(mg:∀ d ρ (P P':DSt->Prop),(∀ ρ,P ρ->P' ρ)->g d ρ P->g d ρ P')(hz:as.length<=sizeLine)(q:Q (as.map e)) :
 zbt h g yesD fe ρ Q (as.map enc) []:=by
 have key:∀ (l:List α) (acc:List PyData),(∀ a ∈ l,a ∈ as)->acc.length+l.length<=sizeLine->Q (acc++l.map e)->zbt h g yesD fe ρ Q (l.map enc) acc:=by
  intro l
  induction l with
  | nil=>intro acc _ _ q;show Q acc;simpa using q
  | cons a l ih =>
    intro acc hs hz q
    rw[Qy] at hz
    refine mg _ _ _ _ (λρ2 z=>?_) (step a (hs a Q8) (λr=>acc.length<sizeLine/\zbt h g yesD fe ρ Q (l.map enc) (acc ++ [r.d])) λr hr=>⟨by omega,?_⟩)
    ·rw[if_pos rfl] at z
     exact iteT (B:=zbt h g yesD fe ρ Q (l.map enc) acc) z
    ·rw[hr]
     exact ih (acc ++ [e a]) (λx hx=>hs x (Qj _ hx)) (by rw[Qf];simp;omega) (by simpa using q)
 exact key as [] (λ_ h=>h) (by simpa using hz) (by simpa using q)
theorem zrj{is:List Nat}:∀ d ρ (P P':DSt->Prop),(∀ ρ,P ρ->P' ρ)->gT is d ρ P->gT is d ρ P':=by
 have key:∀ (is:List Nat) (ds:List PyData) ρ (P P':DSt->Prop),(∀ ρ,P ρ->P' ρ)->gTD is ds ρ P->gTD is ds ρ P':=by
  intro is
  induction is with
  | nil=>intro ds ρ P P' h z;cases ds with
    | nil=>exact h _ z
    | cons _ _=>exact z.elim
  | cons i is ih=>intro ds ρ P P' h z;cases ds with
    | nil=>exact z.elim
    | cons d ds=>exact ih ds _ P P' h z
 exact λd ρ P P' h ⟨ds,e,z⟩=>⟨ds,e,key _ _ _ _ _ h z⟩
theorem zkt:∀ (l:List (List Nat)) (acc:Array Nat),(l.map tx).foldl (λacc p=>acc++(Qi "").cps++p.cps) acc=acc++l.flatten.toArray
 | [],acc=>by simp
 | c::r,acc=>by
   rw[Q3,Ju,zkt r]
   have e:(Qi "").cps = #[]:=by decide +kernel
   rw[e]
   apply JU.mp
   simp[tx]
theorem z5r(w:List (List Nat)):Yw "" (w.map tx)=tx w.flatten:=by
 cases w with
 | nil=>decide +kernel
 | cons c r =>
   show Yy (Qi "") (tx c::r.map tx)=tx (c::r).flatten
   unfold Yy
   show(⟨(r.map tx).foldl _ (tx c).cps⟩:Str)=_
   rw[zkt]
   unfold tx
   congr 1
   apply JU.mp
   simp
theorem z7d(w:List (List Nat)):((w.map tx).map (·.length)).sum=w.flatten.length:=by
 induction w with
 | nil=>rfl
 | cons c r ih=>rw[Q3,Q3,YD,ih,zb5,ZB,Qf]
theorem z4w(ws:List (List Nat))(hl:ws.flatten.length<=16777216):∃ ys:List Str,Zo (ws.map λv => .str (tx v)) = .list (ys.map .str)/\(ys.map (·.length)).sum+ys.length * (Qi "").length<=16777216/\Yw "" ys=tx ws.flatten:=by
 refine⟨ws.map tx,by rw[Q5];rfl,?_,z5r ws⟩
 have e0:(Qi "").length=0:=by decide +kernel
 rw[z7d,e0]
 omega
def truB:PyData->Option Bool
 | .none=>some false
 | .bool b=>some b
 | .int i=>some (i != 0)
 | .str x=>if x.length<=sizeLine then some ((x.length:Int) != 0) else none
 | .list ds=>some (!ds.isEmpty)
 | .tuple ds=>some (!ds.isEmpty)
 | _=>none
def truD(f:DE):DT:=λρ Q=>f ρ λr=>∃ b,truB r.d=some b/\Q b
section
variable {K : Qa} {O : Ob}
theorem zjf{F:Addr->Prop}{H:Hp}{xs:List V}{ds:List PyData}(h:IsAll K F H xs ds):xs.isEmpty=ds.isEmpty:=by
 cases h <;> rfl
theorem z7h{t:TE}{f:DE}(h:ED K O t f):TD K O (λσ H Q=>t σ H λx H'=>∃ k,TruV K x H' k/\Q k H') (truD f):=λσ H ρ Q Qd S hf k=>by
 refine h σ H ρ _ _ S hf λv H1 r s1 o1 ⟨b,e,q⟩=>?_
 have iv:=o1.is S.ok S.p
 refine⟨b,?_,k b H1 s1 q⟩
 generalize r.d=d at iv e
 cases iv with
 | none=>cases e;rfl
 | bool b=>cases e;rfl
 | int i=>cases e;rfl
 | str x =>
   have e:(if x.length<=sizeLine then some ((x.length:Int) != 0) else none)=some b:=e
   by_cases hl:x.length<=sizeLine
   ·rw[if_pos hl] at e
    cases e
    exact⟨hl,rfl⟩
   ·rw[if_neg hl] at e
    cases e
 | list f1 h1 s1=>cases e;exact .inl ⟨_,.of h1,by rw[zjf s1]⟩
 | tuple h1 s1=>cases e;exact .inr (.inl ⟨_,h1,by rw[zjf s1]⟩)
end
section
variable {ι κ : Type} {P : Program} {w : World} {K : Qa} {mg : Str → Option Value} {base : Heap} {k : Nat} {X : ι → Cx} {O : κ → Ob} {a b : Expr} {fa : DE} {pos p : Pos} {ga : DA}
theorem ybb(C:Ctx3 P w K mg base k X)(ha:E3 K X O a fa)(he:∀ i whole,isTrue a (X i).env whole=(do let v <- whole;standAt a.pos;holding [v] (truthy v)):=by intro _ _;rfl):T3 K X O a (truD fa):=let ⟨_,q,d⟩:=ha;
 ⟨_,λi=>by have h:=zxu (X:=X i) (q i) (he i);rw[C.hK] at h;exact h,λj=>z7h (d j)⟩
end
section
variable {K : Qa} {O : Ob}
def extS(i:Nat)(f:DE):DS:=λDd ρ=>∃ ds,ρ[i]? = some (some (.own ds))/\f ρ λr=>∃ es,r.d = .list es/\flats es=true/\ds.length+es.length<=sizeLine/\Dd.nx (ρ.set i (some (.own (ds++es))))
theorem zwl{i:Nat}{t:TE}{f:DE}(h:ED K O t f):SD K O (zhn (tBM K "list" zi0 (tVar i) (zbb t tNil))) (extS i f):=λH₀ A σ H ρ D Dd r q P=>by
 obtain⟨ds,e,q⟩:=q
 obtain⟨v,hv,a,xs,rfl,ha,hl,hs⟩:=r.at_ i _ e
 refine⟨_,hv,?_⟩
 refine⟨.inl ⟨rfl,xs,.of hl⟩,?_⟩
 refine h σ H ρ _ _ r.seen q λw H1 x s1 o1 ⟨es,ed,fl,hz,q1⟩=>?_
 have r1:=r.stp s1
 obtain⟨v1,hv1,a1,xs1,e1,ha1,hl1,hs1⟩:=r1.at_ i _ e
 rw[hv] at hv1
 cases hv1
 cases e1
 have iw:=o1.is r.ok r.p
 rw[ed] at iw
 cases iw with
 | list f1 h1 s2 =>
   refine⟨a,_,xs1,_,rfl,rfl,hl1,h1,by rw[hs1.length,s2.length];exact hz,?_⟩
   exact P.nx A σ _ _ (r1.change e hv ha (hs1.append (IsAll.flats (TupStay.refl H1) s2 fl))) ((Frm.stp s1).trans (.change ha)) q1
end
section
variable {ι κ : Type} {P : Program} {w : World} {K : Qa} {mg : Str → Option Value} {base : Heap} {k : Nat} {X : ι → Cx} {O : κ → Ob} {a b : Expr} {fa fb : DE} {pos p : Pos} {ga : DA}
theorem z6u:bootBuiltins "max" = some (.builtin "max"):=by decide +kernel
theorem ztg{X:Cx}:MtR X "list.extend" zi0:=λpins s σ H x xs v us Q I rx rv h=>zwj pins s σ H x xs v us Q I rx rv h
theorem yb1(n:Nat){x:Str}{px apos cpos:Pos}(C:Ctx3 P w K mg base k X)(hb:E3 K X O b fb)(hN:∀ i,(X i).N[n]? = some x:=by intro i;rfl)(hv:∀ i,Vis (X i).env.scope x:=by intro i;first|exact Or.inl rfl|exact Or.inr (Or.inl rfl)|exact Or.inr (Or.inr rfl))(hd:(x == ("__debug__" : Str))=false:=by decide)(hcd:(x == ("__classdict__" : Str))=false:=by decide)
 (hbase:∀ i,attributeBase (.Name x px) "extend" (X i).env (eval (.Name x px) (X i).env)=eval (.Name x px) (X i).env:=by intro i;rfl)
 (hfew:∀ i,((backTo cpos (starEach [b] (X i).env)).all (λx=>!x.1) && (backToKw cpos (keywordEach [] (X i).env)).all (λx=>x.1.isSome) && decide (([b]:List Expr).length+([]:List Keyword).length+(if([]:List Keyword).isEmpty then 0 else 1)<30))=true:=by intro i;rfl)
 (hline:(apos.endLine == cpos.line)=true:=by rfl) (hs:∀ i,starEach [b] (X i).env = [(false,eval b (X i).env)]:=by intro i;rfl) (hsw:∀ i,swapsWith (.Call (.Attribute (.Name x px) "extend" apos) [b] [] cpos) none pos.line (X i).env=pure false:=by intro i;rfl) :
 S3 K X O (.Expr (.Call (.Attribute (.Name x px) "extend" apos) [b] [] cpos) pos) (extS n fb):=let ⟨_,p2,d2⟩:=hb;
 ⟨zhn (tBM K "list" zi0 (tVar n) (zbb _ tNil)),λi=>by
  have h:=zj1 (apos:=apos) (cpos:=cpos) Yp PySem.F.slot_list_extend PySem.F.type_list_extend (ztg (X:=X i)) (zaq (pos:=px) (hN i) (hv i) hd hcd) (za7 (p2 i) zb9 (hs i)) (hbase i) (hfew i) hline (hs i)
  rw[C.hK] at h
  exact zlc h (hsw i),λj=>zwl (d2 j)⟩
end
section
variable {K : Qa} {O : Ob} {X : Cx}
theorem zjd{F:Addr->Prop}{H:Hp}:∀ ws:List Str,IsAll K F H (ws.map V.str) (ws.map QX)
 | [] => .nil
 | w::ws => .cons (.str w) (zjd ws)
def chD(F F':PyData->PyData->(R->Prop)->Prop)(fa fb fc:DE):DE:=λρ Q=>fa ρ λa=>fb ρ λb=>F a.d b.d λz=>∃ k,z.d = .bool k/\(if k=true then fc ρ λc=>F' b.d c.d Q else Q (.o (.bool false)))
theorem zxk{r r':R2}{ta tb tc:TE}{F F':PyData->PyData->(R->Prop)->Prop}{fa fb fc:DE}(hr:OpD K O r F)(hr':OpD K O r' F')(ha:ED K O ta fa)(hb:ED K O tb fb)(hc:ED K O tc fc):ED K O (zuf r r' ta tb tc) (chD F F' fa fb fc):=λσ H ρ Q Qd S h k=>by
 refine ha σ H ρ _ _ S h λv H1 a s1 o1 h1=>?_
 refine hb σ H1 ρ _ _ (S.stp s1) h1 λw H2 b s2 o2 h2=>?_
 have p1:=s1.p S.p
 have p2:=s2.p p1
 have ib:=o2.is S.ok p1
 refine hr H2 v w a.d b.d _ _ S.ok p2 (Is.stp s2 (λ_ f=>f) (λ_ f=>f) (o1.is S.ok S.p)) ib h2 λz H3 c s3 o3 ⟨kk,e,h3⟩=>?_
 have iz:=o3.is S.ok p2
 rw[e] at iz
 cases iz
 refine⟨kk,rfl,?_⟩
 cases kk with
 | true =>
   refine hc σ H3 ρ _ _ (((S.stp s1).stp s2).stp s3) h3 λx H4 d s4 o4 h4=>?_
   have p3:=s3.p p2
   refine hr' H4 w x b.d d.d _ _ S.ok (s4.p p3) (Is.stp s4 (λ_ f=>f) (λ_ f=>f) (Is.stp s3 (λ_ f=>f) (λ_ f=>f) ib)) (o4.is S.ok p3) h4 λz H5 r5 s5 o5 h5=>?_
   exact k z H5 r5 ((((s1.trans s2).trans s3).trans s4).trans s5) (Out.ahead S.ok S.p (((s1.trans s2).trans s3).trans s4) o5) h5
 | false=>exact k _ H3 (.o (.bool false)) ((s1.trans s2).trans s3) (Is.bool false) h3
def rLeS:R2:=λx y H Q=>∃ i j:Str,x = .str i/\y = .str j/\Q (.bl (!decide (j.cps.toList<i.cps.toList))) H
theorem ziv:OpR X (compareOp .LtE) rLeS:=by
 intro pins s σ H x y v u Q I rx ry h
 obtain⟨i,j,rfl,rfl,q⟩:=h
 obtain⟨t,rfl⟩:=rx
 obtain⟨t',rfl⟩:=ry
 exact PySem.P.le_str ⟨.bl _,H,I,rfl,q⟩
def leSF:PyData->PyData->Option R:=λd e=>match d,e with
 | .str i,.str j=>some (.o (.bool (!decide (j.cps.toList<i.cps.toList))))
 | _,_=>none
theorem zl7:OpD K O rLeS (fn2 leSF):=λH x y d e Q Qd ok p ix iy ⟨r,hr,q⟩ k=>by
 unfold leSF at hr
 split at hr
 ·cases hr
  cases ix
  cases iy
  exact⟨_,_,rfl,rfl,k _ H (.o _) (.refl _ _) (Is.bool _) q⟩
 ·cases hr
def rStr:List V->Hp->VK->Prop:=λxs H Q=>(∃ i:Int,xs = [.int i]/\i.natAbs.log2<1920/\Q (.str (toString i)) H)\/∃ x:Str,xs = [.str x]/\Q (.str x) H
theorem zto:CallR X (.type "str") rStr:=by
 intro pins s σ H xs us Q I r h
 rcases h with h|⟨x,rfl,q⟩
 ·exact zn2 pins s σ H xs us Q I r h
 ·obtain⟨u,rfl,t,rfl⟩:=zgk r
  exact PySem.P.str_of_str ⟨.str x,H,I,⟨t,rfl⟩,q⟩
def strF:List PyData->Option R
 | [.int i]=>if i.natAbs.log2<1920 then some (.o (.str (toString i))) else none
 | [.str x]=>some (.o (.str x))
 | _=>none
theorem z8k:zes K O rStr (fn1 strF):=λH vs ds Q Qd ok p is ⟨r,hr,q⟩ k=>by
 unfold strF at hr
 split at hr
 ·obtain⟨v,rfl,iv⟩:=zbe is
  split at hr
  ·cases hr
   cases iv
   exact .inl ⟨_,rfl,by assumption,k _ H (.o _) (.refl _ _) (Is.str _) q⟩
  ·cases hr
 ·obtain⟨v,rfl,iv⟩:=zbe is
  cases hr
  cases iv
  exact .inr ⟨_,rfl,k _ H (.o _) (.refl _ _) (Is.str _) q⟩
 ·cases hr
theorem z9k:bootBuiltins "str" = some (.type "str"):=by decide +kernel
def zz8:List V->Hp->VK->Prop:=λxs H Q=>((∃ i,xs = [.int i]/\Q (.int i) H)\/∃ k,xs = [.bl k]/\Q (.int (if k then 1 else 0)) H)\/∃ x n,xs = [.str x]/\jW x=some n/\x.length<=640/\Q (.int n) H
theorem zu5:CallR X (.type "int") zz8:=by
 intro pins s σ H xs us Q I r h
 rcases h with h|⟨x,n,rfl,hn,hl,q⟩
 ·exact zwq pins s σ H xs us Q I r h
 ·obtain⟨u,rfl,t,rfl⟩:=zgk r
  exact PySem.W.KIN.call_text hn hl ⟨.int n,H,I.tok _,⟨_,rfl⟩,q⟩
def zj8:List PyData->Option R
 | [.int i]=>some (.o (.int i))
 | [.bool b]=>some (.o (.int (if b then 1 else 0)))
 | [.str x]=>if x.length<=640 then(jW x).map λn => .o (.int n) else none
 | _=>none
theorem z3g:zes K O zz8 (fn1 zj8):=λH vs ds Q Qd ok p is ⟨r,hr,q⟩ k=>by
 unfold zj8 at hr
 split at hr
 ·obtain⟨v,rfl,iv⟩:=zbe is
  cases hr
  cases iv
  exact .inl (.inl ⟨_,rfl,k _ H (.o _) (.refl _ _) (Is.int _) q⟩)
 ·obtain⟨v,rfl,iv⟩:=zbe is
  cases hr
  cases iv
  exact .inl (.inr ⟨_,rfl,k _ H (.o _) (.refl _ _) (Is.int _) q⟩)
 ·obtain⟨v,rfl,iv⟩:=zbe is
  split at hr
  ·obtain⟨n,hn,rfl⟩:=QV.mp hr
   cases iv
   exact .inr ⟨_,n,rfl,hn,by assumption,k _ H (.o _) (.refl _ _) (Is.int _) q⟩
  ·cases hr
 ·cases hr
def zkf:V->List V->Hp->VK->Prop:=λx vs H Q=>∃ t y:Str,x = .str t/\vs = [.str y]/\(y.length == 0)=false/\t.length+2<=sizeLine/\∀ l,H l=none->Q (.ref l) (upd H l (.lst ((JX t y).map V.str)))
theorem zmn:∀ (tk:Nat) (xs:List Str),Vals (xs.map V.str) (strsFrom tk xs)
 | _,[] => .nil
 | tk,x::r => .cons ⟨tk,rfl⟩ (zmn (tk+1) r)
theorem zxr:MtM X "str.split" zkf:=by
 intro pins s σ H x vs v us Q I rx rv h
 obtain⟨t,y,rfl,rfl,hy,hz,q⟩:=h
 obtain⟨tk,rfl⟩:=rx
 obtain⟨u,rfl,ru⟩:=rv.one
 obtain⟨tk',rfl⟩:=ru
 have hz2:=split_le t y
 have hf0:H s.heap.objs.size=none:=I.hok.fresh (Qt _)
 have itself:JX t y = [t]->EP X pins σ Q (.ref s.heap.objs.size) { s with heap:=s.heap.push { cls := .type "list", data := .seq [JS t tk].toArray } }:=λe=>by
  have q:=q _ hf0
  rw[e] at q
  exact⟨.ref s.heap.objs.size,_,I.laid (t':=s.toks) (λb u e=>Qb _ e) (Qt _) (show ObjOk X.prog X.w _ _ _ (.lst [.str t]) from⟨by show 1<=sizeLine;omega,[JS t tk],_,.cons ⟨tk,rfl⟩ .nil,Qq _ rfl⟩),rfl,q⟩
 cases h1:(decide (t.length<y.length) || decide (qi t<qi y)) with
 | true=>exact call_meets jA (typeIs_str _ _ _) jp (jf _ _) (meets_str_split_cannot_occur t y tk tk' h1) (itself (if_pos h1))
 | false =>
   cases hf:(QM t y 0 t.length (t.length+1)).isEmpty with
   | true=>exact call_meets jA (typeIs_str _ _ _) jp (jf _ _) (meets_str_split_not_found t y tk tk' h1 hy hf) (itself ((if_neg (by rw[h1];exact Qc)).trans (if_pos hf)))
   | false =>
     have e:JX t y=j1 t (QM t y 0 t.length (t.length+1)) y.length:=(if_neg (by rw[h1];exact Qc)).trans (if_neg (by rw[hf];exact Qc))
     rw[e] at q hz2
     refine call_meets jA (typeIs_str _ _ _) jp (jf _ _) (meets_str_split_sep t y tk tk' h1 hy hf (by omega) (by omega)) ?_
     exact⟨.ref s.heap.objs.size,_,I.laid (λb u e=>Qb _ e) (Qt _) (show ObjOk X.prog X.w _ _ _ (.lst ((j1 t (QM t y 0 t.length (t.length+1)) y.length).map V.str)) from⟨by rw[Qe];omega,_,_,zmn s.toks _,Qq _ rfl⟩),rfl,q _ hf0⟩
theorem zt8:MtR X "str.split" zkf:=λpins s σ H x xs v us Q I rx rv h=>zxr pins s σ H x xs v us Q I rx rv h
def zub(fo fa:DE):DE:=λρ Q=>fo ρ λr0=>∃ t,r0.d = .str t/\fa ρ λr=>∃ y,r.d = .str y/\(y.length == 0)=false/\t.length+2<=sizeLine/\Q (.n ((JX t y).map .str))
theorem zyd{to ta:TE}{fo fa:DE}(ho:ED K O to fo)(ha:ED K O ta fa):ED K O (tBM K "str" zkf to (zbb ta tNil)) (zub fo fa):=λσ H ρ Q Qd S hf k=>by
 refine ho σ H ρ _ _ S hf λv H1 r0 s1 o1 ⟨t,e0,q1⟩=>?_
 have i0:=o1.is S.ok S.p
 rw[e0] at i0
 cases i0
 refine⟨rfl,?_⟩
 refine ha σ H1 ρ _ _ (S.stp s1) q1 λw H2 r s2 o2 ⟨y,e,hy,hz,q⟩=>?_
 have i1:=o2.is S.ok (s1.p S.p)
 rw[e] at i1
 cases i1
 have p2:=s2.p (s1.p S.p)
 refine⟨t,y,rfl,rfl,hy,hz,λl hl=>?_⟩
 have free:H l=none:=((s1.trans s2).s).free (λm=>by
  obtain⟨o,z⟩:=S.ok.here H2 l p2 m
  rw[hl] at z
  cases z) hl
 refine k _ _ (.n _) ((s1.trans s2).trans (.new S.ok hl _)) ⟨l,_,rfl,free,zap,?_⟩ q
 exact zjd _
end
section
variable {ι κ : Type} {P : Program} {w : World} {K : Qa} {mg : Str → Option Value} {base : Heap} {k : Nat} {X : ι → Cx} {O : κ → Ob} {a b c : Expr} {fa fb fc : DE} {pos p : Pos} {st : Stmt} {es : List Expr} {ga : DA}
theorem zqj{op op':CmpOp}{r r':R2}{F F':PyData->PyData->(R->Prop)->Prop}(ho:∀ i,OpR (X i) (compareOp op) r)(ho':∀ i,OpR (X i) (compareOp op') r')(hd:∀ j,OpD K (O j) r F)(hd':∀ j,OpD K (O j) r' F')(ha:E3 K X O a fa)(hb:E3 K X O b fb)(hc:E3 K X O c fc)
 (hm:lastMarks [op,op'] [b,c]=false:=by with_unfolding_all rfl):E3 K X O (.Compare a [op,op'] [b,c] pos) (chD F F' fa fb fc) :=
 let ⟨_,p1,d1⟩:=ha;let ⟨_,p2,d2⟩:=hb;let ⟨_,p3,d3⟩:=hc; ⟨_,λi=>zym (ho i) (ho' i) (p1 i) (p2 i) (p3 i) hm,λj=>zxk (hd j) (hd' j) (d1 j) (d2 j) (d3 j)⟩
theorem zzc(ha:E3 K X O a fa)(hb:E3 K X O b fb)(hc:E3 K X O c fc)(hm:lastMarks [.LtE,.LtE] [b,c]=false:=by with_unfolding_all rfl):E3 K X O (.Compare a [.LtE,.LtE] [b,c] pos) (chD (fn2 leSF) (fn2 leSF) fa fb fc) :=
 zqj (λi=>ziv) (λi=>ziv) (λ_=>zl7) (λ_=>zl7) ha hb hc hm
theorem yb0(ha:E3 K X O a fa)(hb:E3 K X O b fb)(hc:E3 K X O c fc)(hm:lastMarks [.LtE,.LtE] [b,c]=false:=by with_unfolding_all rfl):E3 K X O (.Compare a [.LtE,.LtE] [b,c] pos) (chD (fn2 (intF λi j => .bool (decide (i<=j)))) (fn2 (intF λi j => .bool (decide (i<=j)))) fa fb fc) :=
 zqj (λi=>zzg) (λi=>zzg) (λ_=>zvh) (λ_=>zvh) ha hb hc hm
theorem zf1(C:Ctx3 P w K mg base k X)(B:Blt mg)(ha:A3 K X O [a] ga)(hg:∀ i,Gl (X i) "str" := by intro i;rfl)(he:∀ i,starEach [a] (X i).env=(false,eval a (X i).env)::starEach [] (X i).env:=by intro i;rfl):E3 K X O (.Call (.Name "str" p) [a] [] pos) (zci (fn1 strF) ga) :=
 znv C (λi=>zto) (λ_=>z8k) z9k B.str ha hg (by decide) (by decide) he
theorem zf5(C:Ctx3 P w K mg base k X)(B:Blt mg)(ha:A3 K X O [a] ga)(hg:∀ i,Gl (X i) "int" := by intro i;rfl)(he:∀ i,starEach [a] (X i).env=(false,eval a (X i).env)::starEach [] (X i).env:=by intro i;rfl):E3 K X O (.Call (.Name "int" p) [a] [] pos) (zci (fn1 zj8) ga) :=
 znv C (λi=>zu5) (λ_=>z3g) z8p B.int ha hg (by decide) (by decide) he
theorem zdv{apos:Pos}(C:Ctx3 P w K mg base k X)(ho:E3 K X O a fa)(hb:E3 K X O b fb)(hbase:∀ i,attributeBase a "split" (X i).env (eval a (X i).env)=eval a (X i).env:=by intro i;rfl)
 (hfew:∀ i,((backTo pos (starEach [b] (X i).env)).all (λx=>!x.1) && (backToKw pos (keywordEach [] (X i).env)).all (λx=>x.1.isSome) && decide (([b]:List Expr).length+([]:List Keyword).length+(if([]:List Keyword).isEmpty then 0 else 1)<30))=true:=by intro i;rfl)
 (hline:(apos.endLine == pos.line)=true:=by rfl) (hs:∀ i,starEach [b] (X i).env = [(false,eval b (X i).env)]:=by intro i;rfl):E3 K X O (.Call (.Attribute a "split" apos) [b] [] pos) (zub fa fb) :=
 let ⟨_,p1,d1⟩:=ho;let ⟨_,p2,d2⟩:=hb; ⟨tBM K "str" zkf _ (zbb _ tNil),λi=>by
  have h:=zj1 (apos:=apos) (cpos:=pos) jI PySem.F.slot_str_split PySem.F.type_str_split (zt8 (X:=X i)) (p1 i) (za7 (p2 i) zb9 (hs i)) (hbase i) (hfew i) hline (hs i)
  rw[C.hK] at h
  exact h,λj=>zyd (d1 j) (d2 j)⟩
end
section
variable {K : Qa} {O : Ob} {H₀ H : Hp} {A : Nat → Addr → Prop} {σ : St} {ρ : DSt}
def znp(ρ:DSt):Prop:=(∀ (i:Nat) ds,ρ[i]? ≠ some (some (.own ds)))/\(∀ (i:Nat) ks,ρ[i]? ≠ some (some (.dct ks)))/\(∀ (i:Nat) f ds,ρ[i]? ≠ some (some (.gen f ds)))/\∀ (i:Nat) T,ρ[i]? ≠ some (some (.thg T))
theorem Rep.none(r:Rep K O H₀ A H σ ρ)(h:znp ρ):Rep K O H₀ (λ_ _=>False) H σ ρ:=by
 refine⟨r.ok,r.p,r.p0,r.st,λ_ _ _ x=>x.elim,λ_ _ x=>x.elim,λi x e=>?_,r.len⟩
 obtain⟨v,hv,q⟩:=r.at_ i x e
 refine⟨v,hv,?_⟩
 cases x with
 | im d=>exact Is.weak q λa u=>⟨u.1,λ_ z=>z.elim⟩
 | own ds=>exact absurd e (h.1 i ds)
 | dct ks=>exact absurd e (h.2.1 i ks)
 | gen f ds=>exact absurd e (h.2.2.1 i f ds)
 | thg T=>exact absurd e (h.2.2.2 i T)
 | thr T=>obtain⟨W,hw,z⟩:=q;exact⟨W,λa w=>⟨⟨(hw a w).1.1,λ_ z=>z.elim⟩,(hw a w).2⟩,T.to (λa u f q=>⟨⟨f.1,λ_ z=>z.elim⟩,q⟩) (λa u w q=>⟨w,q⟩) (TupStay.refl _) z⟩
 | rd f ds=>obtain⟨a,xs,e,f,q,z⟩:=q;exact⟨a,xs,e,⟨f.1,λ_ z=>z.elim⟩,q,z.weak λa u=>⟨u.1,λ_ z=>z.elim⟩⟩
 | exc C ns ds=>obtain⟨xs,e,z⟩:=q;exact⟨xs,e.to λa u f q=>⟨⟨f.1,λ_ z=>z.elim⟩,q⟩,z.weak λa u=>⟨u.1,λ_ z=>z.elim⟩⟩
 | ob=>exact q
 | scr n=>exact IsS.to (λa u f z=>⟨⟨f.1,λ_ z=>z.elim⟩,z⟩) q
theorem Frm.none:Frm O A H (λ_ _=>False) H:=λa o e u=>⟨e,u.1,λ_ z=>z.elim⟩
def asgI(i:Nat)(f:DE):DS:=λDd ρ=>znp ρ/\f ρ λr=>Dd.nx (ρ.set i (some (.im r.d)))
theorem z3h{i:Nat}{t:TE}{f:DE}(h:ED K O t f):SD K O (tAsg t (zbs i)) (asgI i f):=λH₀ A σ H ρ D Dd r q P=>by
 obtain⟨no,q⟩:=q
 have r0:=r.none no
 refine h σ H ρ _ _ r.seen q λv H1 x s1 o1 q1=>?_
 have i1:Is K (unO O λ_ _=>False) H1 v x.d:=Is.weak (o1.is r.ok r.p) λa u=>⟨u,λ_ z=>z.elim⟩
 exact P.nx _ _ H1 _ ((r0.stp s1).setIm i1) (Frm.trans Frm.none (.setIm s1)) q1
end
section
variable {ι κ : Type} {P : Program} {w : World} {K : Qa} {mg : Str → Option Value} {base : Heap} {k : Nat} {X : ι → Cx} {O : κ → Ob} {a tg : Expr} {fa : DE} {pos : Pos}
theorem z4j(n:Nat){x:Str}{px p0:Pos}{elt iter:Expr}{ifs:List Expr}{scope:Scope}{fi:DI}{g:DG}{ft:DT}{fe:DE}(h:Nat)(N':List Str)(C:Ctx3 P w K mg base k X)(S:∀ i,ScopeOk h N' (X i).N scope (X i).env.scope)(hs:I3 K X O tg iter fi)
 (hg:G3 K (zhg X scope N') h tg g) (hf:F3 K (zhg X scope N') (zkx O) ifs ft) (he:E3 K (zhg X scope N') (zkx O) elt fe) (hN:∀ i,(X i).N.Nodup:=by intro i;exact of_decide_eq_true (by kernel_rfl)) (hi:∀ i,(X i).N[n]? = some x:=by intro i;rfl) (hx:∀ i,(X i).env.scope.names.lookup x=some .local:=by intro i;rfl)
 (hsw:∀ i,swapsWith (.ListComp elt [⟨tg,iter,ifs,0⟩] scope p0) (some (.Name x px)) pos.line (X i).env=pure true:=by intro i;rfl) (hset:∀ i x,foldedSetIterable iter (X i).env x=pure x:=by intro _ _;rfl) :
 S3 K X O (.Assign [.Name x px] (.ListComp elt [⟨tg,iter,ifs,0⟩] scope p0) pos) (asgI n (zsr h fi g ft fe)):=by
 obtain⟨ti,p1,d1⟩:=hs
 obtain⟨tg',p2,d2,_,ow⟩:=hg
 obtain⟨tf,p3,d3⟩:=hf
 obtain⟨te,p4,d4⟩:=he
 exact⟨_,λi=>zsy (hN i) (hi i) (hx i) (hsw i) h (S i) (C.calm i) (p1 i) (λc s H ex=>p2 (i,⟨c,s,H,ex⟩)) ow (λc s H ex=>p3 (i,⟨c,s,H,ex⟩)) (λc s H ex=>p4 (i,⟨c,s,H,ex⟩)) (hset i),λj=>z3h (zqe (d1 j) d2 (λD xs nm=>d3 ⟨(j,(D,xs)),nm⟩) λD xs nm=>d4 ⟨(j,(D,xs)),nm⟩)⟩
end
def zat(c:Nat):List (List Nat)->List Nat
 | [] => []
 | [x]=>x
 | x::r=>x++c::zat c r
theorem zca{c:Nat}{x:List Nat}{r:List (List Nat)}(h:r ≠ []):zat c (x::r)=x++c::zat c r:=by
 cases r with
 | nil=>exact absurd rfl h
 | cons y r=>rfl
theorem zrn{c:Nat}:∀ {a b u v:List Nat},c ∉ a->c ∉ b->a++c::u=b++c::v->a=b/\u=v
 | [],[],u,v,_,_,h=>by cases h;exact⟨rfl,rfl⟩
 | [],y::b,u,v,_,hb,h=>by cases h;exact absurd Q8 hb
 | x::a,[],u,v,ha,_,h=>by cases h;exact absurd Q8 ha
 | x::a,y::b,u,v,ha,hb,h=>by
   injection h with h1 h2
   obtain⟨e1,e2⟩:=zrn (λz=>ha (Qj _ z)) (λz=>hb (Qj _ z)) h2
   subst h1 e1
   exact⟨rfl,e2⟩
theorem zml{c:Nat}:∀ {A B:List (List Nat)},A ≠ []->B ≠ []->(∀ x ∈ A,c ∉ x)->(∀ x ∈ B,c ∉ x)->zat c A=zat c B->A=B
 | [],_,h,_,_,_,_=>absurd rfl h
 | _,[],_,h,_,_,_=>absurd rfl h
 | [a],[b],_,_,_,_,h=>by rw[show a=b from h]
 | [a],b::d::r,_,_,ha,_,h=>by
   have e:c ∈ zat c [a]:=by rw[h,zca (x:=b) (r:=d::r) (by simp)];simp
   exact absurd e (ha a (by simp))
 | a::d::r,[b],_,_,_,hb,h=>by
   have e:c ∈ zat c [b]:=by rw[<- h,zca (x:=a) (r:=d::r) (by simp)];simp
   exact absurd e (hb b (by simp))
 | a::d::r,b::d'::r',_,_,ha,hb,h=>by
   rw[zca (x:=a) (r:=d::r) (by simp),zca (x:=b) (r:=d'::r') (by simp)] at h
   obtain⟨e1,e2⟩:=zrn (ha a (by simp)) (hb b (by simp)) h
   subst e1
   rw[zml (A:=d::r) (B:=d'::r') (by simp) (by simp) (λx hx=>ha x (Qj _ hx)) (λx hx=>hb x (Qj _ hx)) e2]
theorem zjn(c:Nat):∀ l:List Str,(Str.join ⟨#[c]⟩ l).cps.toList=zat c (l.map λx=>x.cps.toList)
 | []=>rfl
 | [x]=>rfl
 | x::y::r=>by
   show((x.cps ++ #[c])++(Str.join ⟨#[c]⟩ (y::r)).cps).toList=_
   rw[Q3,zca (x:=x.cps.toList) (r:=(y::r).map λx=>x.cps.toList) (by simp),<- zjn c (y::r)]
   simp
theorem zgz{x y:Str}(h:x.cps.toList=y.cps.toList):x=y:=by
 obtain⟨⟨a⟩⟩:=x
 obtain⟨⟨b⟩⟩:=y
 have h:a=b:=h
 rw[h]
theorem zgt{c:Nat}{ws:List (List Nat)}(hn:ws ≠ [])(hc:∀ w ∈ ws,c ∉ w):JX (tx (zat c ws)) ⟨#[c]⟩=ws.map tx:=by
 have h1:=StrLaws.join_split (tx (zat c ws)) ⟨#[c]⟩
 have h2:=StrLaws.split_free (tx (zat c ws)) c
 have h3:=split_pos (tx (zat c ws)) ⟨#[c]⟩
 generalize JX (tx (zat c ws)) ⟨#[c]⟩=ps at h1 h2 h3
 have e:=congrArg (λx:Str=>x.cps.toList) h1
 rw[zjn,zbd] at e
 have e2:=zml (by intro z;rw[List.map_eq_nil_iff.mp z] at h3;simp at h3) hn (λx hx=>by obtain⟨p,hp,rfl⟩:=Qz.mp hx;exact h2 p hp) hc e
 have e3:ps=(ps.map λx=>x.cps.toList).map tx:=by
  rw[Q5]
  conv=>lhs;rw[<- zb ps]
  refine Ji λx _=>?_
  exact zgz (by rw[Function.comp_apply,zbd];rfl)
 rw[e3,e2]
def tyD:PyData->String
 | .none => "NoneType"
 | .bool _ => "bool"
 | .int _ => "int"
 | .str _ => "str"
 | .list _ => "list"
 | .tuple _ => "tuple"
 | .dict _ => "dict"
def zii(d:PyData)(T:String):Option Bool:=match T with
 | "int" => some (match d with | .int _=>true | .bool _=>true|_=>false)
 | "bool" => some (match d with | .bool _=>true|_=>false)
 | "str" => some (match d with | .str _=>true|_=>false)
 | "tuple" => some (match d with | .tuple _=>true|_=>false)
 | "list" => some (match d with | .list _=>true|_=>false)
 | _=>none
theorem ze4(K:Qa){d:PyData}{T:String}{b:Bool}(h:zii d T=some b)(hd:∀ kvs,d ≠ .dict kvs):Zm K (.type (tyD d)) (.type T)=some b:=by
 unfold zii at h
 split at h
 all_goals first
  | (cases h;cases d <;> first|rfl|exact absurd rfl (hd _))
  | cases h
def tIsI(K:Qa)(T:String)(te:TE):TE:=λσ H Q=>te σ H λv H1=>∃ F d b,Is K F H1 v d/\zii d T=some b/\Q (.bl b) H1
theorem zqb{X:Cx}{pins:List (Addr × Obj)}{σ:St}{H:Hp}{s:Shared}{A:Around}{E:Value->Shared->Prop}{Q:Value->Shared->Prop}{x:V}{u:Value}{F:Addr->Prop}{d:PyData}{T:String}{b:Bool}(I:Inv X pins σ H s)(rx:RelV x u)(is:Is X.K F H x d)(e:zii d T=some b)(h:∀ tk,Q (.bool b) { s with toks:=tk }) :
 wpAny (model X.prog X.w) A (call (.builtin "isinstance") [u,.type T]) Q E s:=by
 cases is with
 | none=>exact zfb I rx .non (ze4 _ e λ_ z=>nomatch z) h
 | bool y=>exact zfb I rx (.bl y) (ze4 _ e λ_ z=>nomatch z) h
 | int i=>exact zfb I rx (.int i) (ze4 _ e λ_ z=>nomatch z) h
 | str y=>exact zfb I rx (.str y) (ze4 _ e λ_ z=>nomatch z) h
 | list f q r=>exact zfb I rx (.lst q) (ze4 _ e λ_ z=>nomatch z) h
 | @tuple a xs ds q r =>
   cases (show u=QC a from rx)
   obtain⟨its,_,⟨o,h1,h2,_⟩,_⟩:=I.tuple q
   exact Zz qt I.kIn ⟨o,h1,h2⟩ (ze4 X.K (d := .tuple ds) e λ_ z=>nomatch z) (λz=>nomatch z) h
theorem ya2{X:Cx}{e:Expr}{te:TE}{T:String}{x:Str}{p1 p2 p3:Pos}(gi:Gl X "isinstance")(mi:X.mg "isinstance" = none)(gT:Gl X x)(mT:X.mg x=none)(hT:bootBuiltins x=some (.type T))(he:PE X e te)(hn:x ≠ "__name__" := by decide)(hdb:(x == ("__debug__" : Str))=false:=by decide)
 (s1:starEach [e,.Name x p2] X.env=(false,eval e X.env)::(false,eval (.Name x p2) X.env)::starEach [] X.env:=by rfl) (s2:starEach [e,.Name x p2] X.env=(false,eval e X.env)::starEach [.Name x p2] X.env:=by rfl) (s3:(backTo p3 (starEach [.Name x p2] X.env)).any (·.1)=false:=by rfl) :
 PE X (.Call (.Name "isinstance" p1) [e,.Name x p2] [] p3) (tIsI X.K T te):=by
 intro pins s σ H Q I h
 refine wpAny_Call_Name_kw (zcf I gi mi (u := .builtin "isinstance") (by decide +kernel) ?_)
 refine Z0 ?_ s2 s3
 rw[s1]
 show wpAny _ _ (spliced ((false,eval e X.env)::(false,eval (.Name x p2) X.env) :: [])) _ _ s
 refine Zi (thn (he pins s σ H _ I h) λu s' ⟨y,H1,I1,r1,F,d,b,is,ek,q⟩=>?_)
 refine Zi (zcf I1 gT mT hT (ZA ?_) hn hdb)
 exact zqb I1 r1 is ek λtk=>⟨.bl b,H1,I1.tok _,rfl,q⟩
def isID(T:String)(f:DE):DE:=λρ Q=>f ρ λr=>∃ b,zii r.d T=some b/\Q (.o (.bool b))
theorem ya0{K:Qa}{O:Ob}{T:String}{t:TE}{f:DE}(h:ED K O t f):ED K O (tIsI K T t) (isID T f):=λσ H ρ Q Qd S hf k=>by
 refine h σ H ρ _ _ S hf λv H1 r s1 o1 ⟨b,e,q⟩=>?_
 exact⟨_,r.d,b,o1.is S.ok S.p,e,k _ H1 (.o (.bool b)) s1 (Is.bool b) q⟩
section
variable {ι κ : Type} {P : Program} {w : World} {K : Qa} {mg : Str → Option Value} {base : Heap} {k : Nat} {X : ι → Cx} {O : κ → Ob} {a : Expr} {fa : DE} {pos p p2 : Pos}
theorem ybe{x:Str}{T:String}(C:Ctx3 P w K mg base k X)(B:Blt mg)(ha:E3 K X O a fa)(hm:mg x=none)(hT:bootBuiltins x=some (.type T):=by decide +kernel)(hg:∀ i,Gl (X i) "isinstance" := by intro i;rfl)(hg2:∀ i,Gl (X i) x:=by intro i;rfl)(hn:x ≠ "__name__" := by decide)(hdb:(x == ("__debug__" : Str))=false:=by decide)
 (s1:∀ i,starEach [a,.Name x p2] (X i).env=(false,eval a (X i).env)::(false,eval (.Name x p2) (X i).env)::starEach [] (X i).env:=by intro i;rfl) (s2:∀ i,starEach [a,.Name x p2] (X i).env=(false,eval a (X i).env)::starEach [.Name x p2] (X i).env:=by intro i;rfl) (s3:∀ i,(backTo pos (starEach [.Name x p2] (X i).env)).any (·.1)=false:=by intro i;rfl) :
 E3 K X O (.Call (.Name "isinstance" p) [a,.Name x p2] [] pos) (isID T fa) :=
 let ⟨_,q,d⟩:=ha; ⟨_,λi=>by
  have h:=ya2 (p1:=p) (p3:=pos) (hg i) (by rw[C.hmg];exact B.isinstance) (hg2 i) (by rw[C.hmg];exact hm) hT (q i) hn hdb (s1 i) (s2 i) (s3 i)
  rw[C.hK] at h
  exact h,λj=>ya0 (d j)⟩
end
section
variable {K : Qa} {O : Ob}
def rLtS:R2:=λx y H Q=>∃ i j:Str,x = .str i/\y = .str j/\Q (.bl (decide (i.cps.toList<j.cps.toList))) H
def ltSF:PyData->PyData->Option R:=λd e=>match d,e with
 | .str i,.str j=>some (.o (.bool (decide (i.cps.toList<j.cps.toList))))
 | _,_=>none
theorem z4i:OpD K O rLtS (fn2 ltSF):=λH x y d e Q Qd ok p ix iy ⟨r,hr,q⟩ k=>by
 unfold ltSF at hr
 split at hr
 ·cases hr
  cases ix
  cases iy
  exact⟨_,_,rfl,rfl,k _ H (.o _) (.refl _ _) (Is.bool _) q⟩
 ·cases hr
end
section
variable {ι κ : Type} {P : Program} {w : World} {K : Qa} {mg : Str → Option Value} {base : Heap} {k : Nat} {X : ι → Cx} {O : κ → Ob} {a b : Expr} {fa fb : DE} {pos : Pos} {es : List Expr} {fs : List DE}
theorem yb9(ha:E3 K X O a fa)(hb:E3 K X O b fb):E3 K X O (.Compare a [.Lt] [b] pos) (opDE (fn2 ltSF) fa fb):=zgm (r:=rLtS) (λi=>zuh) (λ_=>z4i) ha hb (zb1 b)
end
abbrev tS(w:List Nat):PyData := .str (tx w)
def lowB(w:List Nat):Bool:=w.all λc=>decide (97<=c) && decide (c<=122)
theorem ztv(a b:Nat):decide (([a]:List Nat) < [b])=decide (a<b):=by
 by_cases h:a<b
 ·rw[decide_eq_true h]
  exact decide_eq_true (List.Lex.rel h)
 ·rw[decide_eq_false h]
  refine decide_eq_false λz=>?_
  cases z with
  | rel z=>exact h z
  | cons z=>cases z
theorem zwf{a b:Nat}:leSF (.str (sg a)) (.str (sg b))=some (.o (.bool (decide (a<=b)))):=by
 show some (R.o (.bool (!decide (([b]:List Nat) < [a]))))=_
 rw[ztv]
 by_cases h:a<=b
 ·rw[decide_eq_true h,decide_eq_false (by omega)];rfl
 ·rw[decide_eq_false h,decide_eq_true (by omega)];rfl
theorem z0a{lo c hi:Nat}{i:Nat}{ρ:DSt}{Q:R->Prop}(hi':ρ[i]? = some (some (.im (.str (sg c)))))(q:Q (.o (.bool (decide (lo<=c) && decide (c<=hi))))):chD (fn2 leSF) (fn2 leSF) (cD (.str (sg lo))) (vD i) (cD (.str (sg hi))) ρ Q:=by
 refine⟨_,_,hi',rfl,_,zwf,_,rfl,?_⟩
 by_cases h:lo<=c
 ·rw[decide_eq_true h,if_pos rfl]
  rw[decide_eq_true h,Q7] at q
  exact⟨_,zwf,q⟩
 ·rw[decide_eq_false h,if_neg Qc]
  rw[decide_eq_false h,QD] at q
  exact q
theorem z7j{w:List Nat}{g:Nat->Bool}:w.map (λc=>YH (g c))=(w.map g).map YH:=by rw[Q5];rfl
theorem zkb(c:Nat)(x:List Nat):∀ r:List (List Nat),zat c (x::r)=x++(r.map λw=>c::w).flatten
 | []=>by simp[zat]
 | y::r=>by
   rw[zca (by simp),zkb c y r]
   simp
def zew(w:List Nat):Bool:=(jq 1 (w.length - 1)).all λk=>decide (w.getD (k - 1) 0<w.getD k 0)
def zds(w:List Nat):Bool:=lowB w && zew w
theorem z1u{w:List Nat}(h:w.Pairwise (· < ·)):zew w=true:=by
 unfold zew
 rw[QK]
 intro k hk
 obtain⟨h1,h2⟩:=Y0.mp hk
 have h3:k<w.length:=by omega
 rw[Ya] at h
 have:=h (k - 1) k (by omega) h3 (by omega)
 rw[Q6,Q6,Qk h3,Qk (show k - 1<w.length by omega)]
 exact decide_eq_true this
mutual
def ybq:PyData->Bool
 | .none=>true
 | .int _=>true
 | .str _=>true
 | .tuple ds=>zwm ds
 | _=>false
def zwm:List PyData->Bool
 | []=>true
 | d::ds=>ybq d && zwm ds
end
theorem zlr{ds:List PyData}{i:Nat}{d:PyData}(h:ds[i]? = some d):idxF (.list ds) (.int (i:Nat))=some (.o d):=by
 show(atI ds _).map R.o=_
 rw[zg0 (v:=d) h]
 rfl
theorem z4m{ds:List PyData}{i:Nat}{d:PyData}(h:ds[i]? = some d):idxF (.tuple ds) (.int (i:Nat))=some (.o d):=by
 show(atI ds _).map R.o=_
 rw[zg0 (v:=d) h]
 rfl
theorem z1t{a b:List PyData}(h:a.length+b.length<=16777216):addF (.list a) (.list b)=some (.n (a++b)):=by
 show(if a.length+b.length<=sizeLine then some (R.n (a++b)) else none)=_
 rw[if_pos (by rw[sizeLine_eq];exact h)]
end L3
namespace L2
open PySem PySem.Spec
open PyProof.Rows hiding St
section
variable {X : Cx} {pins : List (Addr × Obj)} {σ : St} {H : Hp} {s : Shared} {h' : Heap}
theorem Inv.adopt{q:Addr}{o:HO}{t':Nat}(I:Inv X pins σ H s)(fp:FpOk X pins H q)(k:∀ b u,b ≠ q->s.heap.get? b=some u->h'.get? b=some u)(new:ObjOk X.prog X.w (upd H q o) h' q o):Inv X pins σ (upd H q o) { s with heap:=h',toks:=t' }:=by
 obtain⟨f0,f1,f2,f3,f4,f5⟩:=fp
 have nq:∀ c u,H c=some u->c ≠ q:=λc u e=>zc9 e f0
 refine I.step (g':=s.gens) (d':=s.drawn) (ch := [q]) (λb hb=>?_) (λb o _ _ hc e _=>k b o (λz=>hc (by simp[z])) e) (λb o _ _ hc e _=>⟨o.slots,k b o (λz=>hc (by simp[z])) e⟩)
  (λb o hc _ n=>by rw[zaf (λz=>hc (by simp[z]))];exact n) (λb o hc e=>⟨o,k b o (λz=>hc (by simp[z])) e⟩) (λb xs e=>by rw[zaf (nq _ _ e)];exact e) (λb o u e=>by rw[zaf (nq _ _ e)];exact e)
  (λb ps e=>⟨#[],by rw[zaf (nq _ _ e),e];simp⟩) (λm hm=>?_) (λb u e=>?_) I.bare
 ·have e:b=q:=by simpa using hb
  subst e
  exact⟨f3,f1,f4,f5⟩
 ·obtain⟨o,es,ep,ho,r⟩:=hm
  exact⟨o,es,ep,k _ o (ZY f1) ho,r⟩
 ·by_cases hb:b=q
  ·subst hb;rw[zap] at e;cases e;exact new
  ·rw[zaf hb] at e
   refine(I.hok b u e).stay (λc v hc r=>k c v ?_ r) (λc r=>by rw[zaf (nq _ _ r)];exact r) λc xs r=>by rw[zaf (nq _ _ r)];exact r
   rcases hc with z|z
   ·rw[z];exact hb
   ·exact nq _ _ z
end
end L2
namespace L3
open PySem PySem.Spec
open PyProof.Rows hiding St
open L2
section
variable {ι κ : Type} {P : Program} {w : World} {K : Qa} {mg : Str → Option Value} {base : Heap} {k : Nat} {X : ι → Cx} {O : κ → Ob} {a : Expr} {fa : DE} {pos : Pos}
theorem yb6{b:Expr}{fb:DE}(ha:E3 K X O a fa)(hb:E3 K X O b fb):E3 K X O (.Compare a [.LtE] [b] pos) (opDE (fn2 leSF) fa fb):=zgm (r:=rLeS) (λi=>ziv) (λ_=>zl7) ha hb (zb1 b)
end
end L3
namespace SX
open PySem PySem.Spec PyProof.Rows
abbrev Es:=Array (Int × Value)
def keyE(e:Int × Value):Str:=strOf e.2
def keys(es:Es):List Str:=es.toList.map keyE
def byT(w:World):Bool:=w.params.followText "set-order"
structure Sx (w:World) (h:Heap) (a:Addr) (es:Es) (ep:Nat) (t:SetTable):Prop where
 at_:∃ o,h.get? a=some o/\o.ExactSet/\o.data = .set es ep t
 lt:es.size<scanBound
 fit:t.fits es.size=true
 led:t.led = !byT w
 pl:1<es.size->t.plain=false
structure Tx (P:Program) (w:World) (h:Heap) (a:Addr) (es:Es) (ep:Nat) (t:SetTable):Prop extends Sx w h a es ep t where
 el:ElemsOf (ZX P w) es.toList
 nd:(keys es).Nodup
theorem z4c(t:SetTable)(es:Es)(h:Int)(x:Value):(layNew t es h x).2.1.led=t.led:=by
 unfold layNew
 cases t.freeSlot h with
 | none=>rfl
 | some p =>
   obtain⟨j,d⟩:=p
   show((t.put j).1.orStandIn _).led=t.led
   unfold SetTable.orStandIn
   split <;> rfl
theorem z3f(t:SetTable)(es:Es)(n:Nat):(relayAll t es n).2.1.led=t.led/\(t.plain=false->(relayAll t es n).2.1.plain=false):=by
 unfold relayAll
 cases e:t.relaid (es.map (·.1)) n with
 | none=>exact⟨rfl,λ_=>rfl⟩
 | some p =>
   obtain⟨t',ord⟩:=p
   have:t'.led=t.led/\t'.plain=t.plain:=by
    unfold SetTable.relaid SetTable.laid at e
    cases q:SetTable.layClean (SetTable.sizeAbove n - 1) (es.map (·.1)) with
    | none=>rw[q] at e;cases e
    | some o=>rw[q] at e;cases e;exact⟨rfl,rfl⟩
   dsimp only
   split
   ·exact⟨this.1,λh=>this.2.trans h⟩
   ·exact⟨rfl,λ_=>rfl⟩
section
variable {P : Program} {w : World} {A : Around} {E : Value → Shared → Prop} {s : Shared}
theorem zv0{e:Int × Value}(h:∃ k,(ZX P w).is k e.2=true/\e.1=(ZX P w).hash k)(k:Str):(ZX P w).is k e.2=true↔keyE e=k:=by
 obtain⟨k',hk,_⟩:=h
 obtain⟨i,v⟩:=e
 obtain⟨t,ev⟩:=YQ hk
 subst ev
 show JH k (.str k' t)=true↔k'=k
 constructor
 ·intro h
  exact(ZX P w).inj (.str k' t) _ _ hk h
 ·rintro rfl
  exact hk
theorem Tx.put{a:Addr}{es es':Es}{ep:Nat}{t t':SetTable}(S:Tx P w s.heap a es ep t)(el:ElemsOf (ZX P w) es'.toList)(nd:(keys es').Nodup)(lt:es'.size<scanBound)(fit:t'.fits es'.size=true)(led:t'.led = !byT w)(pl:t'.plain=false)
 {Q:Unit->Shared->Prop} (h:∀ h',ZZ a s.heap h'->Tx P w h' a es' (ep+1) t'->Q () { s with heap:=h' }):wpAny (model P w) A (storeSet a es' t') Q E s:=by
 obtain⟨o,ho,hx,hd⟩:=S.at_
 refine wpAny_storeSet_of ho hd (h _ (.update ..) ⟨⟨⟨{ o with data := .set es' (ep+1) t' },?_,hx,rfl⟩,lt,fit,led,λ_=>pl⟩,el,nd⟩) (fits_of_scanBound lt)
 have:=QT (Obj.putSet es' t') ho (by rw[putSet_of es' t' hd];rfl)
 rw[putSet_of es' t' hd] at this
 exact this
theorem zw2{es es':Es}(p:es'.toList.Perm es.toList):es'.size=es.size:=by simpa using p.length_eq
theorem zm6{es es':Es}(p:es'.toList.Perm es.toList):(keys es').Perm (keys es):=p.map _
theorem Tx.add{a:Addr}{es:Es}{ep:Nat}{t:SetTable}{x:Str}{tk:Tok}{Q:Bool->Shared->Prop}(S:Tx P w s.heap a es ep t)(hr:es.size+1<scanBound)
 (h:∀ b h' es' ep' t',ZZ a s.heap h'->Tx P w h' a es' ep' t'->(∀ k,k ∈ keys es'↔k ∈ keys es\/k=x)->es'.size<=es.size+1->Q b { s with heap:=h' }) :
 wpAny (model P w) A (setAddHashed a (.str x tk) (hashStr w x)) Q E s:=by
 have hk:(ZX P w).is x (.str x tk)=true:=by show JH x (.str x tk)=true;simp[JH]
 obtain⟨o,ho,hx,hd⟩:=S.at_
 have gw:∀ (b:Bool) (s₁:Shared) (Q':Unit->Shared->Prop),Q' () s₁->wpAny (model P w) A (match b with|true=>rule "set.scan.the-table-gave-way" | false=>pure ()) Q' E s₁:=λb s₁ Q' q=>by
  cases b
  ·exact wpAny_pure q
  ·exact wpAny_rule q
 unfold setAddHashed setAddHashedIn
 refine wpAny_holding (wpAny_bind (wpAny_setState_of ho hd S.fit ?_))
 dsimp only
 rw[if_pos (byScan_of rfl S.lt S.el)]
 unfold setAddByScan
 refine wpAny_bind (wpAny_bind (wpAny_rule (wpAny_bind (wpAny_setScan_of (knd:=ZX P w) hk ho hd S.fit S.el ?_))))
 cases hf:es.toList.findIdx? (λe=>(ZX P w).is x e.2) with
 | some j =>
   obtain⟨hj,hp,_⟩:=List.findIdx?_eq_some_iff_getElem.mp hf
   have hm:x ∈ keys es:=Qz.mpr ⟨_,QQ hj,(zv0 (S.el _ (QQ hj)).1 x).mp hp⟩
   refine wpAny_pure (wpAny_pure ?_)
   exact h false s.heap es ep t (.refl ..) S (λk=>⟨.inl,λz=>z.elim id λz=>z ▸ hm⟩) (JP _)
 | none =>
   have hm:x ∉ keys es:=λhm=>by
    obtain⟨e,he,hk'⟩:=Qz.mp hm
    have:=List.findIdx?_eq_none_iff.mp hf e he
    rw[(zv0 (S.el e he).1 x).mpr hk'] at this
    cases this
   have hp:=layNew_perm t es (hashStr w x) (.str x tk)
   have hfit:=layNew_fits t es (hashStr w x) (.str x tk)
   have hled:=z4c t es (hashStr w x) (.str x tk)
   generalize layNew t es (hashStr w x) (JS x tk)=L at hp hfit hled ⊢
   obtain⟨e1,t1,wd,gv⟩:=L
   dsimp only at hp hfit hled ⊢
   rw[jr] at hp
   have el1:ElemsOf (ZX P w) e1.toList:=(S.el.push (k:=x) (x := .str x tk) hk rfl).perm hp
   have kp:(keys e1).Perm (keys es ++ [x]):=by
    have:=hp.map keyE
    rw[QA] at this
    exact this
   have nd1:(keys e1).Nodup:=kp.nodup_iff.mpr (JK.mpr ⟨S.nd,(by simp),λa ha b hb=>by
    rw[Qu] at hb
    subst hb
    exact λz=>hm (z ▸ ha)⟩)
   have mem1:∀ k,k ∈ keys e1↔k ∈ keys es\/k=x:=λk=>by rw[kp.mem_iff,Qx,Qu]
   have sz1:e1.size=es.size+1:=by simpa using hp.length_eq
   have lt1:e1.size<scanBound:=by omega
   refine wpAny_bind (gw _ _ _ ?_)
   have fin:∀ t2:SetTable,t2.fits e1.size=true->t2.led=t.led->t2.plain=false->wpAny (model P w) A (do
    storeSet a e1 t2
    if(!wd && t2.tooFull)=true then do
        (match (relayAll t2 e1 (J7 e1.size)).2.2 with|true=>rule "set.scan.the-table-gave-way" | false=>pure ())
        storeSet a (relayAll t2 e1 (J7 e1.size)).1 (relayAll t2 e1 (J7 e1.size)).2.1
        pure (some true)
     else pure (some true)) (λr s₁=>wpAny (model P w) A (match r with|some b=>pure b|none=>setAddHashedIn a (.str x tk) (hashStr w x) 99999) Q E s₁) E s:=λt2 f2 l2 p2=>by
    refine wpAny_bind (S.put el1 nd1 lt1 f2 (l2.trans S.led) p2 λh1 sb1 S1=>?_)
    cases hw:(!wd && t2.tooFull) with
    | false=>exact wpAny_pure (wpAny_pure (h true h1 e1 _ t2 sb1 S1 mem1 (Yu sz1)))
    | true =>
      have rp:=relayAll_perm t2 e1 (J7 e1.size)
      have rf:=relayAll_fits t2 e1 (J7 e1.size)
      have rl:=z3f t2 e1 (J7 e1.size)
      generalize relayAll t2 e1 (J7 e1.size)=R at rp rf rl ⊢
      obtain⟨e2,t3,g2⟩:=R
      dsimp only at rp rf rl ⊢
      refine wpAny_bind (gw _ _ _ ?_)
      have z2:=zw2 rp
      refine wpAny_bind (S1.put (s:={ s with heap:=h1 }) (el1.perm rp) ((zm6 rp).nodup_iff.mpr nd1) (by omega) rf (rl.1.trans (l2.trans S.led)) (rl.2 p2) λh2 sb2 S2=>?_)
      exact wpAny_pure (wpAny_pure (h true h2 e2 _ t3 (sb1.trans sb2) S2 (λk=>by rw[(zm6 rp).mem_iff];exact mem1 k) (by omega)))
   split
   ·rename_i hpl
    refine wpAny_bind ?_
    rw[hashByValue_scannable 8 (x := .str x tk) rfl]
    refine wpAny_pure ?_
    exact fin { t1 with plain:=false } (SetTable.fits_plain_off hfit) hled rfl
   ·rename_i hpl
    refine wpAny_bind (wpAny_pure ?_)
    exact fin t1 hfit hled (by simpa using hpl)
end
end SX
namespace SX
open PySem PySem.Spec PyProof.Rows
section
variable {P : Program} {w : World} {A : Around} {R : Result → Shared → Prop} {I : Addr} {fp wr : List Addr} {G : Array GenState → Array GenState → Prop} {n : Nat} {Pv : Nat → Value → Prop} {St : Nat → Shared → Prop}
theorem Sx.keep{h h':Heap}{a:Addr}{es:Es}{ep:Nat}{t:SetTable}(S:Sx w h a es ep t)(k:∀ o,h.get? a=some o->h'.get? a=some o):Sx w h' a es ep t :=
 { S with at_:=let ⟨o,e,r⟩:=S.at_; ⟨o,k o e,r⟩ }
theorem Tx.keep{h h':Heap}{a:Addr}{es:Es}{ep:Nat}{t:SetTable}(S:Tx P w h a es ep t)(k:∀ o,h.get? a=some o->h'.get? a=some o):Tx P w h' a es ep t :=
 ⟨S.toSx.keep k,S.el,S.nd⟩
theorem z1g(W:WalksS P w A.in1 I fp wr G n Pv St)(S:Addr)(hS:S ∉ fp)(val:Nat->Str)(hval:∀ i v,Pv i v->∃ t,v = .str (val i) t)(hb:n+1<scanBound) :
 ∀ (m i:Nat) (s:Shared) (es:Es) (ep:Nat) (t:SetTable),n - i=m->i<=n->St i s->Tx P w s.heap S es ep t->(∀ x,x ∈ keys es↔∃ j,j<i/\val j=x)->es.size<=i ->
   (∀ s' es' ep' t',Moved (S::wr) G s s'->Tx P w s'.heap S es' ep' t'->(∀ x,x ∈ keys es'↔∃ j,j<n/\val j=x)->R (.ok (.ret .none)) s') ->
   codeAny (model P w) A (.builtin "set.update.loop" ⟨[.ref S,.ref I],[]⟩) R s:=by
 have nw:S ∉ wr:=λz=>hS (W.sub _ z)
 have up:∀ b ∈ wr,b ∈ S::wr:=λb z=>Qj _ z
 intro m
 induction m with
 | zero =>
   intro i s es ep t hm hi st T hk _ k
   obtain rfl:i=n:=by omega
   refine codeAny_builtin jB ?_
   rw[ZU Yq _]
   refine wpAny_bind (W.done s _ _ st λs' mv=>wpAny_pure ?_)
   exact k s' es ep t (mv.mono up) (T.keep λo e=>mv.heap S o nw e) hk
 | succ m ih =>
   intro i s es ep t hm hi st T hk hz k
   have hlt:i<n:=by omega
   refine codeAny_builtin jB ?_
   rw[ZU Yq _]
   refine wpAny_bind (W.item i s _ _ hlt st λv s' pv st' mv=>?_)
   obtain⟨tk,rfl⟩:=hval i v pv
   have T1:Tx P w s'.heap S es ep t:=T.keep λo e=>mv.heap S o nw e
   refine wpAny_bind (m:=holding [JS (val i) tk] (setAdd S (.str (val i) tk))) (wpAny_holding ?_)
   unfold setAdd
   refine wpAny_holding (wpAny_bind ((ZX P w).pyHash (k:=val i) (by show JH (val i) (.str (val i) tk)=true;simp[JH]) ?_))
   refine Tx.add (s:={ s' with toks:=s'.toks+1 }) (x:=val i) T1 (by omega) λb h' es' ep' t' sb T2 hk' hz'=>?_
   refine wpAny_pure ⟨plainId_quiet Yq _,ih (i+1) _ es' ep' t' (by omega) hlt (W.frame _ s' _ _ st' (JP _) λb hb o e=>?_) T2 (λx=>?_) (by omega) λs'' e2 p2 t2 mv2 T3 hk3=>?_⟩
   ·rw[sb.2 b (λz:b=S=>hS (z ▸ hb))]
    exact e
   ·rw[hk',hk]
    constructor
    ·rintro(⟨j,h1,h2⟩|rfl)
     ·exact⟨j,by omega,h2⟩
     ·exact⟨i,by omega,rfl⟩
    ·rintro⟨j,h1,h2⟩
     by_cases hj:j=i
     ·subst hj
      exact .inr h2.symm
     ·exact .inl ⟨j,by omega,h2⟩
   ·refine k s'' e2 p2 t2 (.trans W.gtrans ((mv.mono up).then_heap (JP _) λb o hb e=>?_) mv2) T3 hk3
    rw[sb.2 b (λz:b=S=>hb (z ▸ Q8))]
    exact e
end
section
variable {P : Program} {w : World} {A : Around} {E : Value → Shared → Prop} {s : Shared}
abbrev eObj(w:World):Obj:={ cls := .type "set", dict:=none,data := .set #[] 0 (.fresh 0 0 (!byT w)) }
theorem z8a{h:Heap}{a:Addr}(e:h.get? a=some (eObj w)):Tx P w h a #[] 0 (.fresh 0 0 (!byT w)) :=
 ⟨⟨⟨_,e,⟨rfl,rfl,rfl⟩,rfl⟩,by decide,rfl,rfl,λz=>absurd z (by decide)⟩,λ_ z=>by simp at z,by simp[keys]⟩
theorem z2b(v:Value){Q:Value->Shared->Prop}(h:Q (.ref s.heap.objs.size) { s with heap:=s.heap.push (eObj w) }) :
 codeAny (model P w) A (.call (.builtin "set.__new__") ⟨[.type "set", v],[]⟩) (wants Q E) s:=by
 refine codeAny_of_tree ?_
 refine wpAny_bind (m:=checkBuiltinCall "set.__new__" ⟨[.type "set", v],[]⟩) (wpAny_of_eq (F.newCall_set_1 v) (wpAny_pure ⟨plainId_quiet F.plain_set_new _,codeAny_builtin F.entry_set_new ?_⟩))
 rw[ZU F.plain_set_new _]
 unfold Builtin.«set.__new__» zk
 have hsub:=sub_set_self
 obtain⟨hp,g,d,tk,os⟩:=s
 dsimp only
 wp_walk
 refine wpAny_askSetting (wpAny_pure ?_)
 dsimp only
 simp only[newObj]
 refine wpAny_bind (wpAny_alloc (wpAny_pure ?_))
 exact wpAny_pure h
end
end SX
namespace SX
open PySem PySem.Spec PyProof.Rows
section
variable {P : Program} {w : World} {A : Around} {E : Value → Shared → Prop} {s : Shared}
abbrev Ext(h h':Heap):Prop:=∀ b o,h.get? b=some o->h'.get? b=some o
def Src(P:Program)(w:World)(h:Heap)(v:Value)(n:Nat)(Pv:Nat->Value->Prop):Prop :=
 ∀ (A:Around) (E:Value->Shared->Prop) (s₁:Shared) (Q:Value->Shared->Prop),A.handled=none->Ext h s₁.heap ->
   (∀ I h' fp St,(∀ A':Around,A'.handled=none->Walks P w A' I fp [I] n Pv St)->St 0 h'->Ext s₁.heap h'->(∀ b ∈ fp,b<h.objs.size\/s₁.heap.objs.size<=b)->s₁.heap.objs.size<=I->Q (.ref I) { s₁ with heap:=h' }) ->
   wpAny (model P w) A (pyIter v) Q E s₁
theorem zgn{v:Value}{T:String}{n:Nat}{Pv:Nat->Value->Prop}{val:Nat->Str}{Q:Value->Shared->Prop}(hh:A.handled=none)(hT:∀ s₁:Shared,Ext s.heap s₁.heap->s₁.TypeIs v T)
 (h1:isSubtype (.type T) (.type "set")=pure false) (h2:isSubtype (.type T) (.type "frozenset")=pure false) (h3:(J9 T == J9 "dict")=false) (src:Src P w s.heap v n Pv)
 (hval:∀ i v,Pv i v->∃ t,v = .str (val i) t) (hb:n+1<scanBound)
 (k:∀ h' tk es ep t,Tx P w h' s.heap.objs.size es ep t->(∀ x,x ∈ keys es↔∃ j,j<n/\val j=x)->Ext s.heap h'->Q (.ref s.heap.objs.size) { s with heap:=h',toks:=tk }) :
 wpAny (model P w) A (call (.type "set") [v]) Q E s:=by
 obtain⟨c,tl,hmro⟩:=JB.mro
 have hmade:=JB.made
 have hsub:=JB.sub
 refine wpAny_call (codeAny_of_tree ?_)
 show wpAny _ _ (callAny (.type "set") _) _ _ _
 refine wpAny_pure ⟨jc _ (by decide +kernel),codeAny_builtin F.entry_type_call ?_⟩
 rw[Around.under_plain (weight_type_call_type "set" [v] []) rfl]
 have c1:=JB.notType
 have c2:=JB.canCreate
 have c3:=F.typeCall_set_1 v
 repeat (any_goals (first|assumption|wp_step))
 refine codeAny_mono (z2b v (E:=E) (Q:=λr s₁=>r = .ref s.heap.objs.size/\s₁ = { s with heap:=s.heap.push (eObj w) }) ⟨rfl,rfl⟩) λr s₁ hr=>?_
 cases r with
 | error e=>exact hr
 | ok fl =>
   cases fl with
   | ret obj =>
     obtain⟨rfl,rfl⟩:=hr
     have eS:(s.heap.push (eObj w)).get? s.heap.objs.size=some (eObj w):=Qq _ rfl
     have hS:qm { s with heap:=s.heap.push (eObj w) } (.ref s.heap.objs.size) "set" := ⟨_,eS,rfl⟩
     have c4:=JB.init.lookup
     have c5:=JB.init.bind (.ref s.heap.objs.size)
     repeat (any_goals (first|assumption|wp_step))
     refine codeAny_mono (codeAny_call_builtin (R:=wants (λr s₂=>r = .none/\∃ h' tk es ep t,s₂ = { s with heap:=h',toks:=tk }/\Tx P w h' s.heap.objs.size es ep t/\(∀ x,x ∈ keys es↔∃ j,j<n/\val j=x)/\Ext s.heap h') E) JB.init.plain F.entry_set_init (check_set_init_1 hS ?_)) λr₂ s₂ hr₂=>?_
     ·have e0:Ext s.heap (s.heap.push (eObj w)):=λb o e=>Qb _ e
      have hTv:=hT { s with heap:=s.heap.push (eObj w) } e0
      unfold Builtin.«set.__init__» noKeywords zf
      generalize hPI:pyIter=PI
      wp_walk
      subst hPI
      have lt0:s.heap.objs.size<(s.heap.push (eObj w)).objs.size:=by rw[Z2];exact ZK _
      refine src _ _ _ _ (by simpa using hh) e0 λI h' fp St W st ex fpb hI=>?_
      refine wpAny_bind (wpAny_runValue ?_)
      have nS:s.heap.objs.size ∉ fp:=λz=>by
       rcases fpb _ z with y|y
       ·exact ZI _ y
       ·exact absurd lt0 (ZN.mpr y)
      refine z1g (W _ (by simpa using hh)).toS s.heap.objs.size nS val hval hb n 0 _ #[] 0 _ rfl (QO _) st (z8a (ex _ _ eS)) (λx=>by simp[keys]) (Qt _) λs' es ep t mv T hk=>?_
      obtain⟨h2,g2,d2,tk2,os2⟩:=s'
      obtain rfl:g2=s.gens:=mv.gens
      obtain rfl:d2=s.drawn:=mv.drawn
      obtain rfl:os2=s.os:=mv.os
      show wpAny _ _ _ _ _ _
      refine wpAny_pure (wpAny_pure ⟨rfl,h2,tk2,es,ep,t,rfl,T,hk,λb o e=>mv.heap b o (λz=>?_) (ex b o (e0 b o e))⟩)
      have hbl:=Qn e
      rcases Ql.mp z with z|z
      ·exact Q9 hbl z
      ·rw[Qu.mp z] at hbl
       exact absurd hbl (ZN.mpr (Q2 (Jj lt0) hI))
     ·cases r₂ with
      | error e=>exact hr₂
      | ok fl₂ =>
        cases fl₂ with
        | ret r =>
          obtain⟨rfl,h',tk,es,ep,t,rfl,T,hk,ex⟩:=hr₂
          repeat (any_goals (first|assumption|wp_step))
          exact k _ _ _ _ _ T hk ex
        | _=>exact hr₂.elim
   | _=>exact hr.elim
end
end SX
namespace SX
open PySem PySem.Spec PyProof.Rows
theorem nx_slot:Slot "set_iterator" "__next__" "set_iterator.__next__" := by
 refine Slot.of (owner := "set_iterator") (n := "__next__") ?_ (by decide +kernel) (by decide +kernel) (by decide +kernel) ?_ ?_
 ·rw[typeLookup_type,builtinLookup_eq_fast]
  kernel_rfl
 ·first
   | exact .inl (by decide +kernel)
   | exact .inr (by decide +kernel)
 ·rw[isSubtype_type]
  kernel_rfl
theorem zrr:Slot "set_iterator" "__iter__" "set_iterator.__iter__" := by
 refine Slot.of (owner := "set_iterator") (n := "__iter__") ?_ (by decide +kernel) (by decide +kernel) (by decide +kernel) ?_ ?_
 ·rw[typeLookup_type,builtinLookup_eq_fast]
  kernel_rfl
 ·first
   | exact .inl (by decide +kernel)
   | exact .inr (by decide +kernel)
 ·rw[isSubtype_type]
  kernel_rfl
theorem zpe:entryFor table "set_iterator.__next__" = some Builtin.«set_iterator.__next__»:=by
 refine entryFor_of_tree ?_
 kernel_rfl
theorem zx7:entryFor table "set_iterator.__iter__" = some Builtin.«dict_keyiterator.__iter__»:=by
 refine entryFor_alias (id' := "dict_keyiterator.__iter__") ?_ rfl ?_ ?_
 ·kernel_rfl
 ·decide +kernel
 ·kernel_rfl
theorem zlb:entryFor table "set.__iter__" = some Builtin.«frozenset.__iter__»:=by
 refine entryFor_alias (id' := "frozenset.__iter__") ?_ rfl ?_ ?_
 ·kernel_rfl
 ·decide +kernel
 ·kernel_rfl
theorem zny:Manifest.owners.lookup (String.ofList ['r','o','t','a','r','e','t','i','_','t','e','s'].reverse)=some Manifest.sig_set_iterator:=by kernel_rfl
theorem zqq(a:Value):argsOk "set_iterator.__next__" ⟨[a],[]⟩:=by
 unfold argsOk
 rw[signature?_of (id := "set_iterator.__next__") (n := ['_','_','t','x','e','n','_','_']) (o := ['r','o','t','a','r','e','t','i','_','t','e','s']) (by kernel_rfl) zny]
 kernel_rfl
theorem z1b(a:Value):argsOk "set_iterator.__iter__" ⟨[a],[]⟩:=by
 unfold argsOk
 rw[signature?_of (id := "set_iterator.__iter__") (n := ['_','_','r','e','t','i','_','_']) (o := ['r','o','t','a','r','e','t','i','_','t','e','s']) (by kernel_rfl) zny]
 kernel_rfl
theorem zhw{α:Type}:∀ {l:List α} {i:Nat} (h:i<l.length),(l[i]::l.eraseIdx i).Perm l
 | [],_,h=>absurd h (YN _)
 | x::l,0,_ => .refl _
 | x::l,i+1,h=>(List.Perm.swap x _ _).trans ((zhw (l:=l) (i:=i) (Nat.lt_of_succ_lt_succ h)).cons x)
theorem zrf{α:Type}(f:Nat->Nat):∀ (m k:Nat) (l:List α) (out:Array α),l.length=m->(qJ f m k l out).toList.Perm (out.toList++l)
 | 0,k,l,out,h=>by
   obtain rfl:l = []:=by cases l with|nil=>rfl|cons _ _=>simp at h
   simp[qJ]
 | m+1,k,l,out,h=>by
   have hi:f k % l.length<l.length:=Nat.mod_lt _ (by omega)
   unfold qJ
   rw[Qk hi]
   refine(zrf f m (k+1) (l.eraseIdx (f k % l.length)) (out.push l[f k % l.length]) (by rw[jX];simp[hi];omega)).trans ?_
   rw[jr,Qw]
   refine List.Perm.append_left _ ?_
   exact zhw hi
theorem zve{α:Type}(f:Nat->Nat)(xs:Array α):(pickOrder f xs).toList.Perm xs.toList:=by
 simpa[pickOrder] using zrf f xs.size 0 xs.toList #[] (by simp)
end SX
namespace SX
open PySem PySem.Spec PyProof.Rows
section
variable {P : Program} {w : World} {A : Around} {E : Value → Shared → Prop} {s : Shared} {α : Type}
theorem zt9{src:Source}{n:Nat}{Q:Nat->Shared->Prop}(hn:n ≠ 0)(h:∀ i d,i<n->Q i { s with drawn:=d }):wpAny (model P w) A (choose src n) Q E s:=λΓ p _ =>
 ⟨hn,h _ _ (Nat.mod_lt _ (Nat.pos_of_ne_zero hn))⟩
theorem zqy:∀ (m:Nat) (xs:List α) (s:Shared) (Q:List α->Shared->Prop),xs.length=m->(∀ ys d,ys.Perm xs->Q ys { s with drawn:=d })->wpAny (model P w) A (drawOrder m xs) Q E s
 | 0,xs,s,Q,e,h=>by
   obtain rfl:xs = []:=Yr.mp e
   exact wpAny_pure (h [] s.drawn .nil)
 | m+1,[],s,Q,e,h=>by cases e
 | m+1,x::xs,s,Q,e,h=>by
   unfold drawOrder
   refine wpAny_bind (zt9 (by simp) λi d hi=>?_)
   rw[Qk hi]
   refine wpAny_bind (zqy m _ _ _ (by rw[jX,if_pos hi];simpa using e) λys d2 hp=>?_)
   exact wpAny_pure (h _ d2 ((hp.cons _).trans (zhw hi)))
theorem wp_f{c:Prop}[Decidable c]{a b:Sem α}{Q:α->Shared->Prop}(hc:¬ c)(h:wpAny (model P w) A b Q E s):wpAny (model P w) A (if c then a else b) Q E s:=by
 rw[if_neg hc]
 exact h
theorem wp_t{c:Prop}[Decidable c]{a b:Sem α}{Q:α->Shared->Prop}(hc:c)(h:wpAny (model P w) A a Q E s):wpAny (model P w) A (if c then a else b) Q E s:=by
 rw[if_pos hc]
 exact h
theorem zk4{Q:Bool->Shared->Prop}(h:Q (byT w) s):wpAny (model P w) A setsByText Q E s:=by
 unfold setsByText
 exact wpAny_bind (wpAny_askSetting (wpAny_pure h))
theorem Sx.state{a:Addr}{es:Es}{ep:Nat}{t:SetTable}{Q:(Es × Nat × SetTable)->Shared->Prop}(S:Sx w s.heap a es ep t)(h:Q (es,ep,t) s):wpAny (model P w) A (setState a) Q E s :=
 let ⟨_,ho,_,hd⟩:=S.at_
 wpAny_setState_of ho hd S.fit h
theorem Sx.entries{a:Addr}{es:Es}{ep:Nat}{t:SetTable}{Q:Es->Shared->Prop}(S:Sx w s.heap a es ep t)(h:Q es s):wpAny (model P w) A (setEntries a) Q E s :=
 let ⟨_,ho,_,hd⟩:=S.at_
 wpAny_setEntries_of ho hd S.fit h
theorem Sx.epoch{a:Addr}{es:Es}{ep:Nat}{t:SetTable}{Q:Nat->Shared->Prop}(S:Sx w s.heap a es ep t)(h:Q ep s):wpAny (model P w) A (setEpoch a) Q E s :=
 let ⟨_,ho,_,hd⟩:=S.at_
 wpAny_setEpoch_of ho hd S.fit h
abbrev itO(first:Value)(i:Nat)(S:Addr)(n ep:Nat):Obj:={ cls := .type "set_iterator", dict:=none,data := .fields #[first,.int i 0,.ref S,.int n 0,.int ep 0],slots:=#[] }
theorem zqt{Z:α->Shared->Prop}{R:Option Value->Shared->Prop}(hh:A.handled=none)(h:∀ h',Ext s.heap h'->R none { s with heap:=h' }) :
 wpAny (model P w) A.in1 (do raiseNew (<- newExc (.type "StopIteration") [])) Z (λe s₁=>wpAny (model P w) A (do if <- isInstance e (.type "StopIteration") then pure none else throw e) R E s₁) s:=by
 refine wpAny_bind ?_
 simp only[newExc,newTuple]
 refine wpAny_bind (wpAny_newObj_type ?_ (by size_fits))
 refine wpAny_bind (m:=firstArgMember _ _) (wpAny_of_eq (a:=Zh) (by first|rfl|(simp only[firstArgMember];rfl)) ?_)
 refine wpAny_newObj_type ?_ (by size_fits)
 simp only[raiseNew]
 refine wpAny_bind (wpAny_handled ?_)
 rw[show A.in1.handled=none from hh]
 refine wpAny_bind (wpAny_pure (wpAny_throw ?_))
 refine wpAny_bind (wpAny_isInstance (T := "StopIteration") (b:=true) ⟨_,Qq _ rfl,rfl⟩ isSubtype_stop ?_)
 exact wpAny_pure (h _ λb o e=>Qb _ (Qb _ e))
end
end SX
namespace SX
open PySem PySem.Spec PyProof.Rows
section
variable {P : Program} {w : World} {A : Around} {E : Value → Shared → Prop} {s : Shared} {it S : Addr} {es : Es} {ep : Nat} {t : SetTable}
theorem ziy{first:Value}{sl:Nat}{i:Nat}{R:Option Value->Shared->Prop}(hf:first = .int sl 0)(ho:s.heap.get? it=some (itO first i S es.size ep))(T:Sx w s.heap S es ep t)
 (h:wpAny (model P w) A.in1 (setNext S sl i ep) (λr s₁=>s₁=s/\match r with
  | some (x,nx)=>∀ h',h'.get? it=some (itO (.int nx 0) (i+1) S es.size ep)->ZZ it s.heap h'->R (some x) { s with heap:=h' }
  | none=>∀ h',(∀ b o,b ≠ it->s.heap.get? b=some o->h'.get? b=some o)->R none { s with heap:=h' }) (λ_ _=>False) s) (hh:A.handled=none):wpAny (model P w) A (pyNext (.ref it)) R E s:=by
 subst hf
 have hT:s.TypeIs (.ref it) "set_iterator" := ⟨_,ho,rfl⟩
 unfold pyNext
 refine wpAny_bind (wpAny_attempt (wpAny_callSpecial?_slot (name:=Qi "__next__") hT nx_slot (wpAny_call_entry nx_slot hT zpe ?_ (zqq _))))
 unfold Builtin.«set_iterator.__next__»
 refine wpAny_bind (wpAny_pure ?_)
 refine wpAny_bind (wpAny_fieldsOf ho rfl ?_)
 refine wpAny_bind (T.entries ?_)
 refine wp_f (by simp) ?_
 refine wpAny_bind (wpAny_mono h (λr s₁ q=>?_) λ_ _ z=>z.elim)
 obtain⟨rfl,q⟩:=q
 match r,q with
 | some (x,nx),q =>
   refine wpAny_bind (wpAny_setField_rec ho (by simp) λh1 e1 b1=>?_)
   refine wpAny_bind (wpAny_setField_rec (s:={ s₁ with heap:=h1 }) e1 (by simp) λh2 e2 b2=>?_)
   refine wpAny_pure ⟨x,rfl,wpAny_pure (q h2 ?_ (b1.trans b2))⟩
   exact e2
 | none,q =>
   refine wpAny_bind (wpAny_setField_rec ho (by simp) λh1 e1 b1=>?_)
   exact zqt (s:={ s₁ with heap:=h1 }) hh λh' ex=>q h' λb o n e=>ex b o ((b1.2 b n).trans e)
end
end SX
namespace SX
open PySem PySem.Spec PyProof.Rows
section
variable {P : Program} {w : World} {A : Around} {E : Value → Shared → Prop} {s : Shared} {it S : Addr} {es : Es} {ep : Nat} {t : SetTable}
theorem zzi{sl i:Nat}{Q:Option (Value × Nat)->Shared->Prop}(hb:byT w=true)(T:Sx w s.heap S es ep t)(h:Q (((pickOrder (w.params.setOrder S ep) es)[i]?).map λe=>(e.2,sl)) s):wpAny (model P w) A (setNext S sl i ep) Q E s:=by
 unfold setNext
 refine wpAny_bind (T.state ?_)
 refine wpAny_bind (zk4 ?_)
 rw[hb]
 refine wp_t rfl ?_
 refine wp_f (by simp) ?_
 refine wpAny_bind ?_
 unfold setWalk
 refine wpAny_bind (T.state ?_)
 refine wpAny_bind (zk4 ?_)
 rw[hb]
 refine wp_t rfl ?_
 exact wpAny_bind (wpAny_askSetting (wpAny_pure (wpAny_pure h)))
theorem zz5{sl i:Nat}{Q:Option (Value × Nat)->Shared->Prop}(hb:byT w=false)(hz:es.size<=1)(T:Sx w s.heap S es ep t) (h:Q (match es[JQ t.place sl]?,t.place[JQ t.place sl]? with
 | some (_,x),some j=>some (x,j+1)
 | _,_=>none) s):wpAny (model P w) A (setNext S sl i ep) Q E s:=by
 unfold setNext
 refine wpAny_bind (T.state ?_)
 refine wpAny_bind (zk4 ?_)
 rw[hb]
 refine wp_f (by decide) ?_
 refine wp_f (show ¬ ((!t.plain && decide (es.size > 1))=true) by simp;omega) ?_
 refine wpAny_bind (m:=if(!t.led && !es.isEmpty)=true then unsupported "set:maker-not-led" else pure ()) (wp_f (by rw[T.led,hb];simp) (wpAny_pure ?_))
 exact wpAny_pure h
theorem zqz{Tp:Addr}{pls:List Value}{c:Nat}{i:Nat}{R:Option Value->Shared->Prop}(ho:s.heap.get? it=some (itO (.ref Tp) i S es.size ep))(hp:s.heap.get? Tp=some { cls := .type "tuple", data := .seq pls.toArray c })(T:Sx w s.heap S es ep t)
 (h:match pls[i]? with
  | some v=>∃ (j:Nat) (e:Int × Value),v = .int j 0/\es[j]? = some e/\∀ h',h'.get? it=some (itO (.ref Tp) (i+1) S es.size ep)->ZZ it s.heap h'->R (some e.2) { s with heap:=h' }
  | none=>∀ h',(∀ b o,b ≠ it->s.heap.get? b=some o->h'.get? b=some o)->R none { s with heap:=h' }) (hh:A.handled=none):wpAny (model P w) A (pyNext (.ref it)) R E s:=by
 have hT:s.TypeIs (.ref it) "set_iterator" := ⟨_,ho,rfl⟩
 unfold pyNext
 refine wpAny_bind (wpAny_attempt (wpAny_callSpecial?_slot (name:=Qi "__next__") hT nx_slot (wpAny_call_entry nx_slot hT zpe ?_ (zqq _))))
 unfold Builtin.«set_iterator.__next__»
 refine wpAny_bind (wpAny_pure ?_)
 refine wpAny_bind (wpAny_fieldsOf ho rfl ?_)
 refine wpAny_bind (T.entries ?_)
 refine wp_f (by simp) ?_
 refine wpAny_bind (wpAny_seqItems hp rfl ?_)
 have ea:(pls.toArray)[(i:Int).toNat]? = pls[i]?:=by simp
 dsimp only
 rw[ea]
 cases hv:pls[i]? with
 | some v =>
   rw[hv] at h
   obtain⟨j,e,rfl,he,h⟩:=h
   dsimp only
   refine wpAny_bind ?_
   unfold setNextDrawn
   refine wpAny_bind (T.state ?_)
   refine wp_f (by simp) ?_
   have ej:es[(j:Int).toNat]? = some e:=by simpa using he
   rw[ej]
   refine wpAny_pure ?_
   refine wpAny_bind (wpAny_setField_rec ho (by simp) λh1 e1 b1=>?_)
   exact wpAny_pure ⟨_,rfl,wpAny_pure (h h1 e1 b1)⟩
 | none =>
   rw[hv] at h
   dsimp only
   refine wpAny_bind (wpAny_setField_rec ho (by simp) λh1 e1 b1=>?_)
   refine wpAny_bind (wpAny_setField_rec (s:={ s with heap:=h1 }) e1 (by simp) λh2 e2 b2=>?_)
   exact zqt (s:={ s with heap:=h2 }) hh λh' ex=>h h' λb o n e=>ex b o ((b2.2 b n).trans ((b1.2 b n).trans e))
theorem zls{first:Value}{i n:Nat}{Q:Value->Shared->Prop}(ho:s.heap.get? it=some (itO first i S n ep))(h:Q (.ref it) s):wpAny (model P w) A (pyIter (.ref it)) Q E s:=by
 have hT:s.TypeIs (.ref it) "set_iterator" := ⟨_,ho,rfl⟩
 refine wpAny_pyIter_slot hT zrr (wpAny_call_entry zrr hT zx7 ?_ (z1b _))
 exact wpAny_pure ⟨_,rfl, "set_iterator", _,hT,nx_slot.lookup,h⟩
end
end SX
namespace SX
open PySem PySem.Spec PyProof.Rows
section
variable {P : Program} {w : World} {A : Around} {E : Value → Shared → Prop} {s : Shared} {it S : Addr} {es : Es} {ep : Nat} {t : SetTable}
def ordP(ord:List (Int × Value)):Nat->Value->Prop:=λi v=>∃ e,ord[i]? = some e/\v=e.2
theorem z9d(hh:A.handled=none)(hb:byT w=true)(ne:S ≠ it) :
 Walks P w A it [it,S] [it] (pickOrder (w.params.setOrder S ep) es).toList.length (ordP (pickOrder (w.params.setOrder S ep) es).toList) (λi h=>(∃ sl:Nat,h.get? it=some (itO (.int sl 0) i S es.size ep))/\Sx w h S es ep t) where
 sub:=λb z=>by simp at z;simp[z]
 frame:=λi h h' st k=>⟨let ⟨sl,e⟩:=st.1; ⟨sl,k it (by simp) _ e⟩,st.2.keep λo e=>k S (by simp) o e⟩
 item:=λi s Q E hi st k=>by
  obtain⟨⟨sl,ho⟩,T⟩:=st
  refine ziy rfl ho T (zzi hb T ⟨rfl,?_⟩) hh
  have hx:(pickOrder (w.params.setOrder S ep) es)[i]? = some ((pickOrder (w.params.setOrder S ep) es).toList[i]):=by
   rw[<- Y6]
   exact Qk hi
  rw[hx]
  refine λh' e' sb=>k _ h' s.toks ⟨_,Qk hi,rfl⟩ ⟨⟨sl,e'⟩,T.keep λo e=>(sb.2 S ne).trans e⟩ λb o nb e=>(sb.2 b (by simpa using nb)).trans e
 done:=λs Q E st k=>by
  obtain⟨⟨sl,ho⟩,T⟩:=st
  refine ziy rfl ho T (zzi hb T ⟨rfl,?_⟩) hh
  rw[show(pickOrder (w.params.setOrder S ep) es)[(pickOrder (w.params.setOrder S ep) es).toList.length]? = none by simp]
  exact λh' kp=>k h' s.toks λb o nb e=>kp b o (by simpa using nb) e
 self:=λi s Q E st h=>zls st.1.choose_spec h
theorem zpu:∀ {js:List Nat},(∀ j ∈ js,j<es.size)->(js.filterMap λj=>es[j]?)=js.map λj=>es[j]?.getD (0,.none)
 | [],_=>rfl
 | j::js,hj=>by
   obtain⟨e,h1⟩:∃ e,es[j]? = some e:=⟨_,Zq (hj j (by simp))⟩
   rw[List.filterMap_cons_some h1,Q3,h1,zpu λx z=>hj x (Qj _ z)]
   rfl
theorem z6p{Tp:Addr}{ord:List (Int × Value)}{js:List Nat}(hh:A.handled=none)(ne:S ≠ it)(nt:Tp ≠ it)(ho:ord=js.filterMap λj=>es[j]?)(hj:∀ j ∈ js,j<es.size) :
 Walks P w A it [it,S,Tp] [it] ord.length (ordP ord) (λi h=>h.get? it=some (itO (.ref Tp) i S es.size ep)/\Sx w h S es ep t/\h.get? Tp=some { cls := .type "tuple", data := .seq (js.map λ(j:Nat)=>j7 j 0).toArray }) where
 sub:=λb z=>by simp at z;simp[z]
 frame:=λi h h' st k=>⟨k it (by simp) _ st.1,st.2.1.keep λo e=>k S (by simp) o e,k Tp (by simp) _ st.2.2⟩
 item:=λi s Q E hi st k=>by
  obtain⟨hi1,T,ht⟩:=st
  have el:=ho.trans (zpu hj)
  have hl:i<js.length:=by rw[el] at hi;simpa using hi
  obtain⟨e,h1⟩:∃ e,es[js[i]]? = some e:=⟨_,Zq (hj _ (QQ hl))⟩
  refine zqz hi1 ht T ?_ hh
  rw[Q4,Qk hl]
  refine⟨js[i],_,rfl,h1,λh' e' sb=>k _ h' s.toks ⟨e,?_,rfl⟩ ⟨e',T.keep λo e=>(sb.2 S ne).trans e,(sb.2 Tp nt).trans ht⟩ λb o nb e=>(sb.2 b (by simpa using nb)).trans e⟩
  rw[el,Q4,Qk hl]
  show some (es[js[i]]?.getD (0,.none))=_
  rw[h1]
  rfl
 done:=λs Q E st k=>by
  obtain⟨hi1,T,ht⟩:=st
  have el:ord.length=js.length:=by rw[ho.trans (zpu hj)];simp
  refine zqz hi1 ht T ?_ hh
  rw[Q4,QZ (by omega)]
  exact λh' kp=>k h' s.toks λb o nb e=>kp b o (by simpa using nb) e
 self:=λi s Q E st h=>zls st.1 h
theorem zmz{p:Array Nat}{sl:Nat}(h:p.size=1):JQ p sl=if p.getD 0 sl<sl then 1 else 0:=by
 unfold JQ
 rw[h]
 unfold jt
 rw[if_pos (by omega)]
 show(if p.getD 0 sl<sl then jt p sl 0 1 1 else jt p sl 0 0 0)=_
 split <;> rfl
theorem yau(hh:A.handled=none)(hb:byT w=false)(hz:es.size<=1)(ne:S ≠ it) :
 Walks P w A it [it,S] [it] es.toList.length (ordP es.toList) (λi h=>(∃ sl:Nat,(i=0->sl=0)/\(i=1->∃ j,t.place[0]? = some j/\sl=j+1)/\h.get? it=some (itO (.int sl 0) i S es.size ep))/\Sx w h S es ep t) where
 sub:=λb z=>by simp at z;simp[z]
 frame:=λi h h' st k=>⟨let ⟨sl,e0,e1,e⟩:=st.1; ⟨sl,e0,e1,k it (by simp) _ e⟩,st.2.keep λo e=>k S (by simp) o e⟩
 item:=λi s Q E hi st k=>by
  obtain⟨⟨sl,h0,_,ho⟩,T⟩:=st
  have hi':i<es.size:=by simpa using hi
  obtain rfl:i=0:=by omega
  obtain rfl:=h0 rfl
  have f1:t.place.size=1:=by
   have:=T.fit
   simp only[zy,Qp,beq_iff_eq] at this
   omega
  have hbel:JQ t.place 0=0:=by rw[zmz f1,if_neg (YN _)]
  refine ziy rfl ho T (zz5 hb hz T ⟨rfl,?_⟩) hh
  rw[hbel]
  have e1:es[0]? = some es[0]:=Zq hi'
  have e2:t.place[0]? = some t.place[0]:=Zq (by omega)
  rw[e1,e2]
  refine λh' e' sb=>k _ h' s.toks ⟨es[0],by rw[Y6];exact e1,rfl⟩ ⟨⟨t.place[0]+1,λz=>by omega,λ_=>⟨_,e2,rfl⟩,e'⟩,T.keep λo e=>(sb.2 S ne).trans e⟩ λb o nb e=>(sb.2 b (by simpa using nb)).trans e
 done:=λs Q E st k=>by
  obtain⟨⟨sl,_,h1,ho⟩,T⟩:=st
  have f1:t.place.size=es.size:=by
   have:=T.fit
   simp only[zy,Qp,beq_iff_eq] at this
   omega
  refine ziy rfl ho T (zz5 hb hz T ⟨rfl,?_⟩) hh
  have none':es[JQ t.place sl]? = none:=by
   by_cases h:es.size=0
   ·exact Jk (by omega)
   ·obtain⟨j,e1,e2⟩:=h1 (by simp;omega)
    rw[zmz (by omega),JL,e1,e2]
    show es[if j<j+1 then 1 else 0]? = none
    rw[if_pos (ZK _)]
    exact Jk (by omega)
  rw[none']
  exact λh' kp=>k h' s.toks λb o nb e=>kp b o (by simpa using nb) e
 self:=λi s Q E st h=>zls st.1.choose_spec.2.2 h
end
end SX
namespace SX
open PySem PySem.Spec PyProof.Rows
section
variable {P : Program} {w : World} {A : Around} {E : Value → Shared → Prop} {s : Shared} {it S : Addr} {es : Es} {ep : Nat} {t : SetTable}
theorem Sx.typ(T:Sx w s.heap S es ep t):s.TypeIs (.ref S) "set" := let ⟨_,ho,hx,_⟩:=T.at_; ⟨_,ho,hx.1⟩
theorem Sx.lts(T:Sx w s.heap S es ep t):S<s.heap.objs.size:=let ⟨_,ho,_⟩:=T.at_;Qn ho
theorem zxy{Q:Bool->Shared->Prop}(T:Sx w s.heap S es ep t)(h:Q (!byT w && decide (es.size > 1)) s):wpAny (model P w) A (setDrawn S) Q E s:=by
 unfold setDrawn
 refine wpAny_bind (T.state ?_)
 refine wpAny_bind (zk4 ?_)
 have e:(!byT w && (!t.plain && decide (es.size > 1)))=(!byT w && decide (es.size > 1)):=by
  by_cases hz:1<es.size
  ·rw[T.pl hz];simp
  ·simp[hz]
 refine wpAny_pure ?_
 show Q (!byT w && (!t.plain && decide (es.size > 1))) s
 rw[e]
 exact h
theorem zx1{Q:Value->Shared->Prop}(T:Sx w s.heap S es ep t)
 (k:∀ (it:Addr) (h':Heap) (d':Drawn) (ord:List (Int × Value)) (fp:List Addr) (St:Nat->Heap->Prop),ord.Perm es.toList->(∀ A':Around,A'.handled=none->Walks P w A' it fp [it] ord.length (ordP ord) St)->St 0 h'->Ext s.heap h'->(∀ b ∈ fp,b<s.heap.objs.size->b=S)->(∀ b ∈ fp,b<h'.objs.size)->s.heap.objs.size<=it->it ∈ fp->Q (.ref it) { s with heap:=h',drawn:=d' }) :
 wpAny (model P w) A (pyIter (.ref S)) Q E s:=by
 have hlt:=T.lts
 refine wpAny_pyIter_slot T.typ F.slot_set_iter (wpAny_call_entry F.slot_set_iter T.typ zlb ?_ (F.args_set_iter_1 _))
 unfold Builtin.«frozenset.__iter__»
 refine wpAny_bind (m:=zB "__iter__" ⟨[.ref S],[]⟩) (wpAny_pure ?_)
 refine wpAny_bind (wpAny_bind (T.entries (wpAny_pure ?_)))
 refine wpAny_bind (zxy T ?_)
 have sz:∀ (h:Heap) (o:Obj),(h.push o).objs.size=h.objs.size+1:=λh o=>Z2 ..
 cases hd:(!byT w && decide (es.size > 1)) with
 | true =>
   refine wp_t rfl ?_
   refine wpAny_bind (zqy es.size _ _ _ (by simp) λjs d hp=>?_)
   have hz:js.length<=sizeLine:=by
    have:=fits_of_scanBound T.lt
    rw[hp.length_eq,Yx]
    exact this
   refine wpAny_bind (wpAny_newTuple ?_ (by rw[Qe];exact hz))
   have T1:Sx w (s.heap.push { cls := .type "tuple", data := .seq (js.map λ(j:Nat)=>rawInt j).toArray }) S es ep t:=T.keep λo e=>Qb _ e
   refine wpAny_bind (Sx.epoch (s:={ s with heap:=s.heap.push { cls := .type "tuple", data := .seq (js.map λ(j:Nat)=>rawInt j).toArray },drawn:=d }) T1 ?_)
   refine wpAny_bind (wpAny_newObj_type (wpAny_pure ⟨_,rfl, "set_iterator", _,⟨_,Qq _ rfl,rfl⟩,nx_slot.lookup,?_⟩))
   have hj:∀ j ∈ js,j<es.size:=λj z=>YV.mp (hp.mem_iff.mp z)
   refine k _ _ d (js.filterMap λj=>es[j]?) [(s.heap.push { cls := .type "tuple", data := .seq (js.map λ(j:Nat)=>rawInt j).toArray }).objs.size,S,s.heap.objs.size] _ ?_ (λA' hA=>z6p (t:=t) (ep:=ep) hA ?_ ?_ rfl hj) ⟨Qq _ rfl,T1.keep λo e=>Qb _ e,Qb _ (Qq _ rfl)⟩ (λb o e=>Qb _ (Qb _ e)) ?_ ?_ ?_ (by simp)
   ·refine(hp.filterMap _).trans ?_
    rw[filterMap_getElem?_range]
   ·rw[sz];exact Q9 (QY hlt)
   ·rw[sz];exact Q9 (ZK _)
   ·intro b hb hl
    rw[sz] at hb
    simp at hb
    rcases hb with rfl|rfl|rfl
    ·exact absurd hl (ZN.mpr (JP _))
    ·rfl
    ·exact absurd hl (ZI _)
   ·intro b hb
    rw[sz] at hb
    rw[sz,sz]
    simp at hb
    rcases hb with rfl|rfl|rfl
    ·exact ZK _
    ·exact QY (QY hlt)
    ·exact QY (ZK _)
   ·rw[sz];exact JP _
 | false =>
   refine wp_f (by decide) (wpAny_bind (wpAny_pure ?_))
   refine wpAny_bind (T.epoch ?_)
   refine wpAny_bind (wpAny_newObj_type (wpAny_pure ⟨_,rfl, "set_iterator", _,⟨_,Qq _ rfl,rfl⟩,nx_slot.lookup,?_⟩))
   have ne:S ≠ s.heap.objs.size:=Q9 hlt
   have fpo:∀ b ∈ [s.heap.objs.size,S],b<s.heap.objs.size->b=S:=λb hb hl=>by
    simp at hb
    rcases hb with rfl|rfl
    ·exact absurd hl (ZI _)
    ·rfl
   have fpl:∀ o:Obj,∀ b ∈ [s.heap.objs.size,S],b<(s.heap.push o).objs.size:=λo b hb=>by
    rw[sz]
    simp at hb
    rcases hb with rfl|rfl
    ·exact ZK _
    ·exact QY hlt
   cases hb:byT w with
   | true =>
     exact k _ _ s.drawn _ [s.heap.objs.size,S] _ (zve _ es) (λA' hA=>z9d (t:=t) hA hb ne) ⟨⟨0,Qq _ rfl⟩,T.keep λo e=>Qb _ e⟩ (λb o e=>Qb _ e) fpo (fpl _) (Qt _) (by simp)
   | false =>
     have hz:es.size<=1:=by rw[hb] at hd;simpa using hd
     exact k _ _ s.drawn es.toList [s.heap.objs.size,S] _ (.refl _) (λA' hA=>yau (t:=t) (ep:=ep) hA hb hz ne) ⟨⟨0,λ_=>rfl,λz=>absurd z (by decide),Qq _ rfl⟩,T.keep λo e=>Qb _ e⟩ (λb o e=>Qb _ e) fpo (fpl _) (Qt _) (by simp)
end
end SX
namespace SX
open PySem PySem.Spec PyProof.Rows
section
variable {P : Program} {w : World} {A : Around} {E : Value → Shared → Prop} {s : Shared} {it S : Addr} {es : Es} {ep : Nat} {t : SetTable}
abbrev lO(xs:Array Value)(c:Nat):Obj:={ cls := .type "list", dict:=none,data := .seq xs c,slots:=#[] }
theorem zyh:isSubtype (.type "set") (.type "set")=pure true:=by
 rw[isSubtype_type]
 kernel_rfl
theorem zt3{a:Addr}{xs:Array Value}{c:Nat}(f:Array Value->Array Value){Q:Unit->Shared->Prop}(ho:s.heap.get? a=some (lO xs c))(hz:xs.size<=sizeLine)(hz2:(f xs).size<=sizeLine+1)
 (h:∀ h' c',h'.get? a=some (lO (f xs) c')->ZZ a s.heap h'->Q () { s with heap:=h' }):wpAny (model P w) A (Builtin.List.listUpdate (.ref a) f) Q E s :=
 listUpdate_at ho rfl (h _ _ (QT (ZM f) ho rfl) (.update ..)) hz hz2
theorem zp3{Q:List Value->Shared->Prop}(hh:A.handled=none)(T:Sx w s.heap S es ep t)
 (k:∀ (h':Heap) (d':Drawn) (tk:Nat) (vs:List Value),Ext s.heap h'->vs.Perm (es.toList.map (·.2))->s.heap.objs.size<h'.objs.size->Q vs { s with heap:=h',drawn:=d',toks:=tk }):wpAny (model P w) A (collect (.ref S)) Q E s:=by
 have hlt:=T.lts
 unfold collect
 refine wpAny_bind (wpAny_runValue (codeAny_builtin F.entry_proto_collect ?_))
 rw[ZU F.plain_proto_collect _]
 refine wpAny_bind (m:=newList []) (wpAny_newObj_type ?_)
 refine wpAny_pure ⟨plainId_quiet qK _,codeAny_builtin F.entry_list_iadd ?_⟩
 rw[ZU qK _]
 have T1:Sx w (s.heap.push (lO #[] 0)) S es ep t:=T.keep λo e=>Qb _ e
 have eL:(s.heap.push (lO #[] 0)).get? s.heap.objs.size=some (lO #[] 0):=Qq _ rfl
 have sz1:(s.heap.push (lO #[] 0)).objs.size=s.heap.objs.size+1:=Z2 ..
 show wpAny _ A.in1 (YT (.ref s.heap.objs.size) (.ref S) (.ref s.heap.objs.size)) _ _ { s with heap:=s.heap.push (lO #[] 0) }
 unfold YT
 refine wpAny_bind (wpAny_typeOf (T1.typ (s:={ s with heap:=s.heap.push (lO #[] 0) })) ?_)
 have nsr:Yh (.ref s.heap.objs.size) (.ref S)=false:=by
  show(s.heap.objs.size == S)=false
  exact beq_eq_false_iff_ne.mpr (Zx hlt)
 rw[nsr]
 refine wp_f (by decide) ?_
 refine wpAny_bind (zx1 (s:={ s with heap:=s.heap.push (lO #[] 0) }) T1 λit h2 d2 ord fp St hp W st ex fpo fpl hit hmem=>?_)
 have T2:Sx w h2 S es ep t:=T1.keep λo e=>ex _ o e
 have tS:qm { s with heap:=h2,drawn:=d2 } (.ref S) "set" := T2.typ (s:={ s with heap:=h2,drawn:=d2 })
 refine wpAny_bind (wpAny_holding ?_)
 unfold JM
 refine wpAny_bind (wpAny_specialOf tS F.slot_set_len.lookup ?_)
 generalize hid:("set.__len__" : String)=id0
 (fail_if_success (clear hid id0))
 wp_delta
 rw[show splitId id0=some ("set", "__len__") from by subst hid;decide +kernel]
 subst hid
 refine wpAny_bind (wpAny_isInstance (b:=true) tS zyh ?_)
 refine wp_f (by decide) ?_
 refine wp_t (by decide +kernel) ?_
 refine wpAny_bind (wpAny_typeOf tS ?_)
 refine wpAny_pure ?_
 refine wp_t (by decide +kernel) ?_
 refine wpAny_bind (wpAny_rule ?_)
 refine wpAny_bind ?_
 unfold Builtin.List.listTouch
 have h64:(0:Nat)<=sizeLine:=QO _
 have eL2:h2.get? s.heap.objs.size=some (lO #[] 0):=ex _ _ eL
 refine wpAny_bind (zt3 (s:={ s with heap:=h2,drawn:=d2 }) (·.push Zh) eL2 h64 (by simp) λh3 c3 e3 b3=>?_)
 refine zt3 (s:={ s with heap:=h3,drawn:=d2 }) (·.pop) e3 (by rw[sizeLine_eq];decide) (by simp) λh4 c4 e4 b4=>?_
 have nLf:s.heap.objs.size ∉ fp:=λz=>by
  have:=fpo _ z (by rw[sz1];exact ZK _)
  exact Zx hlt this
 have st4:St 0 h4:=(W A hh).frame 0 h2 h4 st λb hb o e=>by
  have nb:b ≠ s.heap.objs.size:=λz=>nLf (z ▸ hb)
  exact(b4.2 b nb).trans ((b3.2 b nb).trans e)
 have hn:ord.length<=sizeLine:=by
  rw[hp.length_eq,Ja]
  exact fits_of_scanBound T.lt
 refine wpAny_pure ⟨plainId_quiet Yb _,codeAny_extend_loopS (W A.in1 (by simpa using hh)).toS hn _ nLf _ ord.length 0 { s with heap:=h4,drawn:=d2 } #[] c4 rfl (QO _) st4 e4 (ItemsOf.nil _) λs' acc c mv eA hacc=>?_⟩
 refine wpAny_bind (wpAny_load eA (wpAny_pure ?_))
 obtain⟨h5,g5,d5,tk5,os5⟩:=s'
 obtain rfl:g5=s.gens:=mv.gens
 obtain rfl:d5=d2:=mv.drawn
 obtain rfl:os5=s.os:=mv.os
 have ev:acc.toList=ord.map (·.2):=by
  refine Y1 λi=>?_
  rw[Y6]
  by_cases hi:i<acc.size
  ·rw[Zq hi]
   obtain⟨e,h1,h2⟩:=hacc.2 i _ (Zq hi)
   rw[Q4,h1,h2]
   rfl
  ·rw[Jk (by omega),Q4,QZ (by have:=hacc.1;omega)]
   rfl
 refine k h5 d5 tk5 acc.toList (λb o e=>mv.heap b o (λz=>?_) ?_) (by rw[ev];exact hp.map _) (Qn eA)
 ·have hbl:=Qn e
  rcases Ql.mp z with z|z
  ·exact Q9 hbl z
  ·rw[Qu.mp z] at hbl
   have:s.heap.objs.size+1<=it:=by rw[<- sz1];exact hit
   exact absurd hbl (ZN.mpr (Nat.le_of_succ_le this))
 ·have nb:b ≠ s.heap.objs.size:=Q9 (Qn e)
  exact(b4.2 b nb).trans ((b3.2 b nb).trans (ex b o (Qb _ e)))
end
end SX
namespace SX
open PySem PySem.Spec PyProof.Rows
section
variable {P : Program} {w : World} {A : Around} {E : Value → Shared → Prop} {s : Shared} {it S : Addr} {es : Es} {ep : Nat} {t : SetTable}
theorem zqr:∀ {vs:List Value},(∀ v ∈ vs,∃ x t,v = .str x t)->StrsAre vs (vs.map strOf)
 | [],_ => .nil
 | v::vs,h=>by
   obtain⟨x,t,rfl⟩:=h v (by simp)
   exact .cons x t (zqr λu z=>h u (Qj _ z))
theorem zj9{Q:Value->Shared->Prop}(hh:A.handled=none)(T:Tx P w s.heap S es ep t)(h64:es.size<64)
 (k:∀ (h':Heap) (d':Drawn) (tk:Nat) (out:Array Value) (c:Nat) (zs:List Str) (l:Addr),Ext s.heap h'->s.heap.objs.size<=l->h'.get? l=some (seqObj "list" out c)->StrsAre out.toList zs->zs.Perm (keys es)->sortedS zs=true->Q (.ref l) { s with heap:=h',drawn:=d',toks:=tk }) :
 wpAny (model P w) A (call (.builtin "sorted") [.ref S]) Q E s:=by
 refine Calls.call_function_entry kind_sorted plain_sorted entry_sorted (args_sorted1 _) ?_
 unfold Builtin.«sorted»
 refine wpAny_bind (m:=checkCount "sorted" 1 1 _) (wpAny_pure ?_)
 refine wpAny_bind (zp3 (by simpa using hh) T.toSx λh' d' tk vs ex hp hl=>?_)
 have v64:vs.length<64:=by rw[hp.length_eq];simpa using h64
 refine wpAny_bind (wpAny_newList ?_ (by rw[sizeLine_eq];omega))
 have hS:StrsAre vs (vs.map strOf):=zqr λv z=>by
  obtain⟨e,he,rfl⟩:=Qz.mp (hp.mem_iff.mp z)
  obtain⟨⟨x,hx,_⟩,_⟩:=T.el e he
  obtain⟨u,hu⟩:=YQ hx
  exact⟨x,u,hu⟩
 have eL:(h'.push (seqObj "list" vs.toArray 0)).get? h'.objs.size=some (seqObj "list" vs.toArray 0):=Qq _ rfl
 refine wpAny_bind (wpAny_holding (wpAny_call_entry slot_list_sort ⟨_,eL,rfl⟩ entry_list_sort (list_sort_treeK (s:={ s with heap:=h'.push (seqObj "list" vs.toArray 0),drawn:=d',toks:=tk }) strKind_oneLt eL hS.keysOf (λv₁ v₂ rest e=>keyKind_strs (by rw[<- e];exact hS)) v64 λst' a1 a2=>⟨_,rfl,?_⟩) (args_list_sort _)))
 obtain⟨zs,z1,z2,z3⟩:=sorted_out_str hS a1 a2
 obtain⟨c,ec⟩:=sortedHeap_at (out:=(arrOf st').map (·.2)) eL
 refine wpAny_pure ⟨_,rfl,k _ d' tk _ c zs h'.objs.size (λb o e=>?_) (Jj hl) ec z1 ?_ z3⟩
 ·have eb:=ex b o e
  have nb:b ≠ h'.objs.size:=Q9 (Qn eb)
  show(sortedHeap (h'.push (seqObj "list" vs.toArray 0)) h'.objs.size vs _).get? b=_
  rw[sortedHeap_old nb (by rw[size_push'];exact QY (Qn eb))]
  exact Qb _ eb
 ·refine z2.trans ?_
  have:=hp.map strOf
  rw[Q5] at this
  exact this
end
end SX
namespace L3
open PySem PySem.Spec
open PyProof.Rows hiding St
open L2
open SX
theorem Inv.draw{X:Cx}{pins:List (Addr × Obj)}{σ:List (Option V)}{H:Hp}{s:Shared}(I:Inv X pins σ H s)(d:Drawn):Inv X pins σ H { s with drawn:=d } :=
 ⟨I.ok,I.os,I.bare,I.base,I.loc,I.cell,I.free,I.freeC,I.pin,I.hok,I.len⟩
def TxsV(K:Qa)(H:Hp)(v:V)(ys:List Str):Prop:=(∃ x:Str,v = .str x/\ys=x.cps.toList.map sg)\/∃ a,v = .ref a/\SqL K H a (ys.map V.str)
def tSS(K:Qa)(te:TE):TE:=λσ H Q=>te σ H λv H1=>∃ ys:List Str,TxsV K H1 v ys/\ys.length<64/\∀ (zs:List Str) p,zs.Nodup->(∀ k,k ∈ zs↔k ∈ ys)->sortedS zs=true->H1 p=none->Q (.ref p) (upd H1 p (.lst (zs.map V.str)))
theorem zwo{P:Program}{w:World}{h:Heap}(x:Str)(tk:Tok):Src P w h (.str x tk) x.cps.size (SignAt x):=λA E s₁ Q hh ex k=>by
 refine wpAny_pyIter_str λo St W st=>?_
 refine k _ _ [s₁.heap.objs.size] St W st (λb o e=>Qb _ e) (λb hb => .inr (by simp at hb;exact Yu hb.symm)) (Qt _)
theorem zuv{P:Program}{w:World}{h:Heap}{l:Addr}{items:Array Value}(hl:h.IsList l items):Src P w h (.ref l) items.size (λi v=>items[i]? = some v):=λA E s₁ Q hh ex k=>by
 have hl1:s₁.heap.IsList l items:=hl.at λo e=>ex l o e
 have lt:l<h.objs.size:=by obtain⟨o,e,_⟩:=hl;exact Qn e
 have lt1:l<s₁.heap.objs.size:=by obtain⟨o,e,_⟩:=hl1;exact Qn e
 refine wpAny_pyIter_list hl1 ?_
 refine k s₁.heap.objs.size _ [s₁.heap.objs.size,l] _ (λA' hA=>qw hA _ l (Q9 lt1) items) ⟨⟨_,Qq _ rfl,rfl,rfl⟩,hl1.push _⟩ (λb o e=>Qb _ e) (λb hb=>?_) (Qt _)
 simp at hb
 rcases hb with rfl|rfl
 ·exact .inr (Qt _)
 ·exact .inl lt
theorem zmg{xs ys:List Str}(h:xs.Nodup)(hs:∀ k ∈ xs,k ∈ ys):xs.length<=ys.length:=by
 induction xs generalizing ys with
 | nil=>exact QO _
 | cons x xs ih =>
   have hx:x ∈ ys:=hs x (by simp)
   have h':=Zr.mp h
   have:=ih (ys:=ys.erase x) h'.2 λk hk=>(jY (λz:k=x=>h'.1 (z ▸ hk))).mpr (hs k (Qj _ hk))
   rw[j4 hx] at this
   have:0<ys.length:=jJ hx
   simp only[Qy]
   omega
theorem zsl{X:Cx}{e:Expr}{te:TE}{p1 p2 p3 p4:Pos}(hc:X.calm=true)(gl:Gl X "sorted")(ml:X.mg "sorted" = none)(gr:Gl X "set")(mr:X.mg "set" = none)(he:PE X e te)
 (s1:starEach [.Call (.Name "set" p2) [e] [] p3] X.env=(false,eval (.Call (.Name "set" p2) [e] [] p3) X.env)::starEach [] X.env:=by rfl) (s2:starEach [e] X.env=(false,eval e X.env)::starEach [] X.env:=by rfl) :
 PE X (.Call (.Name "sorted" p1) [.Call (.Name "set" p2) [e] [] p3] [] p4) (tSS X.K te):=by
 intro pins s σ H Q I h
 have calm:=I.ok.hd hc
 refine wpAny_Call_Name_kw (zcf I gl ml zmi ?_)
 refine Z0 ?_ s1
 rw[s1]
 show wpAny _ _ (spliced ((false,eval (.Call (.Name "set" p2) [e] [] p3) X.env) :: [])) _ _ s
 refine Zi ?_
 refine wpAny_Call_Name_kw (zcf I gr mr (u := .type "set") rfl ?_)
 refine Zt ?_ s2
 rw[s2]
 show wpAny _ _ (spliced ((false,eval e X.env) :: [])) _ _ s
 refine Zi (thn (he pins s σ H _ I h) λu s' ⟨y,H1,I1,r1,ys,hy,hz,q⟩=>?_)
 refine ZA ?_
 have fin:∀ (n:Nat) (val:Nat->Str) (h':Heap) (tk:Nat) (es:Es) (ep:Nat) (t:SetTable),(∀ k,(∃ j,j<n/\val j=k)↔k ∈ ys)->Tx X.prog X.w h' s'.heap.objs.size es ep t->(∀ x,x ∈ keys es↔∃ j,j<n/\val j=x)->Ext s'.heap h' ->
  wpAny (model X.prog X.w) X.A (spliced []) (λa s₁=>wpAny (model X.prog X.w) X.A (call (.builtin "sorted") (QC s'.heap.objs.size::a)) (EP X pins σ Q) X.xe s₁) X.xe { s' with heap:=h',toks:=tk }:=λn val h' tk es ep t hv T hk ex=>by
  have mem:∀ k,k ∈ keys es↔k ∈ ys:=λk=>(hk k).trans (hv k)
  have z64:es.size<64:=by
   have:=zmg T.nd (λk hk=>(mem k).mp hk)
   simp[keys] at this
   omega
  refine ZA ?_
  refine zj9 (s:={ s' with heap:=h',toks:=tk }) calm T z64 λh2 d2 tk2 out c zs l ex2 hl el st zp zs'=>?_
  have lt':s'.heap.objs.size<=l:=Q2 (Jj (T.lts (s:={ s' with heap:=h',toks:=tk }))) hl
  have I2:=(Inv.draw (I1.laid (a:=l) (o := .lst (zs.map V.str)) (t':=tk2) (h':=h2) (λb o e=>ex2 b o (ex b o e)) lt' ?_) d2)
  ·exact⟨.ref l,_,I2,rfl,q zs l (zp.nodup_iff.mpr T.nd) (λk=>by rw[zp.mem_iff];exact mem k) zs' (I1.hok.fresh lt')⟩
  ·refine⟨?_,out.toList,c,zf6 st,by simpa using el⟩
   rw[Qe,zp.length_eq]
   simp only[keys,Qe,Ja]
   exact fits_of_scanBound T.lt
 rcases hy with ⟨x,rfl,rfl⟩|⟨a,rfl,hq⟩
 ·obtain⟨tk,rfl⟩:=r1
  have hn:x.cps.size<64:=by simpa using hz
  refine zgn (T := "str") (val:=λi=>sg (x.cps.getD i 0)) calm (λ_ _=>rfl) ?_ ?_ (by decide) (zwo x tk) (λi v hv=>?_) (by unfold scanBound;omega) λh' tk' es ep t T hk ex=>fin x.cps.size _ h' tk' es ep t (λk=>?_) T hk ex
  ·rw[isSubtype_type];kernel_rfl
  ·rw[isSubtype_type];kernel_rfl
  ·obtain⟨c,u,hc,rfl⟩:=hv
   exact⟨u,by rw[JL,hc];rfl⟩
  ·constructor
   ·rintro⟨j,hj,rfl⟩
    exact Qz.mpr ⟨x.cps[j],by simp,by simp[hj]⟩
   ·intro hk
    obtain⟨c,hc,rfl⟩:=Qz.mp hk
    obtain⟨j,hj,e⟩:=Ye hc
    have hj':j<x.cps.size:=by simpa using hj
    exact⟨j,hj',by simp at e;simp[hj',e]⟩
 ·cases r1
  obtain⟨its,rv,pl,hz2⟩:=I1.list hq
  have sa:=zhp rv
  have ln:its.length=ys.length:=by have:=rv.length;simp at this;exact this.symm
  refine zgn (T := "list") (val:=λi=>ys.getD i (sg 0)) calm (λs₁ ex=>?_) F.sub_list_set jZ (by decide) (zuv pl.isList) (λi v hv=>?_) (by unfold scanBound;simp;omega) λh' tk' es ep t T hk ex=>fin _ _ h' tk' es ep t (λk=>?_) T hk ex
  ·obtain⟨o,e,c,_⟩:=pl.isList
   exact⟨o,ex _ o e,c⟩
  ·have hv':its[i]? = some v:=by simpa using hv
   have hi:i<ys.length:=by
    obtain⟨z,_⟩:=QE.mp hv'
    omega
   obtain⟨u,hu,ru⟩:=rv.get (i:=i) (x:=V.str ys[i]) (by rw[Q4,Qk hi];rfl)
   rw[hv'] at hu
   cases hu
   obtain⟨u,rfl⟩:=ru
   exact⟨u,by rw[Q6,Qk hi];rfl⟩
  ·have e:its.toArray.size=ys.length:=by simpa using ln
   rw[e]
   constructor
   ·rintro⟨j,hj,rfl⟩
    rw[Q6,Qk hj]
    exact QQ hj
   ·intro hk
    obtain⟨j,hj,e⟩:=Ye hk
    exact⟨j,hj,by rw[Q6,Qk hj];exact e⟩
def TxsD(d:PyData)(ys:List Str):Prop:=(∃ x:Str,d = .str x/\ys=x.cps.toList.map sg)\/d = .list (ys.map .str)
def ssD(f:DE):DE:=λρ Q=>f ρ λr=>∃ ys:List Str,TxsD r.d ys/\ys.length<64/\∀ zs:List Str,zs.Nodup->(∀ k,k ∈ zs↔k ∈ ys)->sortedS zs=true->Q (.n (zs.map .str))
theorem ybg{K:Qa}{O:Ob}{te:TE}{f:DE}(h:ED K O te f):ED K O (tSS K te) (ssD f):=λσ H ρ Q Qd S hf k=>by
 refine h σ H ρ _ _ S hf λv H1 r s1 o1 ⟨ys,hy,hl,q⟩=>?_
 have i:=o1.is S.ok S.p
 have ok:=S.ok
 have p1:=s1.p S.p
 refine⟨ys,?_,hl,λzs p h1 h2 h3 hn=>?_⟩
 ·rcases hy with ⟨x,e,rfl⟩|e
  ·rw[e] at i
   cases i
   exact .inl ⟨x,rfl,rfl⟩
  ·rw[e] at i
   cases i with
   | list f1 a1 b1 =>
     rw[zdu b1] at a1
     exact .inr ⟨_,rfl,.of a1⟩
 ·obtain⟨a1,a2⟩:=zdn (K:=K) ok hn (zfo zs)
  exact k _ _ _ (s1.trans a1) (a2.ahead ok S.p s1) (q zs h1 h2 h3)
theorem zuo{ι κ:Type}{P:Program}{w:World}{K:Qa}{mg:Str->Option Value}{base:Heap}{k:Nat}{X:ι->Cx}{O:κ->Ob}{a:Expr}{fa:DE}{p1 p2 p3 p4:Pos}(C:Ctx3 P w K mg base k X)(B:Blt mg)(ha:E3 K X O a fa)(g1:∀ i,Gl (X i) "sorted" := by intro i;rfl)(g2:∀ i,Gl (X i) "set" := by intro i;rfl)
 (s1:∀ i,starEach [.Call (.Name "set" p2) [a] [] p3] (X i).env=(false,eval (.Call (.Name "set" p2) [a] [] p3) (X i).env)::starEach [] (X i).env:=by intro i;rfl) (s2:∀ i,starEach [a] (X i).env=(false,eval a (X i).env)::starEach [] (X i).env:=by intro i;rfl) :
 E3 K X O (.Call (.Name "sorted" p1) [.Call (.Name "set" p2) [a] [] p3] [] p4) (ssD fa) :=
 let ⟨_,q,d⟩:=ha
 ⟨tSS K _,λi=>by
  have h:=zsl (X:=X i) (p1:=p1) (p2:=p2) (p3:=p3) (p4:=p4) (C.calm i) (g1 i) (by rw[C.hmg];exact B.sorted) (g2 i) (by rw[C.hmg];exact B.set) (q i) (s1 i) (s2 i)
  rw[C.hK] at h
  exact h,λj=>ybg (d j)⟩
def parS(i j:Nat)(g:DA):DS:=λDd ρ=>g ρ λds=>∃ d e,ds = [d,e]/\flat d=true/\flat e=true/\Dd.nx ((ρ.set i (some (.im d))).set j (some (.im e)))
theorem z6l{K:Qa}{O:Ob}{i j:Nat}{ta:TA}{g:DA}(h:AD K O ta g):SD K O (tPar i j ta) (parS i j g):=λH₀ A σ H ρ D Dd r q P=>by
 refine h σ H ρ _ _ r.seen q λvs H1 ds s1 is ⟨d,e,ed,f1,f2,q1⟩=>?_
 subst ed
 cases is with
 | cons i0 is =>
   cases is with
   | cons i1 is =>
     cases is
     refine⟨_,_,rfl,?_⟩
     have r1:=(r.stp s1).setIm (i:=i) (Is.flat (TupStay.refl H1) i0 f1)
     have r2:=r1.setIm (i:=j) (Is.flat (TupStay.refl H1) i1 f2)
     exact P.nx _ _ H1 _ r2 ((Frm.setIm (i:=i) s1).trans (Frm.setIm (i:=j) (.refl _ _))) q1
theorem ybn{ι κ:Type}{P:Program}{w:World}{K:Qa}{mg:Str->Option Value}{base:Heap}{k:Nat}{X:ι->Cx}{O:κ->Ob}{a b:Expr}{ga:DA}{pos px py pt pt2:Pos}{kt k2:Nat}(n m:Nat){x y:Str}(C:Ctx3 P w K mg base k X)(ha:A3 K X O [a,b] ga)(hnm:n ≠ m:=by decide)
 (hN:∀ i,(X i).N.Nodup:=by intro i;exact of_decide_eq_true (by kernel_rfl)) (hi:∀ i,(X i).N[n]? = some x:=by intro i;rfl) (hj:∀ i,(X i).N[m]? = some y:=by intro i;rfl) (hx:∀ i,(X i).env.scope.names.lookup x=some .local:=by intro i;rfl) (hy:∀ i,(X i).env.scope.names.lookup y=some .local:=by intro i;rfl)
 (hw:∀ i,swappedStores [.Tuple [.Name x px,.Name y py] kt pt] (.Tuple [a,b] k2 pt2) (X i).env=pure (some [x,y]):=by intro i;rfl) (hs:∀ i,swapsWithSole [.Tuple [.Name x px,.Name y py] kt pt] (.Tuple [a,b] k2 pt2) pos.line (X i).env=pure false:=by intro i;rfl) :
 S3 K X O (.Assign [.Tuple [.Name x px,.Name y py] kt pt] (.Tuple [a,b] k2 pt2) pos) (parS n m ga) :=
 let ⟨_,p,d⟩:=ha
 ⟨_,λi=>z8d (C.calm i) (hN i) (hi i) (hj i) hnm (hx i) (hy i) (p i) (hw i) (hs i),λj=>z6l (d j)⟩
end L3
namespace L3
open PySem PySem.Spec PySem.Calls
open PyProof.Rows hiding St
open L2
structure XGet (K:Qa) (C:Addr):Prop where
 ga:QS K (.ref C) "__getattribute__" = some (some (.builtin "BaseException.__getattribute__"))
 gn:QS K (.ref C) "__getattr__" = some none
 base:Zk K C (.type "BaseException")=some true
 obj:Zk K C (.type "object")=some true
 dict:jl K C=true
 cls:QS K (.ref C) "__class__" = some (some (.builtin "object.__class__"))
 cget:jm K (.builtin "object.__class__") "__get__" = some (some (.builtin "getset_descriptor.__get__"))
 ctk:jN K (.builtin "object.__class__")=some true
section
variable {prog : Program} {w : World} {A : Around} {E : Value → Shared → Prop} {K : Qa} {C x : Addr} {s : Shared} {f : Str} {v : Value} {ox od : Obj} {Q : Value → Shared → Prop} {fill expr : Bool} {tk : Tok}
theorem zrc(X:K.In s.heap)(c:XGet K C)(I:JN s.heap x ox C (some od))
 (h:wpAny (model prog w) A.in1 (Builtin.«object.__getattribute__» ⟨[.ref x,.str f tk],[]⟩) (λfin s'=>match fin with | .done (.ret v)=>wpAny (model prog w) A (handedOut v) Q E s'|_=>False) (λ_ _=>False) s) :
 wpAny (model prog w) A (getAttrBy (.ref x) (.str f tk) fill expr) Q E s:=by
 have FB:=PySem.F.attr_ValueError
 have b0:=FB.ga.bind (.ref x)
 have L0:=I.type (M:=model prog w)
 have L1:=Jv (M:=model prog w) X c.ga
 have L2:=Jv (M:=model prog w) X c.gn
 have sb:ZW (model prog w) s.heap (isInstance (.ref x) (.type "BaseException")) true:=L0.andThen (Yc X c.base)
 unfold getAttrBy
 refine wpAny_holding (wpAny_bind (L0.here (wpAny_bind (L1.here ?_))))
 dsimp only
 rw[if_neg (by rw[Qp];rintro⟨_,z⟩;revert z;decide +kernel)]
 unfold getAttrByItsOwn hookBefore
 rw[if_pos (show onTheHeap (QC C)=true from rfl)]
 refine wpAny_bind (L2.here (wpAny_bind (wpAny_attempt (wpAny_holding ?_))))
 unfold callGetattribute
 rw[if_neg (by cases expr <;> decide)]
 unfold boundAndCalled
 rw[b0]
 refine wpAny_bind (wpAny_pure ?_)
 refine wpAny_call (codeAny_call_builtin FB.ga.plain PySem.F.entry_bexc_ga (@qu (model prog w) _ _ s "BaseException.__getattribute__" "BaseException" "__getattribute__" (.ref x) [.str f tk] [] _ (by decide +kernel) (by decide +kernel) sb (PySem.F.args_bexc_ga (.ref x) (.str f tk)) (wpAny_mono h (λfin s' z=>?_) λ_ _ z=>z.elim)))
 rcases fin with (_|_|_|u)|c'
 ·exact z.elim
 ·exact z.elim
 ·exact z.elim
 ·exact z
 ·exact z.elim
theorem ybo(X:K.In s.heap)(c:XGet K C)(I:JN s.heap x ox C (some od))(no:QS K (.ref C) f=some none)(hl:Ys f od=some (some v))(hv:qU v=true)(h:Q v { s with toks:=s.toks+1 }) :
 wpAny (model prog w) A (getAttr (.ref x) f expr) Q E s:=by
 unfold getAttr
 refine wpAny_bind (wpAny_mkText (zrc (s:={ s with toks:=s.toks+1 }) X c I ?_))
 have hf:=PySem.W.findObj_own c.dict no rfl hl
 have L0:=I.type (M:=model prog w)
 have L1:=qy (M:=model prog w) X I hf
 unfold Builtin.«object.__getattribute__»
 refine wpAny_bind (wpAny_pure (wpAny_bind (wpAny_pure (wpAny_bind (ZT (s:={ s with toks:=s.toks+1 }) L0 (wpAny_bind (ZT (s:={ s with toks:=s.toks+1 }) L1 ?_)))))))
 refine wpAny_pure ?_
 show wpAny _ _ (handedOut v) _ _ _
 rw[PySem.W.handedOut_of hv]
 exact wpAny_pure h
theorem z5k{Q:Option Value->Shared->Prop}(X:K.In s.heap)(c:XGet K C)(I:JN s.heap x ox C (some od))(h:Q (some (.ref C)) { s with toks:=s.toks+1 }):wpAny (model prog w) A (getAttr? (.ref x) "__class__") Q E s:=by
 unfold getAttr? getAttrBy?
 refine wpAny_bind (wpAny_mkText (wpAny_bind (wpAny_attempt (zrc (s:={ s with toks:=s.toks+1 }) X c I ?_))))
 have hf:PySem.W.findObj K C (some od) "__class__" = some (.bind (.builtin "getset_descriptor.__get__") (.builtin "object.__class__")):=PySem.W.findObj_data (by obtain⟨cd,hc,_⟩:=qV c.dict;rw[hc];rfl) c.cls c.cget c.ctk
 have L0:=I.type (M:=model prog w)
 have L1:=qy (M:=model prog w) X I hf
 unfold Builtin.«object.__getattribute__»
 refine wpAny_bind (wpAny_pure (wpAny_bind (wpAny_pure (wpAny_bind (ZT (s:={ s with toks:=s.toks+1 }) L0 (wpAny_bind (ZT (s:={ s with toks:=s.toks+1 }) L1 ?_)))))))
 show wpAny _ _ (ji _ _ _ _) _ _ _
 unfold ji
 refine wpAny_bind (wpAny_holding (wpAny_call (PySem.W.class_get (s:={ s with toks:=s.toks+1 }) X I c.obj ?_)))
 refine wpAny_pure ?_
 show wpAny _ _ (handedOut (.ref C)) _ _ _
 exact wpAny_pure (wpAny_pure h)
end
theorem zwn{K:Qa}{x C:Addr}{ox od:Obj}(c:XGet K C):PySem.W.KitX K (.ref x) (.ref C) (λh=>JN h x ox C (some od)):=by
 obtain⟨cd,hc,_⟩:=qV c.dict
 have hl:∃ oc dd sl,K.lookup C=some ⟨oc,dd,.cls cd,sl⟩:=by
  unfold YC at hc
  split at hc
  ·rename_i oc dd cd' sl ho
   cases hc
   exact⟨oc,dd,sl,ho⟩
  ·cases hc
 obtain⟨oc,dd,sl,hl⟩:=hl
 refine⟨λ_ _ _ I=>I.type,λM h X _=>?_,λh tp dd' its n sl' X htp=>?_,λX I k=>z5k X c I k⟩
 ·intro A1 Q1 E1 s1 k1 z1
  exact wpAny_bind (wpAny_loadPart (k1 _ _ (X _ _ hl)) (wpAny_pure z1))
 ·refine Jw.mpr λq=>?_
  have e:C=tp:=z0 (beq_iff_eq.mp q)
  rw[<- e,X _ _ hl] at htp
  cases htp
section
variable {X : Cx} {pins : List (Addr × Obj)} {σ : St} {H : Hp} {s : Shared}
theorem ztf{a C dx:Addr}{fs:List (Str × V)}(I:Inv X pins σ H s)(ha:H a=some (XR a C dx))(hd:H dx=some (.xd fs)) :
 ∃ ox od,JN s.heap a ox C (some od)/\∀ f,∃ u,Ys f od=some u/\RelO (fs.lookup f) u:=by
 obtain⟨o,vs,g,c,d,t⟩:=(I.hok a _ ha).1
 obtain⟨mA,m,rl⟩:=I.hok dx _ hd
 obtain⟨od,ho,hl⟩:=zmf m
 refine⟨o,od,⟨g,c,by unfold PySem.W.notCls;rw[t],by rw[d];exact ho⟩,λf=>⟨_,hl f,rl f⟩⟩
def zwr:V->Prop
 | .int _=>True
 | .str _=>True
 | _=>False
def z0k(K:Qa)(f:Str)(te:TE):TE:=λσ H Q=>te σ H λv H1=>∃ a C dx fs y,v = .ref a/\H1 a=some (XR a C dx)/\H1 dx=some (.xd fs)/\XGet K C/\QS K (.ref C) f=some none/\fs.lookup f=some y/\zwr y/\Q y H1
theorem z4a{e:Expr}{f:Str}{pos:Pos}{te:TE}(he:PE X e te)(hb:attributeBase e f X.env (eval e X.env)=eval e X.env):PE X (.Attribute e f pos) (z0k X.K f te):=by
 intro pins s σ H Q I h
 refine z5f hb (thn (he pins s σ H _ I h) λu s1 ⟨v,H1,I1,rv,a,C,dx,fs,y,ev,ha,hd,c,no,hl,py,q⟩=>?_)
 subst ev
 obtain rfl:u=QC a:=rv
 obtain⟨ox,od,J,lk⟩:=ztf I1 ha hd
 obtain⟨u,l1,l2⟩:=lk f
 rw[hl] at l2
 cases u with
 | none=>exact l2.elim
 | some u =>
   have hv:qU u=true:=by
    cases y with
    | int i=>obtain⟨t,rfl⟩:=(show ∃ t,u=j7 i t from l2);rfl
    | str x=>obtain⟨t,rfl⟩:=(show ∃ t,u=JS x t from l2);rfl
    | _=>exact py.elim
   exact ybo I1.kIn c J no l1 hv ⟨y,H1,I1.tok _,l2,q⟩
def Ldc(X:Cx)(x:Str)(cv:Value):Prop:=∀ (E:Value->Shared->Prop) (pins:List (Addr × Obj)) (s:Shared) (σ:St) (H:Hp) (pos:Pos) (Q:Value->Shared->Prop),Inv X pins σ H s->Q cv s->wpAny (model X.prog X.w) X.A (eval (.Name x pos) X.env) Q E s
theorem z4u{x:Str}{cv:Value}(hg:Gl X x)(hm:X.mg x=some cv)(hd:(x == ("__debug__" : Str))=false:=by decide):Ldc X x cv:=λE pins s σ H pos Q I q=>zdg I hg hm q hd
theorem z4r{x:Str}{cv:Value}(hg:Gl X x)(hm:X.mg x=none)(hv:bootBuiltins x=some cv)(hn:x ≠ "__name__" := by decide)(hd:(x == ("__debug__" : Str))=false:=by decide):Ldc X x cv:=λE pins s σ H pos Q I q=>zcf I hg hm hv q hn hd
def tIsX(K:Qa)(cv:Value)(te:TE):TE:=λσ H Q=>te σ H λv H1=>∃ a C dx fs b,v = .ref a/\H1 a=some (XR a C dx)/\H1 dx=some (.xd fs)/\XGet K C/\Zm K (.ref C) cv=some b/\Q (.bl b) H1
theorem zvz{e:Expr}{te:TE}{x:Str}{cv:Value}{p1 p2 p3:Pos}(gi:Gl X "isinstance")(mi:X.mg "isinstance" = none)(l:Ldc X x cv)(he:PE X e te)
 (s1:starEach [e,.Name x p2] X.env=(false,eval e X.env)::(false,eval (.Name x p2) X.env)::starEach [] X.env:=by rfl) (s2:starEach [e,.Name x p2] X.env=(false,eval e X.env)::starEach [.Name x p2] X.env:=by rfl) (s3:(backTo p3 (starEach [.Name x p2] X.env)).any (·.1)=false:=by rfl) :
 PE X (.Call (.Name "isinstance" p1) [e,.Name x p2] [] p3) (tIsX X.K cv te):=by
 intro pins s σ H Q I h
 refine wpAny_Call_Name_kw (zcf I gi mi (u := .builtin "isinstance") (by decide +kernel) ?_)
 refine Z0 ?_ s2 s3
 rw[s1]
 show wpAny _ _ (spliced ((false,eval e X.env)::(false,eval (.Name x p2) X.env) :: [])) _ _ s
 refine Zi (thn (he pins s σ H _ I h) λu s' ⟨y,H1,I1,r1,a,C,dx,fs,b,ev,ha,hd,c,ek,q⟩=>?_)
 subst ev
 obtain rfl:u=QC a:=r1
 refine Zi (l _ _ _ _ _ _ _ I1 (ZA ?_))
 obtain⟨ox,od,J,lk⟩:=ztf I1 ha hd
 exact Zz (zwn c) I1.kIn J ek (λz=>nomatch z) λtk=>⟨.bl b,H1,I1.tok _,rfl,q⟩
def z0z(K:Qa)(te tt:TE):TE:=λσ H Q=>te σ H λv H1=>tt σ H1 λv2 H2=>∃ (a C dx:Addr) (fs:List (Str × V)) (b:Bool) (p:Addr) (cs:List Addr),v = .ref a/\v2 = .ref p/\SqT K H2 p (cs.map V.ref)/\H2 a=some (XR a C dx)/\H2 dx=some (.xd fs)/\XGet K C/\jg K (.ref C) (cs.map QC)=some b/\Q (.bl b) H2
theorem zky:∀ {cs:List Addr} {us:List Value},Vals (cs.map V.ref) us->us=cs.map QC
 | [],_,h=>by cases h;rfl
 | c::cs,_,h=>by
   cases h with
   | cons h1 h2=>rw[zky h2];cases h1;rfl
theorem z4p{e e2:Expr}{te tt:TE}{p1 p3:Pos}(gi:Gl X "isinstance")(mi:X.mg "isinstance" = none)(he:PE X e te)(ht:PE X e2 tt)
 (s1:starEach [e,e2] X.env=(false,eval e X.env)::(false,eval e2 X.env)::starEach [] X.env:=by rfl) (s2:starEach [e,e2] X.env=(false,eval e X.env)::starEach [e2] X.env:=by rfl) (s3:(backTo p3 (starEach [e2] X.env)).any (·.1)=false:=by rfl) :
 PE X (.Call (.Name "isinstance" p1) [e,e2] [] p3) (z0z X.K te tt):=by
 intro pins s σ H Q I h
 refine wpAny_Call_Name_kw (zcf I gi mi (u := .builtin "isinstance") (by decide +kernel) ?_)
 refine Z0 ?_ s2 s3
 rw[s1]
 show wpAny _ _ (spliced ((false,eval e X.env)::(false,eval e2 X.env) :: [])) _ _ s
 refine Zi (thn (he pins s σ H _ I h) λu s' ⟨y,H1,I1,r1,q1⟩=>?_)
 refine Zi (thn (ht pins s' σ H1 _ I1 q1) λu2 s2 ⟨y2,H2,I2,r2,a,C,dx,fs,b,p,cs,ev,ev2,sq,ha,hd,c,ek,q⟩=>ZA ?_)
 subst ev ev2
 obtain rfl:u=QC a:=r1
 obtain rfl:u2=QC p:=r2
 obtain⟨ox,od,J,lk⟩:=ztf I2 ha hd
 obtain⟨its,rv,⟨o,h1,h2,n,h3⟩,_⟩:=I2.tuple sq
 obtain rfl:=zky rv
 obtain⟨oc,oo,od2,osl⟩:=o
 cases h2
 cases h3
 exact PySem.W.kia_tup (zwn c) I2.kIn J h1 ek (λz=>nomatch z) λtk=>⟨.bl b,H2,I2.tok _,rfl,q⟩
theorem z8w{x:Str}{C:Addr}{pos:Pos}(hg:Gl X x)(hm:X.mg x=some (.ref C))(hd:(x == ("__debug__" : Str))=false:=by decide):PE X (.Name x pos) (tC (.ref C)):=λpins s σ H Q I h=>zdg I hg hm ⟨.ref C,H,I,rfl,h⟩ hd
end
def excD(c:Str)(ns:List Str)(ds:List PyData):PyData := .dict [(.str c,.tuple (ns.map .str)),(.none,.tuple ds)]
theorem zyl{c c':Str}{ns ns':List Str}{ds ds':List PyData}(h:excD c ns ds=excD c' ns' ds'):c=c'/\ns=ns'/\ds=ds':=by
 unfold excD at h
 simp only[PyData.dict.injEq,List.cons.injEq,Prod.mk.injEq,qW,PyData.tuple.injEq,and_true,true_and] at h
 obtain⟨⟨h1,h2⟩,h3⟩:=h
 refine⟨h1,?_,h3⟩
 have key:∀ (l m:List Str),l.map QX=m.map QX->l=m:=by
  intro l
  induction l with
  | nil=>intro m e;cases m with|nil=>rfl|cons _ _=>cases e
  | cons a l ih=>intro m e;cases m with|nil=>cases e|cons b m=>rw[Q3,Q3] at e;injection e with e1 e2;cases e1;rw[ih m e2]
 exact key ns ns' h2
def XOut(K:Qa)(mg:Str->Option Value)(O:Ob)(H H':Hp)(C dx:Addr)(d:PyData):Prop:=∃ (c:Str) (ns:List Str) (xs:List V) (ds:List PyData),d=excD c ns ds/\mg c=some (.ref C)/\H dx=none/\H' dx=some (.xd (ns.zip xs))/\xs.length=ns.length/\IsAll K (unM O) H' xs ds
def znl(K:Qa)(mg:Str->Option Value)(O:Ob)(H₀:Hp)(E:XK)(Qr:R->Prop):Prop:=∀ H' C dx d,Stp O H₀ H'->XOut K mg O H₀ H' C dx d->Qr (.o d)->E (.ref C) (some dx) H'
def SDx(K:Qa)(mg:Str->Option Value)(O:Ob)(E:XK)(t:TS)(g:DS):Prop :=
 ∀ (H₀:Hp) (A:Nat->Addr->Prop) (σ:St) (H:Hp) (ρ:DSt) (D:Ends) (Dd:DEnds),Rep K O H₀ A H σ ρ->g Dd ρ->Post K O H₀ A H D Dd->znl K mg O H₀ E Dd.rt->t D σ H
section
variable {K : Qa} {mg : Str → Option Value} {O : Ob} {E : XK}
theorem XOut.ahead{H H1 H2:Hp}{C dx:Addr}{d:PyData}(ok:O.Ok)(p:O.P H)(s:Stp O H H1)(h:XOut K mg O H1 H2 C dx d):XOut K mg O H H2 C dx d:=by
 obtain⟨c,ns,xs,ds,e,m,n,q,l,i⟩:=h
 have nm:¬ O.M dx:=λz=>by obtain⟨o,w⟩:=ok.here H1 dx (s.p p) z;rw[n] at w;cases w
 exact⟨c,ns,xs,ds,e,m,s.s.free nm n,q,l,i⟩
theorem zwy{t:TS}{g:DS}(h:SD K O t g):SDx K mg O E t g:=λH₀ A σ H ρ D Dd r q P _=>h H₀ A σ H ρ D Dd r q P
theorem z4n{t u:TS}{g k:DS}(h:SDx K mg O E t g)(h':SDx K mg O E u k):SDx K mg O E (tSeq t u) (seqD g k):=λH₀ A σ H ρ D Dd r q P XP =>
 h H₀ A σ H ρ _ _ r q ⟨λA' σ' H' ρ' r' f q'=>h' H₀ A' σ' H' ρ' D Dd r' q' (P.frm f) XP,P.bk,P.ct,P.rt⟩ XP
theorem z7o{c:TT}{t u:TS}{fc:DT}{g k:DS}(hc:TD K O c fc)(h:SDx K mg O E t g)(h':SDx K mg O E u k):SDx K mg O E (tIfS c t u) (ifS fc g k):=λH₀ A σ H ρ D Dd r q P XP=>by
 refine hc σ H ρ _ _ r.seen q λb H1 s1 q1=>?_
 cases b with
 | true=>exact h H₀ A σ H1 ρ D Dd (r.stp s1) q1 (P.frm (.stp s1)) XP
 | false=>exact h' H₀ A σ H1 ρ D Dd (r.stp s1) q1 (P.frm (.stp s1)) XP
theorem z3j{wi:TI}{tg:TG}{tb:TS}{f:DJ}{g:DG}{gb:DS}(hs:SrcR K O wi f)(hg:GR K O tg g)(hb:SDx K mg O E tb gb):SDx K mg O E (tFor wi tg tb) (forS f g gb):=λH₀ A σ H ρ D Dd r q P XP=>by
 refine hs H₀ A σ H ρ _ _ r q λJ H1 ds B W uB go=>?_
 have r1:=r.stp W.st
 have f1:Frm O A H A H1 := .stp W.st
 refine⟨λi m σ2 H2=>m=ds.length - i/\i<=ds.length/\∃ A2 ρ2,Rep K O H₀ A2 H2 σ2 ρ2/\Frm O A H1 A2 H2/\zfn g gb Dd (ds.drop i) ρ2,⟨ds.length,rfl,QO _,A,ρ,r1,.refl,by simpa using go⟩,?_⟩
 rintro i m σ2 H2 ⟨rfl,hi,A2,ρ2,r2,f2,go2⟩
 have kB:∀ a o,B a->H1 a=some o->H2 a=some o:=λa o b e=>(f2 a o e (uB a b)).1
 have ts:TupStay H1 H2:=r1.tupStay f2
 by_cases hlt:i<ds.length
 ·right
  have hd:ds[i]? = some ds[i]:=Qk hlt
  rw[Jd hlt] at go2
  obtain⟨fl,go2⟩:=go2
  obtain⟨hgo,hy⟩:=W.item H2 i ds[i] kB ts hd (.inl fl)
  refine⟨hgo,λσ' H'=>∃ A' ρ',Rep K O H₀ A' H' σ' ρ'/\Frm O A H1 A' H'/\zfn g gb Dd (ds.drop (i+1)) ρ',λσ' H' ⟨A',ρ',x1,x2,x3⟩=>⟨ds.length - (i+1),by omega,rfl,hlt,A',ρ',x1,x2,x3⟩,λx H3 y=>?_⟩
  obtain⟨sm,ix⟩:=hy x H3 y
  have st3:Stp O H2 H3 := .same r2.ok sm
  have r3:=r2.stp st3
  refine hg H₀ A2 σ2 H3 ρ2 x ds[i] _ _ r3 fl (Is.flat (TupStay.refl H3) ix fl) go2 λA3 σ3 ρ3 r3' f3 q3=>?_
  have f13:Frm O A H1 A3 H3:=(f2.trans (.stp st3)).trans f3
  exact hb H₀ A3 σ3 H3 ρ3 _ _ r3' q3 ⟨λA' σ' H' ρ' r' f' q'=>⟨A',ρ',r',f13.trans f',q'⟩,λA' σ' H' ρ' r' f' q'=>P.nx A' σ' H' ρ' r' (f1.trans (f13.trans f')) q',λA' σ' H' ρ' r' f' q'=>⟨A',ρ',r',f13.trans f',q'⟩,P.rt⟩ XP
 ·left
  have e:i=ds.length:=by omega
  subst e
  rw[JT] at go2
  exact⟨W.stop H2 _ kB ts (Qt _),P.nx A2 σ2 H2 ρ2 r2 (f1.trans f2) go2⟩
def zus(c:Str)(ns:List Str)(f:DA):DS:=λDd ρ=>f ρ λds=>ds.length=ns.length/\Dd.rt (.o (excD c ns ds))
theorem zwk{c:Str}{C:Addr}{ns:List Str}{t:TA}{f:DA}(hm:mg c=some (.ref C))(h:AD K O t f):SDx K mg O E (ztr C ns E t) (zus c ns f):=λH₀ A σ H ρ D Dd r q P XP=>by
 refine h σ H ρ _ _ r.seen q λvs H1 ds s1 is ⟨hl,q1⟩=>⟨by rw[is.length];exact hl,λd hd=>?_⟩
 have s2:Stp O H1 (upd H1 d (.xd (ns.zip vs))) := .new r.ok hd _
 have st:=r.st.trans s1
 have nm:¬ O.M d:=λz=>by obtain⟨o,w⟩:=r.ok.here H1 d (s1.p r.p) z;rw[hd] at w;cases w
 exact XP _ C d _ (st.trans s2) ⟨c,ns,vs,ds,rfl,hm,st.s.free nm hd,zap,by rw[is.length];exact hl,is.stp s2 (λ_ f=>f) (λ_ f=>f)⟩ q1
def spX(K:Qa)(mg:Str->Option Value)(φ:Ob->Prop)(n:Nat)(f:List PyData->(R->Prop)->Prop):Sp:=λvs H Q E =>
 ∃ (O:Ob) (ds:List PyData) (Qr:R->Prop),O.Ok/\φ O/\O.P H/\ds.length=n/\IsAll K (unM O) H vs ds/\f ds Qr/\(∀ r,Qr r->∀ v H',Stp O H H'->Out K O H H' v r->Q v H')/\znl K mg O H E Qr
theorem z3t{φ:Ob->Prop}{n:Nat}{f:List PyData->(R->Prop)->Prop}{ps:List Str}(hn:ps.length=n):∀ vs H Q E,spX K mg φ n f vs H Q E->vs.length=ps.length:=λvs H Q E zz=>by obtain⟨O,ds,_,_,_,_,h,is,_⟩:=zz;rw[is.length,h,hn]
theorem yaz{N:List Str}{t:TS}{g:DS}{H:Hp}{vs:List V}{ds:List PyData}{Q:VK}{Qr:R->Prop}(h:SDx K mg O E t g)(ok:O.Ok)(p:O.P H)(ia:IsAll K (unM O) H vs ds)
 (hg:g { nx:=λ_=>Qr (.o .none),rt:=Qr } (zer N (ds.map .im))) (hQ:∀ r,Qr r->∀ v H',Stp O H H'->Out K O H H' v r->Q v H') (hX:znl K mg O H E Qr):t { nx:=λ_ H'=>Q .non H',rt:=Q } (L2.start N vs) H:=by
 refine h H _ _ H _ _ _ (zh3 ok p (by rw[Qe];exact ia.length) λi r e=>?_) hg ⟨λA' σ' H' ρ' r' _ q=>hQ _ q .non H' r'.st Is.none,λA' σ' H' ρ' r' _ q=>q.elim,λA' σ' H' ρ' r' _ q=>q.elim,λH' v r s o q=>hQ r q v H' s o⟩ hX
 rw[Q4] at e
 obtain⟨d,hd,rfl⟩:=QV.mp e
 obtain⟨v,hv,iv⟩:=ia.get hd
 exact⟨v,hv,.inl ⟨d,rfl,iv⟩⟩
end
structure Def3x (P:Program) (w:World) (K:Qa) (mg:Str->Option Value) (base:Heap) (k:Nat) (x:Str) (ps:List Str) (sp:Sp):Prop where
 ex:∃ f fd,FnOk P w K mg base (CX1 P w) k f fd ps sp/\mg x=some (.ref f)/\Z5 K (.ref f)=true/\Binds K fd ps []
def Sx3(K:Qa)(mg:Str->Option Value)(Y:Cx)(E:XK)(O:Ob)(s:Stmt)(g:DS):Prop:=∃ t,PS Y s t/\SDx K mg O E t g
def Ssx3(K:Qa)(mg:Str->Option Value)(Y:Cx)(E:XK)(O:Ob)(s:List Stmt)(g:DS):Prop:=∃ t,PSs Y s t/\SDx K mg O E t g
theorem PS.nox{X:Cx}{st:Stmt}{t:TS}(h:PS X.nox st t):PS X st t:=λpins s σ H D I hw =>
 wpAny_mono (h pins s σ H D (I.wish _) hw) (λ_ _ q=>q.unwish) λ_ _ z=>Z3 z
theorem PA.nox{X:Cx}{es:List Expr}{t:TA}(h:PA X.nox es t):PA X es t:=λpos pins s σ H Q I hw =>
 wpAny_mono (h pos pins s σ H Q (I.wish _) hw) (λ_ _ ⟨v,H',I',r,q⟩=>⟨v,H',I'.unwish,r,q⟩) λ_ _ z=>Z3 z
theorem PG.nox{X:Cx}{tg:Expr}{t:TG}(h:PG X.nox tg t):PG X tg t:=λpins s σ H v u Q I r hw =>
 wpAny_mono (h pins s σ H v u Q (I.wish _) r hw) (λ_ _ ⟨σ',H',I',q⟩=>⟨σ',H',I'.unwish,q⟩) λ_ _ z=>Z3 z
theorem PI.nox{X:Cx}{tg iter:Expr}{t:TI}(h:PI X.nox tg iter t):PI X tg iter t:=λpins s σ H R I hw =>
 wpAny_mono (h pins s σ H R (I.wish _) hw) (λ_ _ q=>wpAny_mono q (λ_ _ ⟨it,fp,tn,J,H2,e,I2,rest⟩=>⟨it,fp,tn,J,H2,e,I2.unwish,rest⟩) λ_ _ z=>Z3 z) λ_ _ z=>Z3 z
section
variable {P : Program} {w : World} {K : Qa} {mg : Str → Option Value} {base : Heap} {k : Nat} {Y : Cx} {E : XK} {O : Ob} {c iter tg : Expr} {ft : DT} {st : Stmt} {sts sa sb body : List Stmt} {g1 g2 : DS} {pos : Pos} {fj : DJ} {g : DG} {hh : Nat}
theorem x_of(h:S3 K (λ_:Unit=>Y.nox) (λ_:Unit=>O) st g1):Sx3 K mg Y E O st g1:=let ⟨t,p,d⟩:=h; ⟨t,PS.nox (p ()),zwy (d ())⟩
theorem znn(h:Ss3 K (λ_:Unit=>Y.nox) (λ_:Unit=>O) sts g1):Ssx3 K mg Y E O sts g1:=let ⟨t,p,d⟩:=h; ⟨t,PSs.nox (p ()),zwy (d ())⟩
theorem zg7(h:Sx3 K mg Y E O st g1):Ssx3 K mg Y E O [st] g1:=let ⟨_,p,d⟩:=h; ⟨_,zdq p,d⟩
theorem zi5(h:Sx3 K mg Y E O st g1)(h':Ssx3 K mg Y E O sts g2):Ssx3 K mg Y E O (st::sts) (seqD g1 g2):=let ⟨_,p,d⟩:=h;let ⟨_,p2,d2⟩:=h'; ⟨_,zbo p p2,z4n d d2⟩
theorem x_if(hc:T3 K (λ_:Unit=>Y.nox) (λ_:Unit=>O) c ft)(h:Ssx3 K mg Y E O sa g1)(h':Ssx3 K mg Y E O sb g2):Sx3 K mg Y E O (.If c sa sb pos) (ifS ft g1 g2):=let ⟨_,p,d⟩:=hc;let ⟨_,p1,d1⟩:=h;let ⟨_,p2,d2⟩:=h'; ⟨_,zi4 (PT.nox (p ())) p1 p2,z7o (d ()) d1 d2⟩
theorem z0u(B:Bdy P w Y E)(hc:Y.calm=true)(hi:J3 K (λ_:Unit=>Y.nox) (λ_:Unit=>O) tg iter fj)(hg:G3 K (λ_:Unit=>Y.nox) hh tg g)(hb:Ssx3 K mg Y E O body g1)(hs:∀ x,foldedSetIterable iter Y.env x=pure x:=by intro _;rfl):Sx3 K mg Y E O (.For tg iter body [] pos) (forS fj g g1):=by
 obtain⟨ti,p1,d1⟩:=hi
 obtain⟨tg',p2,_,d2,_⟩:=hg
 obtain⟨tb,p3,d3⟩:=hb
 have po:PassesOwn (model Y.prog Y.w) Y.A Y.env Y.xe:=by rw[B.xe,B.prog,B.wld];exact PassesOwn.leaving
 exact⟨_,zuj po hc (PI.nox (p1 ())) (PG.nox (p2 ())) p3 hs,z3j (d1 ()) (d2 O) d3⟩
theorem zro{x:Str}{C f:Addr}{fd:FuncData}{ps ns:List Str}{e:Expr}{es:List Expr}{np cpos:Pos}{fa:DA}(B:Bdy P w Y E)(hc:Y.calm=true)(hP:Y.prog=P)(hw:Y.w=w)(hK:Y.K=K)(hmg:Y.mg=mg)(hbs:Y.base=base)(M:XMk K C f ns)(F:FnOk P w K mg base CX0 k f fd ps (zg8 K ns))(hr:Room (k+1) Y.A)(hb:Binds K fd ps [])(hz:ns.length<=1000)(hm:mg x=some (.ref C))
 (ha:A3 K (λ_:Unit=>Y.nox) (λ_:Unit=>O) (e::es) fa) (hg:Gl Y x:=by rfl) (hdb:(x == ("__debug__" : Str))=false:=by decide) (he:starEach (e::es) Y.env=(false,eval e Y.env)::starEach es Y.env:=by rfl) (hpl:(backTo cpos (starEach es Y.env)).any (·.1)=false:=by rfl) :
 Sx3 K mg Y E O (.Raise (some (.Call (.Name x np) (e::es) [] cpos)) none pos) (zus x ns fa):=by
 obtain⟨t,p,d⟩:=ha
 subst hP hw hK hmg hbs
 exact⟨_,zyg B hc M F hr hb hz hg hm (PA.nox (p ())) hdb he hpl,zwk hm (d ())⟩
theorem z0x{x:Str}{N ps:List Str}{n:Nat}{F:List PyData->(R->Prop)->Prop}{φ:Ob->Prop}(T:Top3 K mg x st)(S:FnScope N ps (zah st))(hb:∀ (kV doc pm:Value) (an:Option Addr) (cdv ct:Value) (us:List Value),us.length=ps.length->bindArgs (Z4 x x (zdf st) (zbu st) (zah st) .none kV doc pm an cdv ct) ⟨us,[]⟩=pure (ps.zip us))(hn:ps.length=n)
 (body:∀ (f:Addr) (cdv:Value) (A:Around) (outer:List Env) (s:Shared) (H:Hp) (E:XK) (O:Ob),φ O->Bdy P w (cxOf (CX1 P w) P w K mg base N x (zah st) f cdv A outer s H E) E->Ctx3 P w K mg base k (λ_:Unit=>(cxOf (CX1 P w) P w K mg base N x (zah st) f cdv A outer s H E).nox) ->
  ∃ g,Ssx3 K mg (cxOf (CX1 P w) P w K mg base N x (zah st) f cdv A outer s H E) E O (zbu st) g/\∀ ds Qr,ds.length=n->F ds Qr->g { nx:=λ_=>Qr (.o .none),rt:=Qr } (zer N (ds.map .im))):Def3x P w K mg base (k+1) x ps (spX K mg φ n F):=by
 obtain⟨f,fd,Fu,m⟩:=T.ex
 obtain⟨oc,od,kV,doc,pm,an,cdv,ct,osl,rfl,lk,hcd⟩:=id Fu.ex
 refine⟨f,_,zs3 lk hcd S (z3t hn) λA outer s H vs Q E hr h=>?_,m,Fu.kp,Fu.binds hb⟩
 obtain⟨O,ds,Qr,ok,hφ,p,hl,is,q,kk,kx⟩:=h
 obtain⟨g,⟨t,h1,h2⟩,h3⟩:=body f cdv A outer s H E O hφ ⟨rfl,rfl,rfl,rfl,rfl,rfl⟩ ⟨λ_=>rfl,λ_=>rfl,λ_=>rfl,λ_=>rfl,λ_=>rfl,λ_=>rfl,λ_=>hr,λ_=>rfl⟩
 exact⟨t,h1,yaz h2 ok p is (h3 ds Qr hl q) kk kx⟩
end
theorem zva{X:Cx}{W:Value->Shared->Prop}(h:X.xe=λ_ _=>False):(X.wish W).nox=X:=by
 obtain⟨⟩:=X
 cases h
 rfl
def PEf(X:Cx)(pins:List (Addr × Obj))(σ:St)(e:Expr)(t:TE):Prop:=∀ (s:Shared) (H:Hp) (Q:VK),Inv X pins σ H s->t σ H Q->wpAny (model X.prog X.w) X.A (eval e X.env) (EP X pins σ Q) X.xe s
def PAf(X:Cx)(pins:List (Addr × Obj))(σ:St)(es:List Expr)(t:TA):Prop:=∀ (pos:Pos) (s:Shared) (H:Hp) (Q:List V->Hp->Prop),Inv X pins σ H s->t σ H Q->wpAny (model X.prog X.w) X.A (spliced (backTo pos (starEach es X.env))) (AP X pins σ Q) X.xe s
section
variable {X : Cx} {pins : List (Addr × Obj)} {σ : St} {e : Expr} {es : List Expr} {te : TE} {t : TA} {pos p : Pos} {k : Nat} {f : Addr} {fd : FuncData} {ps : List Str} {sp : Sp} {E : XK} {x : Str}
theorem z1j:PAf X pins σ [] tNil:=λ_ _ H Q I h=>ZA ⟨[],H,I,.nil,h⟩
theorem zx3(ha:PEf X pins σ e te)(hr:PAf X pins σ es t)(hs:starEach (e::es) X.env=(false,eval e X.env)::starEach es X.env:=by rfl):PAf X pins σ (e::es) (zbb te t):=by
 intro pos s H Q I h
 rw[hs]
 show wpAny _ _ (spliced ((false,eval e X.env)::backTo pos (starEach es X.env))) _ _ s
 refine Zi (thn (ha s H _ I h) λu s1 ⟨x,H1,I1,r1,q1⟩=>?_)
 exact thn (hr pos s1 H1 _ I1 q1) λus s2 ⟨xs,H2,I2,r2,q2⟩=>⟨x::xs,H2,I2,.cons r1 r2,q2⟩
theorem z1a{x1}(h:PAf X pins σ es t):PEf X pins σ (.Tuple es x1 pos) (tTup t):=by
 intro s H Q I hq
 refine wpAny_Tuple_spliced (thn (h pos s H _ I hq) λus s1 ⟨xs,H1,I1,r,z,q⟩=>⟨by rw[<- r.length];exact z,?_⟩)
 have hf:H1 s1.heap.objs.size=none:=I1.hok.fresh (Qt _)
 refine⟨.ref s1.heap.objs.size,upd H1 s1.heap.objs.size (.tup xs),I1.laid (t':=s1.toks) (λb u e=>Qb _ e) (Qt _) ?_,rfl,q _ hf⟩
 exact⟨z,us,r,⟨_,Qq _ rfl,rfl,_,rfl⟩⟩
theorem z1z{H:Hp}{s:Shared}{Q:VK}{us:List Value}{vs:List V}(F:FnOk X.prog X.w X.K X.mg X.base (CX1 X.prog X.w) k f fd ps sp)(hr:Room k X.A)(hb:Binds X.K fd ps [])(hx:zfy X pins σ E)
 (I:Inv X pins σ H s) (r:Vals vs us) (h:sp vs H Q E):wpAny (model X.prog X.w) X.A (call (.ref f) us) (EP X pins σ Q) X.xe s:=by
 have hl:us.length=ps.length:=by rw[<- r.length];exact F.len _ _ _ _ h
 have hbb:=hb s us I.kIn (by rw[QU];exact hl)
 rw[QU] at hbb
 refine wpAny_call (codeAny_mono (F.run X.A X.stack s H ⟨us,[]⟩ us vs Q E hr I.env0 hbb r h) λr s' hq=>?_)
 cases r with
 | error e=>exact hx H s e s' I hq
 | ok fl =>
   cases fl with
   | ret u=>exact I.after hq
   | next=>exact Z3 hq
   | brk=>exact Z3 hq
   | cont=>exact Z3 hq
theorem zxc(F:FnOk X.prog X.w X.K X.mg X.base (CX1 X.prog X.w) k f fd ps sp)(hr:Room k X.A)(hg:Gl X x)(hm:X.mg x=some (.ref f))(hk:Z5 X.K (.ref f)=true)(hb:Binds X.K fd ps [])(hx:zfy X pins σ E)
 (ha:PAf X pins σ (e::es) t) (hdb:(x == ("__debug__" : Str))=false:=by decide) (he:starEach (e::es) X.env=(false,eval e X.env)::starEach es X.env:=by rfl) (hpl:(backTo pos (starEach es X.env)).any (·.1)=false:=by rfl) :
 PEf X pins σ (.Call (.Name x p) (e::es) [] pos) (zd6 sp [] E t):=by
 intro s H Q I h
 refine wpAny_Call_Name_kw (zdg I hg hm ?_ hdb)
 refine Ym (h₀:=X.base) I.ok.mod.kin hk (thn (ha pos s H _ I h) λus s1 ⟨vs,H1,I1,r,q⟩=>⟨I1.kIn,?_⟩) he hpl
 replace q:sp (vs ++ []) H1 Q E:=q
 rw[QU] at q
 exact z1z F hr hb hx I1 r q
end
def DEf:Type:=DSt->(R->Prop)->(R->Prop)->Prop
def DAf:Type:=DSt->(List PyData->Prop)->(R->Prop)->Prop
def DSf:Type:=DEnds->DSt->(R->Prop)->Prop
def zos(N X:R->Prop):R->Prop
 | .o (.dict d)=>X (.o (.dict d))
 | .o .none=>N (.o .none)
 | .o (.bool b)=>N (.o (.bool b))
 | .o (.int i)=>N (.o (.int i))
 | .o (.str x)=>N (.o (.str x))
 | .o (.list l)=>N (.o (.list l))
 | .o (.tuple l)=>N (.o (.tuple l))
 | .n l=>N (.n l)
theorem zsg{K:Qa}{O:Ob}{H H':Hp}{v:V}{N X:R->Prop}:∀ {r:R},Out K O H H' v r->zos N X r->N r
 | .o (.dict d),o,h=>nomatch (show Is K (unM O) H' v (.dict d) from o)
 | .o .none,_,h=>h
 | .o (.bool b),_,h=>h
 | .o (.int b),_,h=>h
 | .o (.str b),_,h=>h
 | .o (.list b),_,h=>h
 | .o (.tuple b),_,h=>h
 | .n b,_,h=>h
def EX(K:Qa)(mg:Str->Option Value)(O:Ob)(H:Hp)(E:XK)(X:R->Prop):Prop:=∀ H' C dx d,Stp O H H'->XOut K mg O H H' C dx d->X (.o d)->E (.ref C) (some dx) H'
def EDf(K:Qa)(mg:Str->Option Value)(O:Ob)(t:XK->TE)(f:DEf):Prop :=
 ∀ (E:XK) (σ:St) (H:Hp) (ρ:DSt) (Q:VK) (N X:R->Prop),Seen K O H σ ρ->f ρ N X->(∀ v H' r,Stp O H H'->Out K O H H' v r->N r->Q v H')->EX K mg O H E X->t E σ H Q
def ADf(K:Qa)(mg:Str->Option Value)(O:Ob)(t:XK->TA)(f:DAf):Prop :=
 ∀ (E:XK) (σ:St) (H:Hp) (ρ:DSt) (Q:List V->Hp->Prop) (N:List PyData->Prop) (X:R->Prop),Seen K O H σ ρ->f ρ N X->(∀ vs H' ds,Stp O H H'->IsAll K (unM O) H' vs ds->N ds->Q vs H')->EX K mg O H E X->t E σ H Q
def SDf(K:Qa)(mg:Str->Option Value)(O:Ob)(t:XK->TS)(g:DSf):Prop :=
 ∀ (E:XK) (H₀:Hp) (A:Nat->Addr->Prop) (σ:St) (H:Hp) (ρ:DSt) (D:Ends) (Dd:DEnds) (X:R->Prop),Rep K O H₀ A H σ ρ->g Dd ρ X->Post K O H₀ A H D Dd->EX K mg O H E X->t E D σ H
def calX(n:Nat)(F:List PyData->(R->Prop)->Prop)(g:DA):DEf:=λρ N X=>g ρ λds=>ds.length=n/\F ds (zos N X)
def upE(f:DE):DEf:=λρ N _=>f ρ N
def upA(f:DA):DAf:=λρ N _=>f ρ N
def zn7(f:DEf)(g:DAf):DAf:=λρ N X=>f ρ (λr=>g ρ (λds=>N (r.d::ds)) X) X
def zse(g:DAf):DEf:=λρ N X=>g ρ (λds=>ds.length<=sizeLine/\N (.o (.tuple ds))) X
def retF(f:DEf):DSf:=λDd ρ X=>f ρ Dd.rt X
section
variable {K : Qa} {mg : Str → Option Value} {O : Ob} {H₀ H H' : Hp} {A : Nat → Addr → Prop} {σ : St} {ρ : DSt} {E : XK} {X : R → Prop}
theorem EX.stp{H1:Hp}(ok:O.Ok)(p:O.P H)(s:Stp O H H1)(h:EX K mg O H E X):EX K mg O H1 E X:=λH' C dx d s' o q=>h H' C dx d (s.trans s') (o.ahead ok p s) q
theorem zv2{t:TE}{f:DE}(h:ED K O t f):EDf K mg O (λ_=>t) (upE f):=λ_ σ H ρ Q N _ S q k _=>h σ H ρ Q N S q k
theorem zom{φ:Ob->Prop}{n:Nat}{F:List PyData->(R->Prop)->Prop}{t:TA}{g:DA}(hφ:φ O)(h:AD K O t g):EDf K mg O (λE=>zd6 (spX K mg φ n F) [] E t) (calX n F g):=λE σ H ρ Q N X S q k kx=>by
 refine h σ H ρ _ _ S q λvs H1 ds s1 is ⟨hn,q1⟩=>?_
 rw[QU]
 refine⟨O,ds,zos N X,S.ok,hφ,s1.p S.p,hn,is,q1,λr qr v H' s2 o2=>k v H' r (s1.trans s2) (o2.ahead S.ok S.p s1) (zsg o2 qr),λH' C dx d s2 o2 q2=>kx H' C dx d (s1.trans s2) (o2.ahead S.ok S.p s1) ?_⟩
 obtain⟨c,ns,xs,es,rfl,_⟩:=o2
 exact q2
theorem zq7:ADf K mg O (λ_=>tNil) (upA aNil):=λ_ σ H ρ Q N _ S q k _=>zti σ H ρ Q N S q k
theorem zoy{t:XK->TE}{u:XK->TA}{f:DEf}{g:DAf}(h:EDf K mg O t f)(h':ADf K mg O u g):ADf K mg O (λE=>zbb (t E) (u E)) (zn7 f g):=λE σ H ρ Q N X S q k kx=>by
 refine h E σ H ρ _ _ _ S q (λv H1 r s1 o1 q1=>?_) kx
 refine h' E σ H1 ρ _ _ _ (S.stp s1) q1 (λvs H2 ds s2 o2 q2=>?_) (kx.stp S.ok S.p s1)
 exact k (v::vs) H2 (r.d::ds) (s1.trans s2) (.cons (Is.stp s2 (λ_ f=>f) (λ_ f=>f) (o1.is S.ok S.p)) o2) q2
theorem zri{u:XK->TA}{g:DAf}(h:ADf K mg O u g):EDf K mg O (λE=>tTup (u E)) (zse g):=λE σ H ρ Q N X S q k kx=>by
 refine h E σ H ρ _ _ _ S q (λvs H1 ds s1 o1 ⟨z,q⟩=>⟨by rw[o1.length];exact z,λp hp=>?_⟩) kx
 have s2:Stp O H1 (upd H1 p (.tup vs)) := .new S.ok hp _
 exact k _ _ (.o (.tuple ds)) (s1.trans s2) (.tuple (.of zap) (o1.stp s2 (λ_ f=>f) (λ_ f=>f))) q
theorem zr8{t:XK->TE}{f:DEf}(h:EDf K mg O t f):SDf K mg O (λE=>tRet (t E)) (retF f):=λE H₀ A σ H ρ D Dd X r q P kx =>
 h E σ H ρ _ _ _ r.seen q (λv H1 x s1 o1 q1=>P.rt H1 v x (r.st.trans s1) (o1.ahead r.ok r.p0 r.st) q1) kx
theorem Rep.setExc{i:Nat}{v:V}{C:Addr}{ns:List Str}{xs:List V}{ds:List PyData}(r:Rep K O H₀ A H σ ρ)(h:ExAt (unO O A) H v C ns xs)(hi:IsAll K (unO O A) H xs ds):Rep K O H₀ (λj a=>j ≠ i/\A j a) H (σ.set i (some v)) (ρ.set i (some (.exc C ns ds))):=by
 have un:∀ a,unO O A a->unO O (λj a=>j ≠ i/\A j a) a:=λa u=>⟨u.1,λj z=>u.2 j z.2⟩
 have r0:=r.setIm (i:=i) (v := .non) (d := .none) .none
 refine⟨r0.ok,r0.p,r0.p0,r0.st,r0.dis,r0.own,λj x e=>?_,by rw[Zj,Zj];exact r.len⟩
 by_cases hj:i=j
 ·subst hj
  have hi':i<ρ.length:=by
   rcases Yv i ρ.length with z|z
   ·exact z
   ·rw[QZ (by simpa using z)] at e;cases e
  rw[QG hi'] at e
  cases e
  exact⟨v,QG (by have:=r.len;omega),xs,h.to λa u f q=>⟨un a f,q⟩,hi.weak un⟩
 ·have q:=r0.at_ j x (by rw[QF hj] at e ⊢; exact e)
  rw[QF hj] at q ⊢
  exact q
theorem Rep.setNone{i:Nat}(r:Rep K O H₀ A H σ ρ):Rep K O H₀ (λj a=>j ≠ i/\A j a) H (σ.set i Zw) (ρ.set i Zw):=by
 have r0:=r.setIm (i:=i) (v := .non) (d := .none) .none
 refine⟨r0.ok,r0.p,r0.p0,r0.st,r0.dis,r0.own,λj x e=>?_,by rw[Zj,Zj];exact r.len⟩
 by_cases hj:i=j
 ·subst hj
  rcases Yv i ρ.length with z|z
  ·rw[QG z] at e;cases e
  ·rw[QZ (by simpa using z)] at e;cases e
 ·have q:=r0.at_ j x (by rw[QF hj] at e ⊢; exact e)
  rw[QF hj] at q ⊢
  exact q
def offD(i:Nat)(Dd:DEnds):DEnds:={ nx:=λρ=>Dd.nx (ρ.set i none),rt:=Dd.rt,bk:=λρ=>Dd.bk (ρ.set i none),ct:=λρ=>Dd.ct (ρ.set i none) }
def tryS(K:Qa)(mg:Str->Option Value)(CL:Addr)(i:Nat)(gb:DSf)(gs:DS):DS:=λDd ρ=>gb Dd ρ λr=>∃ c ns ds C,r = .o (excD c ns ds)/\mg c=some (.ref C)/\Zk K C (.ref CL)=some true/\flats ds=true/\gs (offD i Dd) (ρ.set i (some (.exc C ns ds)))
theorem z7m{CL:Addr}{i:Nat}{tb:XK->TS}{ts:TS}{gb:DSf}{gs:DS}(hb:SDf K mg O tb gb)(hs:SD K O ts gs):SD K O (zpq K CL i tb ts) (tryS K mg CL i gb gs):=λH₀ A σ H ρ D Dd r q P=>by
 refine hb _ H₀ A σ H ρ D Dd _ r q P λH' C dx d s1 o1 q1=>?_
 obtain⟨c,ns,xs,ds,rfl,m,n,hd,l,is⟩:=o1
 obtain⟨c',ns',ds',C',e,m',mr,fl,q1⟩:=q1
 obtain⟨rfl,rfl,rfl⟩:=zyl (R.o.inj e)
 rw[m] at m'
 cases m'
 refine⟨C,dx,rfl,rfl,mr,λa ha=>?_⟩
 have s2:Stp O H' (upd H' a (XR a C dx)) := .new r.ok ha _
 have r1:=r.stp s1
 have r2:=r1.stp s2
 have p1:=s1.p r.p
 have nm:∀ b,H' b=none->¬ O.M b:=λb hb z=>by obtain⟨o,w⟩:=r.ok.here H' b p1 z;rw[hb] at w;cases w
 have nA:∀ j,¬ A j a:=λj z=>by obtain⟨_,⟨o,w,_⟩,_⟩:=r1.own j a z;rw[ha] at w;cases w
 have nD:∀ j,¬ A j dx:=λj z=>by obtain⟨_,⟨o,w,_⟩,_⟩:=r.own j dx z;rw[n] at w;cases w
 have md:¬ O.M dx:=λz=>by obtain⟨o,w⟩:=r.ok.here H dx r.p z;rw[n] at w;cases w
 have ne:dx ≠ a:=λz=>by rw[z,ha] at hd;cases hd
 have ex:ExAt (unO O A) (upd H' a (XR a C dx)) (.ref a) C ns xs:=⟨a,dx,rfl,⟨nm a ha,nA⟩,⟨md,nD⟩,zap,by rw[zaf ne];exact hd,l⟩
 have is2:IsAll K (unO O A) (upd H' a (XR a C dx)) xs ds:=IsAll.flats (TupStay.refl _) (is.stp s2 (λ_ f=>f) (λ_ f=>f)) fl
 have r3:=r2.setExc (i:=i) ex is2
 have fr:Frm O A H (λj a=>j ≠ i/\A j a) (upd H' a (XR a C dx)):=Frm.setIm (s1.trans s2)
 have off:∀ {A':Nat->Addr->Prop} {H2:Hp},Frm O A' H2 (λj a=>j ≠ i/\A' j a) H2:=Frm.setIm (.refl _ _)
 exact hs H₀ _ _ _ _ _ _ r3 q1 ⟨λA' σ' H2 ρ' r' f' q'=>P.nx _ _ _ _ r'.setNone ((fr.trans f').trans off) q',λA' σ' H2 ρ' r' f' q'=>P.bk _ _ _ _ r'.setNone ((fr.trans f').trans off) q',λA' σ' H2 ρ' r' f' q'=>P.ct _ _ _ _ r'.setNone ((fr.trans f').trans off) q',P.rt⟩
def z0w(n m:Nat):DS:=λDd ρ=>∃ C ns ds,ρ[m]? = some (some (.exc C ns ds))/\Dd.nx (ρ.set n (some (.exc C ns ds)))
theorem z4d{n m:Nat}:SD K O (tAsg (tVar m) (zbs n)) (z0w n m):=λH₀ A σ H ρ D Dd r q P=>by
 obtain⟨C,ns,ds,e,q⟩:=q
 obtain⟨v,hv,xs,h1,h2⟩:=r.at_ m _ e
 exact⟨v,hv,P.nx _ _ _ _ (r.setExc (i:=n) h1 h2) (Frm.setIm (.refl _ _)) q⟩
def isXD(K:Qa)(i:Nat)(cv:Value):DE:=λρ Q=>∃ C ns ds b,ρ[i]? = some (some (.exc C ns ds))/\XGet K C/\Zm K (.ref C) cv=some b/\Q (.o (.bool b))
theorem zwa{i:Nat}{cv:Value}:ED K O (tIsX K cv (tVar i)) (isXD K i cv):=λσ H ρ Q Qd S h k=>by
 obtain⟨C,ns,ds,b,e,xg,ek,q⟩:=h
 obtain⟨v,hv,xs,⟨a,dx,rfl,fa,fx,ha,hd,l⟩,is⟩:=S.at_ i _ e
 exact⟨_,hv,a,C,dx,ns.zip xs,b,rfl,ha,hd,xg,ek,k _ H (.o (.bool b)) (.refl _ _) (Is.bool b) q⟩
def tCs:List Addr->TA
 | []=>tNil
 | c::cs=>zbb (tC (.ref c)) (tCs cs)
theorem zvb{σ:St}{H:Hp}:∀ {cs:List Addr} {Q:List V->Hp->Prop},Q (cs.map V.ref) H->tCs cs σ H Q
 | [],Q,h=>h
 | c::cs,Q,h=>zvb (cs:=cs) (Q:=λxs H2=>Q (.ref c::xs) H2) h
def zz7(K:Qa)(i:Nat)(cs:List Addr):DE:=λρ Q=>∃ C ns ds b,ρ[i]? = some (some (.exc C ns ds))/\XGet K C/\cs.length<=sizeLine/\jg K (.ref C) (cs.map QC)=some b/\Q (.o (.bool b))
theorem z5p{i:Nat}{cs:List Addr}:ED K O (z0z K (tVar i) (tTup (tCs cs))) (zz7 K i cs):=λσ H ρ Q Qd S h k=>by
 obtain⟨C,ns,ds,b,e,xg,ln,ek,q⟩:=h
 obtain⟨v,hv,xs,⟨a,dx,rfl,fa,fx,ha,hd,l⟩,is⟩:=S.at_ i _ e
 refine⟨_,hv,zvb ⟨by rw[Qe];exact ln,λp hp=>?_⟩⟩
 have na:a ≠ p:=λz=>by rw[z,hp] at ha;cases ha
 have nd:dx ≠ p:=λz=>by rw[z,hp] at hd;cases hd
 exact⟨a,C,dx,ns.zip xs,b,p,cs,rfl,rfl,.of zap,by rw[zaf na];exact ha,by rw[zaf nd];exact hd,xg,ek,k _ _ (.o (.bool b)) (.new S.ok hp _) (Is.bool b) q⟩
def yan:PyData->Bool
 | .int _=>true
 | .str _=>true
 | _=>false
theorem zv3{F:Addr->Prop}{f:Str}{d:PyData}:∀ {ns:List Str} {xs:List V} {ds:List PyData},IsAll K F H xs ds->(ns.zip ds).lookup f=some d->∃ y,(ns.zip xs).lookup f=some y/\Is K F H y d
 | [],_,_,_,h=>by cases h
 | n::ns,_,_,.nil,h=>by cases h
 | n::ns,v::xs,e::ds,.cons i is,h=>by
   rw[List.zip_cons_cons,Je] at h ⊢
   cases z:f == n with
   | true=>rw[z] at h;cases h;exact⟨v,rfl,i⟩
   | false=>rw[z] at h;exact zv3 is h
def zz9(K:Qa)(i:Nat)(f:Str):DE:=λρ Q=>∃ C ns ds d,ρ[i]? = some (some (.exc C ns ds))/\XGet K C/\QS K (.ref C) f=some none/\(ns.zip ds).lookup f=some d/\yan d=true/\Q (.o d)
theorem z3p{i:Nat}{f:Str}:ED K O (z0k K f (tVar i)) (zz9 K i f):=λσ H ρ Q Qd S h k=>by
 obtain⟨C,ns,ds,d,e,xg,nf,hl,pd,q⟩:=h
 obtain⟨v,hv,xs,⟨a,dx,rfl,fa,fx,ha,hd,l⟩,is⟩:=S.at_ i _ e
 obtain⟨y,hy,iy⟩:=zv3 is hl
 have pv:zwr y:=by
  cases iy with
  | int i=>trivial
  | str x=>trivial
  | none=>cases pd
  | bool b=>cases pd
  | list _ _ _=>cases pd
  | tuple _ _=>cases pd
 exact⟨_,hv,a,C,dx,ns.zip xs,y,rfl,ha,hd,xg,nf,hy,pv,k y H (.o d) (.refl _ _) iy q⟩
end
def Ef3{ι κ:Type}(K:Qa)(mg:Str->Option Value)(X:ι->Cx)(O:κ->Ob)(e:Expr)(f:DEf):Prop:=∃ t:XK->TE,(∀ i W pins σ E,zfy ((X i).wish W) pins σ E->PEf ((X i).wish W) pins σ e (t E))/\∀ j,EDf K mg (O j) t f
def Af3{ι κ:Type}(K:Qa)(mg:Str->Option Value)(X:ι->Cx)(O:κ->Ob)(es:List Expr)(f:DAf):Prop:=∃ t:XK->TA,(∀ i W pins σ E,zfy ((X i).wish W) pins σ E->PAf ((X i).wish W) pins σ es (t E))/\∀ j,ADf K mg (O j) t f
def Bf3{ι κ:Type}(K:Qa)(mg:Str->Option Value)(X:ι->Cx)(O:κ->Ob)(ss:List Stmt)(f:DSf):Prop:=∃ t:XK->TS,(∀ i W pins σ E,zfy ((X i).wish W) pins σ E->PSsf ((X i).wish W) pins σ ss (t E))/\∀ j,SDf K mg (O j) t f
def z8o{ι:Type}(X:ι->Cx):ι × Addr->Cx:=λp=>zi3 (X p.1) p.2
section
variable {ι κ : Type} {P : Program} {w : World} {K : Qa} {mg : Str → Option Value} {base : Heap} {k : Nat} {X : ι → Cx} {O : κ → Ob} {a b c : Expr} {fa : DE} {ff : DEf} {gf : DAf} {ga : DA} {pos p : Pos} {es : List Expr}
theorem ya9(C:Ctx3 P w K mg base k X)(h:E3 K X O a fa):Ef3 K mg X O a (upE fa):=by
 obtain⟨t,h1,h2⟩:=h
 refine⟨λ_=>t,λi W pins σ E _ s H Q I q=>PE.nox (X:=(X i).wish W) (by rw[zva (C.xe i)];exact h1 i) pins s σ H Q I q,λj=>zv2 (h2 j)⟩
theorem z1q{k' n:Nat}{x:Str}{ps:List Str}{φ:Ob->Prop}{F:List PyData->(R->Prop)->Prop}(C:Ctx3 P w K mg base k X)(D:Def3x P w K mg base k' x ps (spX K mg φ n F))(hφ:∀ j,φ (O j))(ha:A3 K X O (a::es) ga)(hk:k'<=k:=by decide)(hg:∀ i,Gl (X i) x:=by intro i;rfl)
 (hdb:(x == ("__debug__" : Str))=false:=by decide) (he:∀ i,starEach (a::es) (X i).env=(false,eval a (X i).env)::starEach es (X i).env:=by intro i;rfl) (hpl:∀ i,(backTo pos (starEach es (X i).env)).any (·.1)=false:=by intro i;rfl):Ef3 K mg X O (.Call (.Name x p) (a::es) [] pos) (calX n F ga):=by
 obtain⟨f,fd,G,m,kp,bn⟩:=D.ex
 obtain⟨t,q,d⟩:=ha
 refine⟨λE=>zd6 (spX K mg φ n F) [] E t,λi W pins σ E hp=>?_,λj=>zom (hφ j) (d j)⟩
 have G':FnOk ((X i).wish W).prog ((X i).wish W).w ((X i).wish W).K ((X i).wish W).mg ((X i).wish W).base (CX1 ((X i).wish W).prog ((X i).wish W).w) k f fd ps (spX K mg φ n F):=by
  show FnOk (X i).prog (X i).w (X i).K (X i).mg (X i).base (CX1 (X i).prog (X i).w) k f fd ps _
  rw[C.hP,C.hw,C.hK,C.hmg,C.hb];exact G.mono hk
 exact zxc G' (C.room i) (hg i) (show(X i).mg x=_ by rw[C.hmg];exact m) (show Z5 (X i).K _=_ by rw[C.hK];exact kp) (show L2.Binds (X i).K fd ps [] by rw[C.hK];exact bn) hp (λpos s H Q I q'=>PA.nox (X:=(X i).wish W) (by rw[zva (C.xe i)];exact q i) pos pins s σ H Q I q') hdb (he i) (hpl i)
theorem zvy:Af3 K mg X O [] (upA aNil):=⟨λ_=>tNil,λi W pins σ E _=>z1j,λj=>zq7⟩
theorem zlk(h:Ef3 K mg X O a ff)(h':Af3 K mg X O es gf)(hs:∀ i,starEach (a::es) (X i).env=(false,eval a (X i).env)::starEach es (X i).env:=by intro i;rfl):Af3 K mg X O (a::es) (zn7 ff gf):=by
 obtain⟨t,p,d⟩:=h
 obtain⟨t',p',d'⟩:=h'
 exact⟨λE=>zbb (t E) (t' E),λi W pins σ E hp=>zx3 (p i W pins σ E hp) (p' i W pins σ E hp) (hs i),λj=>zoy (d j) (d' j)⟩
theorem z6h{x1}(h:Af3 K mg X O es gf):Ef3 K mg X O (.Tuple es x1 pos) (zse gf):=by
 obtain⟨t,p,d⟩:=h
 exact⟨λE=>tTup (t E),λi W pins σ E hp=>z1a (p i W pins σ E hp),λj=>zri (d j)⟩
theorem z7y(h:Ef3 K mg X O a ff):Bf3 K mg X O [.Return (some a) pos] (retF ff):=by
 obtain⟨t,p,d⟩:=h
 refine⟨λE=>tRet (t E),λi W pins σ E hp s H D I q=>?_,λj=>zr8 (d j)⟩
 refine wpAny_execs_cons (wpAny_Return_some (thn (p i W pins σ E hp s H _ I q) λv s1 ⟨x,H1,I1,r1,q1⟩=>?_))
 exact⟨x,σ,H1,I1,r1,q1⟩
theorem ybl{cx n:Str}{np hpos:Pos}{body:List Stmt}{s0:Stmt}{suite:List Stmt}{CL:Addr}{gb:DSf}{gs:DS}(i:Nat)(C:Ctx3 P w K mg base k X)(hm:mg cx=some (.ref CL))(cc:CatchC K CL)(hb:Bf3 K mg X O body gb)(hs:Ss3 K (z8o X) O (s0::suite) gs)
 (hst:∀ i,(X i).stack=(X i).env::(X i).outer:=by intro i;rfl) (hfr:∀ i,(X i).env.frame=some (X i).env.locals:=by intro i;rfl) (hg:∀ i,Gl (X i) cx:=by intro i;rfl)
 (hN:∀ i,(X i).N.Nodup:=by intro i;exact of_decide_eq_true (by kernel_rfl)) (hi:∀ j,(X j).N[i]? = some n:=by intro j;rfl) (hk:∀ i,(X i).env.scope.names.lookup n=some .local:=by intro i;rfl) (hdb:(cx == ("__debug__" : Str))=false:=by decide) :
 S3 K X O (.Try body [.ExceptHandler (some (.Name cx np)) (some n) (s0::suite) hpos] [] [] pos) (tryS K mg CL i gb gs):=by
 obtain⟨tb,p,d⟩:=hb
 obtain⟨ts,p',d'⟩:=hs
 refine⟨zpq K CL i tb ts,λj=>?_,λj=>z7m (d j) (d' j)⟩
 have:=zvm (X:=X j) (np:=np) (hpos:=hpos) (pos:=pos) (i:=i) (hst j) (hfr j) (hg j) (by rw[C.hmg];exact hm) (by rw[C.hK];exact cc) (hN j) (hi j) (hk j) (λpins σ E W hp=>p j W pins σ E hp) (λa=>p' (j,a)) hdb
 rw[C.hK] at this
 exact this
theorem z9l(n m:Nat){x y:Str}{px py:Pos}(hN:∀ i,(X i).N.Nodup:=by intro i;exact of_decide_eq_true (by kernel_rfl))(hi:∀ i,(X i).N[n]? = some x:=by intro i;rfl)(hx:∀ i,Loc (X i).env.scope x:=by intro i;first|exact Or.inl rfl|exact Or.inr rfl)
 (hN2:∀ i,(X i).N[m]? = some y:=by intro i;rfl) (hv:∀ i,Vis (X i).env.scope y:=by intro i;first|exact Or.inl rfl|exact Or.inr (Or.inl rfl)|exact Or.inr (Or.inr rfl)) (hd:(y == ("__debug__" : Str))=false:=by decide) (hcd:(y == ("__classdict__" : Str))=false:=by decide)
 (hs:∀ i,swapsWith (.Name y py) (some (.Name x px)) pos.line (X i).env=pure false:=by intro i;rfl) (hf:∀ i,(X i).fn x=true\/(X i).env.scope.names.lookup x=some .local:=by intro i;first|exact .inl rfl|exact .inr rfl):S3 K X O (.Assign [.Name x px] (.Name y py) pos) (z0w n m) :=
 ⟨_,λi=>zdi (hN i) (hi i) (hx i) (zaq (hN2 i) (hv i) hd hcd) (hs i) (hf i),λj=>z4d⟩
theorem yaw(m:Nat){x y:Str}{c:Addr}{py p1 p2:Pos}(C:Ctx3 P w K mg base k X)(B:Blt mg)(hm:mg x=some (.ref c))(gi:∀ i,Gl (X i) "isinstance" := by intro i;rfl)(gx:∀ i,Gl (X i) x:=by intro i;rfl)
 (hN2:∀ i,(X i).N[m]? = some y:=by intro i;rfl) (hv:∀ i,Vis (X i).env.scope y:=by intro i;first|exact Or.inl rfl|exact Or.inr (Or.inl rfl)|exact Or.inr (Or.inr rfl)) (hd:(y == ("__debug__" : Str))=false:=by decide) (hcd:(y == ("__classdict__" : Str))=false:=by decide) (hd2:(x == ("__debug__" : Str))=false:=by decide) :
 E3 K X O (.Call (.Name "isinstance" p1) [.Name y py,.Name x p2] [] pos) (isXD K m (.ref c)) :=
 ⟨_,λi=>by
  have:=zvz (X:=X i) (p1:=p1) (p2:=p2) (p3:=pos) (x:=x) (cv := .ref c) (gi i) (by rw[C.hmg];exact B.isinstance) (z4u (gx i) (by rw[C.hmg];exact hm) hd2) (zaq (pos:=py) (hN2 i) (hv i) hd hcd)
  rw[C.hK] at this
  exact this,λj=>zwa⟩
theorem z7q(m:Nat){x y:Str}{cv:Value}{py p1 p2:Pos}(C:Ctx3 P w K mg base k X)(B:Blt mg)(hm:mg x=none)(hb:bootBuiltins x=some cv:=by decide +kernel)(gi:∀ i,Gl (X i) "isinstance" := by intro i;rfl)(gx:∀ i,Gl (X i) x:=by intro i;rfl)
 (hN2:∀ i,(X i).N[m]? = some y:=by intro i;rfl) (hv:∀ i,Vis (X i).env.scope y:=by intro i;first|exact Or.inl rfl|exact Or.inr (Or.inl rfl)|exact Or.inr (Or.inr rfl)) (hd:(y == ("__debug__" : Str))=false:=by decide) (hcd:(y == ("__classdict__" : Str))=false:=by decide) (hn:x ≠ "__name__" := by decide) (hd2:(x == ("__debug__" : Str))=false:=by decide) :
 E3 K X O (.Call (.Name "isinstance" p1) [.Name y py,.Name x p2] [] pos) (isXD K m cv) :=
 ⟨_,λi=>by
  have:=zvz (X:=X i) (p1:=p1) (p2:=p2) (p3:=pos) (x:=x) (cv:=cv) (gi i) (by rw[C.hmg];exact B.isinstance) (z4r (gx i) (by rw[C.hmg];exact hm) hb hn hd2) (zaq (pos:=py) (hN2 i) (hv i) hd hcd)
  rw[C.hK] at this
  exact this,λj=>zwa⟩
def Acl3{ι:Type}(X:ι->Cx)(es:List Expr)(cs:List Addr):Prop:=∀ i,PA (X i) es (tCs cs)
theorem z3e:Acl3 X [] []:=λ_=>zb9
theorem zey{x:Str}{c:Addr}{cs:List Addr}{px:Pos}(C:Ctx3 P w K mg base k X)(hm:mg x=some (.ref c))(h:Acl3 X es cs)(hg:∀ i,Gl (X i) x:=by intro i;rfl)(hd:(x == ("__debug__" : Str))=false:=by decide)(hs:∀ i,starEach (.Name x px::es) (X i).env=(false,eval (.Name x px) (X i).env)::starEach es (X i).env:=by intro i;rfl):Acl3 X (.Name x px::es) (c::cs) :=
 λi=>za7 (z8w (hg i) (by rw[C.hmg];exact hm) hd) (h i) (hs i)
theorem z9x(m:Nat){y:Str}{cs:List Addr}{py p1 p2:Pos}{x1}(C:Ctx3 P w K mg base k X)(B:Blt mg)(hc:Acl3 X es cs)(gi:∀ i,Gl (X i) "isinstance" := by intro i;rfl)
 (hN2:∀ i,(X i).N[m]? = some y:=by intro i;rfl) (hv:∀ i,Vis (X i).env.scope y:=by intro i;first|exact Or.inl rfl|exact Or.inr (Or.inl rfl)|exact Or.inr (Or.inr rfl)) (hd:(y == ("__debug__" : Str))=false:=by decide) (hcd:(y == ("__classdict__" : Str))=false:=by decide) :
 E3 K X O (.Call (.Name "isinstance" p1) [.Name y py,.Tuple es x1 p2] [] pos) (zz7 K m cs) :=
 ⟨_,λi=>by
  have:=z4p (X:=X i) (p1:=p1) (p3:=pos) (gi i) (by rw[C.hmg];exact B.isinstance) (zaq (pos:=py) (hN2 i) (hv i) hd hcd) (zkz (x1:=x1) (pos:=p2) (hc i))
  rw[C.hK] at this
  exact this,λj=>z5p⟩
theorem zty(m:Nat){y f:Str}{py:Pos}(C:Ctx3 P w K mg base k X)(hN2:∀ i,(X i).N[m]? = some y:=by intro i;rfl)(hv:∀ i,Vis (X i).env.scope y:=by intro i;first|exact Or.inl rfl|exact Or.inr (Or.inl rfl)|exact Or.inr (Or.inr rfl))(hd:(y == ("__debug__" : Str))=false:=by decide)(hcd:(y == ("__classdict__" : Str))=false:=by decide)
 (hb:∀ i,attributeBase (.Name y py) f (X i).env (eval (.Name y py) (X i).env)=eval (.Name y py) (X i).env:=by intro i;rfl):E3 K X O (.Attribute (.Name y py) f pos) (zz9 K m f) :=
 ⟨_,λi=>by
  have:=z4a (X:=X i) (pos:=pos) (f:=f) (zaq (pos:=py) (hN2 i) (hv i) hd hcd) (hb i)
  rw[C.hK] at this
  exact this,λj=>z3p⟩
end
structure EA where
 le:Addr
 nt:Addr
 nh:Addr
 ns:Addr
 tm:Addr
 np:Addr
 ng:Addr
 nr:Addr
structure ErrC (K:Qa) (mg:Str->Option Value) (ea:EA):Prop where
 le:mg "LostError" = some (.ref ea.le)
 nt:mg "NoText" = some (.ref ea.nt)
 nh:mg "NoHouse" = some (.ref ea.nh)
 ns:mg "NoStep" = some (.ref ea.ns)
 tm:mg "TooMany" = some (.ref ea.tm)
 np:mg "NoPaper" = some (.ref ea.np)
 ng:mg "NoGrammar" = some (.ref ea.ng)
 nr:mg "NoRow" = some (.ref ea.nr)
 vb:mg "ValueError" = none
 cc:CatchC K ea.le
abbrev bmV:List Value := [.type "ValueError", .type "Exception", .type "BaseException", .type "object"]
theorem ybu(v:Value):refuseLoop v "__setattr__" bmV=pure ():=by kernel_rfl
structure Init1 (K:Qa) (f:Addr) (fl:Str):Prop where
 ex:∃ (qual an0:Str) (params:Arguments) (scope:Scope) (oc kV doc pm cdv ct:Value) (od an:Option Addr) (osl:Array (Option Value)) (p1 p2 p3 p4:Pos),
  K.lookup f=some ⟨oc,od,.func (Z4 "__init__" qual params [.Assign [.Attribute (.Name "self" p1) fl p2] (.Name an0 p3) p4] scope .none kV doc pm an cdv ct),osl⟩/\J2 K cdv qual=true /\
  FnScope [("self" : Str),an0] [("self" : Str),an0] scope/\Vis scope "self" /\ Vis scope an0/\(an0 == ("__debug__" : Str))=false/\(an0 == ("__classdict__" : Str))=false /\
  ∀ us:List Value,us.length=2->bindArgs (Z4 "__init__" qual params [.Assign [.Attribute (.Name "self" p1) fl p2] (.Name an0 p3) p4] scope .none kV doc pm an cdv ct) ⟨us,[]⟩=pure (([("self" : Str),an0]:List Str).zip us)
structure Raise1 (K:Qa) (LE C:Addr) (os:List Addr) (fl:Str):Prop where
 get:XGet K C
 lost:Zk K C (.ref LE)=some true
 val:Zm K (.ref C) (.type "ValueError")=some true
 oth:∀ D ∈ os,Zm K (.ref C) (.ref D)=some false
 nof:QS K (.ref C) fl=some none
 init:∃ f,XMk K C f [fl]/\Init1 K f fl
section
variable {P : Program} {w : World} {K : Qa} {mg : Str → Option Value} {base : Heap} {C D LE f : Addr} {os : List Addr} {fl : Str}
def yap:Value->Bool
 | .str _ _=>true
 | _=>false
theorem strKeys_of{es:Array DictEntry}(h:(es.toList.all λe=>yap e.key)=true):StrKeys es:=λe he=>by
 have:=QK.mp h e (YF.mpr he)
 cases z:e.key with
 | str n t=>exact⟨n,t,rfl⟩
 | _=>rw[z] at this;cases this
theorem zyx:Zm K (.ref C) (.ref C)=some true:=if_pos (by simp)
theorem z5u{b:Bool}{cd:ClassData}(ne:(C == D)=false)(hc:YC K D=some cd)(ht:Jn K (.ref D)=some (.type "type"))(hm:Zk K C (.ref D)=some b):Zm K (.ref C) (.ref D)=some b:=by
 unfold Zm
 rw[if_neg (λz=>by have:=z0 (beq_iff_eq.mp z);rw[this] at ne;simp at ne)]
 unfold zm
 simp only[hc,ht,Option.isSome_some,beq_self_eq_true,Bool.and_self,if_true]
 exact hm
theorem z2f{b:Bool}(hm:Zk K C (.type "ValueError")=some b):Zm K (.ref C) (.type "ValueError")=some b:=by
 unfold Zm
 rw[if_neg (show ¬ (QC C == J9 "ValueError")=true from λz=>nomatch beq_iff_eq.mp z)]
 unfold zm
 simp only[show PySem.W.kitMeta "ValueError" = true by decide +kernel,if_true]
 exact hm
theorem zrd:∀ {os:List Addr},(∀ D ∈ os,Zm K (.ref C) (.ref D)=some false)->jg K (.ref C) (os.map QC)=some false
 | [],_=>rfl
 | D::os,h=>by
   rw[Q3,jg,h D Q8]
   exact zrd λE hE=>h E (Qj _ hE)
theorem znz(I:Init1 K f fl):∃ fd ps,FnOk P w K mg base CX0 1 f fd ps (zg8 K [fl])/\Binds K fd ps []:=by
 obtain⟨qual,an0,params,scope,oc,kV,doc,pm,cdv,ct,od,an,osl,p1,p2,p3,p4,lk,hcd,S,v0,v1,d1,d2,hb⟩:=I.ex
 refine⟨_,[("self" : Str),an0],zs3 lk hcd S (zs1 rfl) λA outer s H vs Q E hr h=>?_,.all hb⟩
 obtain⟨x,C,ys,rfl,hl,hc,hx,hq⟩:=h
 match ys,hl with
 | [y],_ =>
 refine⟨_,zdq (z5o (zaq (i:=0) rfl v0 (by decide) (by decide)) (zaq (i:=1) rfl v1 d1 d2) rfl),?_⟩
 exact⟨y,rfl,.ref x,rfl,x,C,rfl,hc fl Q8,.inl ⟨hx,λd hd hdx=>hq d hd hdx⟩⟩
theorem raise1_mk{N:Addr}{nm q:Str}{bs:List Value}{sn:List Str}{sub:List Value}{ab:Bool}{col:Option Bool}{dd ddL odN:Option Addr}{k0 k1 k2 k3 k5:Option Value}{c0 ocN:Value}{cdL:ClassData}{slL oslN:Array (Option Value)}{es:Array DictEntry}{ep:Nat}
 (h1:QS K (.ref C) "__getattribute__" = some (some (.builtin "BaseException.__getattribute__"))) (h2:QS K (.ref C) "__getattr__" = some none) (h3:Zk K C (.type "BaseException")=some true) (h4:Zk K C (.type "object")=some true)
 (h5:jl K C=true) (h6:QS K (.ref C) "__class__" = some (some (.builtin "object.__class__"))) (h7:jm K (.builtin "object.__class__") "__get__" = some (some (.builtin "getset_descriptor.__get__"))) (h8:jN K (.builtin "object.__class__")=some true)
 (h9:Zk K C (.ref LE)=some true) (h10:Zk K C (.type "ValueError")=some true) (h11:QS K (.ref C) fl=some none)
 (h12:K.lookup C=some (excClassObj nm q C N bs (.ref LE::bmV) true sn sub ab col dd k0 k1 k2 k3 k5 "ValueError.__new__"))
 (h13:K.lookup LE=some ⟨c0,ddL,.cls cdL,slL⟩) (h14:K.lookup cdL.ns=some ⟨ocN,odN,.dict es ep,oslN⟩) (h15:StrKeys es) (h16:nsFind es "__init__" = none)
 (h17:QS K (.ref C) "__init__" = some (some (.ref f))) (h18:Jn K (.ref f)=some (.type "function")) (h19:Z5 K (.ref C)=true) (h20:QS K (.ref C) "__setattr__" = some (some (.builtin "object.__setattr__")))
 (h21:∀ D ∈ os,Zm K (.ref C) (.ref D)=some false) (h22:Init1 K f fl):Raise1 K LE C os fl:=by
 refine⟨⟨h1,h2,h3,h4,h5,h6,h7,h8⟩,h9,z2f h10,h21,h11,f,⟨⟨nm,q,N,bs,_,bmV,sn,sub,ab,col,dd,k0,k1,k2,k3,k5, "ValueError", "ValueError.__new__", "ValueError.__init__", h12,λh x=>zsc x h13 h14 h15 h16 .base,PySem.F.excBase_ValueError⟩,h17,h18,h19,λn hn=>?_⟩,h22⟩
 rw[Qu.mp hn]
 refine⟨⟨_,by unfold YC;rw[h12],rfl,rfl,?_,λv=>?_⟩,h20,h11⟩
 ·simp[qv]
 ·rw[refuseLoop_ref,refuseLoop_ref];exact ybu v
structure ErrIn (K:Qa) (ea:EA):Prop where
 le:Q0 K mainGlobals "LostError" = some (some (.ref ea.le))
 nt:Q0 K mainGlobals "NoText" = some (some (.ref ea.nt))
 nh:Q0 K mainGlobals "NoHouse" = some (some (.ref ea.nh))
 ns:Q0 K mainGlobals "NoStep" = some (some (.ref ea.ns))
 tm:Q0 K mainGlobals "TooMany" = some (some (.ref ea.tm))
 np:Q0 K mainGlobals "NoPaper" = some (some (.ref ea.np))
 ng:Q0 K mainGlobals "NoGrammar" = some (some (.ref ea.ng))
 nr:Q0 K mainGlobals "NoRow" = some (some (.ref ea.nr))
 vb:Q0 K mainGlobals "ValueError" = some none
 cc:CatchC K ea.le
theorem errIn_mk{le nt nh ns tm np ng nr:Addr}{oc:Value}{od:Option Addr}{cd:ClassData}{sl:Array (Option Value)}(e1:Q0 K mainGlobals "LostError" = some (some (.ref le)))(e2:Q0 K mainGlobals "NoText" = some (some (.ref nt)))(e3:Q0 K mainGlobals "NoHouse" = some (some (.ref nh)))(e4:Q0 K mainGlobals "NoStep" = some (some (.ref ns)))
 (e5:Q0 K mainGlobals "TooMany" = some (some (.ref tm))) (e6:Q0 K mainGlobals "NoPaper" = some (some (.ref np))) (e7:Q0 K mainGlobals "NoGrammar" = some (some (.ref ng))) (e8:Q0 K mainGlobals "NoRow" = some (some (.ref nr))) (e9:Q0 K mainGlobals "ValueError" = some none)
 (e10:Jn K (.ref le)=some (.type "type")) (e11:K.lookup le=some ⟨oc,od,.cls cd,sl⟩) (e12:Zk K le (.type "BaseException")=some true):ErrIn K ⟨le,nt,nh,ns,tm,np,ng,nr⟩:=⟨e1,e2,e3,e4,e5,e6,e7,e8,e9,e10,⟨_,_,_,_,e11⟩,e12⟩
theorem ErrIn.errC{h:Heap}{ea:EA}(X:K.In h)(G:h.Ns mainGlobals mg)(E:ErrIn K ea):ErrC K mg ea :=
 ⟨ZR X G E.le,ZR X G E.nt,ZR X G E.nh,ZR X G E.ns,ZR X G E.tm,ZR X G E.np,ZR X G E.ng,ZR X G E.nr,QH X G E.vb,E.cc⟩
theorem init1_mk{qual an0:Str}{params:Arguments}{scope:Scope}{oc kV doc pm cdv ct:Value}{od an:Option Addr}{osl:Array (Option Value)}{p1 p2 p3 p4:Pos}
 (i1:K.lookup f=some ⟨oc,od,.func (Z4 "__init__" qual params [.Assign [.Attribute (.Name "self" p1) fl p2] (.Name an0 p3) p4] scope .none kV doc pm an cdv ct),osl⟩) (i2:J2 K cdv qual=true)
 (i3:FnScope [("self" : Str),an0] [("self" : Str),an0] scope) (i4:Vis scope "self" /\ Vis scope an0) (i5:(an0 == ("__debug__" : Str))=false/\(an0 == ("__classdict__" : Str))=false)
 (i6:∀ us:List Value,us.length=2->bindArgs (Z4 "__init__" qual params [.Assign [.Attribute (.Name "self" p1) fl p2] (.Name an0 p3) p4] scope .none kV doc pm an cdv ct) ⟨us,[]⟩=pure (([("self" : Str),an0]:List Str).zip us)):Init1 K f fl :=
 ⟨qual,an0,params,scope,oc,kV,doc,pm,cdv,ct,od,an,osl,p1,p2,p3,p4,i1,i2,i3,i4.1,i4.2,i5.1,i5.2,i6⟩
theorem no_nil:∀ D ∈ ([]:List Addr),Zm K (.ref C) (.ref D)=some false:=λ_ h=>(Qo h).elim
theorem no_cons{cd:ClassData}(ne:(C == D)=false)(hc:YC K D=some cd)(ht:Jn K (.ref D)=some (.type "type"))(hm:Zk K C (.ref D)=some false)(h:∀ D ∈ os,Zm K (.ref C) (.ref D)=some false):∀ E ∈ D::os,Zm K (.ref C) (.ref E)=some false:=λE hE=>by
 rcases Ql.mp hE with rfl|z
 ·exact z5u ne hc ht hm
 ·exact h E z
end
abbrev zi2(K:Qa)(ea:EA):Prop:=Raise1 K ea.le ea.nt [ea.ng,ea.nh,ea.np,ea.nr,ea.ns,ea.tm] "at"
def Ey3(K:Qa)(mg:Str->Option Value)(Y:Cx)(E:XK)(O:Ob)(e:Expr)(f:DEf):Prop:=∃ t:XK->TE,PE Y e (t E)/\EDf K mg O t f
section
variable {P : Program} {w : World} {K : Qa} {mg : Str → Option Value} {base : Heap} {k : Nat} {Y : Cx} {E : XK} {O : Ob} {a : Expr} {es : List Expr} {ga : DA} {fa : DE} {ff : DEf} {pos p : Pos}
theorem zsq(h:E3 K (λ_:Unit=>Y.nox) (λ_:Unit=>O) a fa):Ey3 K mg Y E O a (upE fa):=let ⟨t,p,d⟩:=h; ⟨λ_=>t,PE.nox (p ()),zv2 (d ())⟩
theorem z6a{k' n:Nat}{x:Str}{ps:List Str}{F:List PyData->(R->Prop)->Prop}(Bd:Bdy P w Y E)(C:Ctx3 P w K mg base k (λ_:Unit=>Y.nox))(D:Def3x P w K mg base k' x ps (spX K mg (λ_=>True) n F))(ha:A3 K (λ_:Unit=>Y.nox) (λ_:Unit=>O) (a::es) ga)(hk:k'<=k:=by decide)(hg:Gl Y x:=by rfl)
 (hdb:(x == ("__debug__" : Str))=false:=by decide) (he:starEach (a::es) Y.env=(false,eval a Y.env)::starEach es Y.env:=by rfl) (hpl:(backTo pos (starEach es Y.env)).any (·.1)=false:=by rfl):Ey3 K mg Y E O (.Call (.Name x p) (a::es) [] pos) (calX n F ga):=by
 obtain⟨f,fd,G,m,kp,bn⟩:=D.ex
 obtain⟨t,q,d⟩:=ha
 refine⟨λE=>zd6 (spX K mg (λ_=>True) n F) [] E t,?_,zom trivial (d ())⟩
 have hP:Y.prog=P:=C.hP ()
 have hw:Y.w=w:=C.hw ()
 have hK:Y.K=K:=C.hK ()
 have hmg:Y.mg=mg:=C.hmg ()
 have hb:Y.base=base:=C.hb ()
 have G':FnOk Y.prog Y.w Y.K Y.mg Y.base (CX1 P w) k f fd ps (spX K mg (λ_=>True) n F):=by rw[hP,hw,hK,hmg,hb];exact G.mono hk
 exact zln G' (C.room ()) hg (by rw[hmg];exact m) (by rw[hK];exact kp) (by rw[hK];exact bn) .nil Bd.pass (PA.nox (q ())) hdb he hpl
theorem z1l{H₀ H:Hp}{A:Nat->Addr->Prop}{σ:St}{ρ:DSt}{Q:R->Prop}(r:Rep K O H₀ A H σ ρ)(XP:znl K mg O H₀ E Q):EX K mg O H E Q:=λH' C dx d s o q=>XP H' C dx d (r.st.trans s) (o.ahead r.ok r.p0 r.st) q
def retX(f:DEf):DS:=λDd ρ=>f ρ Dd.rt Dd.rt
theorem ybm(h:Ey3 K mg Y E O a ff):Sx3 K mg Y E O (.Return (some a) pos) (retX ff):=let ⟨t,p,d⟩:=h; ⟨tRet (t E),zg4 p,λH₀ A σ H ρ D Dd r q P XP=>zr8 d E H₀ A σ H ρ D Dd Dd.rt r q P (z1l r XP)⟩
end
end L3
namespace HK
open PySem PySem.Spec PyProof.Rows
mutual
def hk:PyData->Bool
 | .int _=>true
 | .str _=>true
 | .tuple ds=>hks ds
 | _=>false
def hks:List PyData->Bool
 | []=>true
 | d::ds=>hk d && hks ds
end
mutual
def hD(w:World):PyData->Int
 | .int i=>hashInt i
 | .str x=>hashStr w x
 | .tuple ds=>reduceHash (Builtin.Tuple.tupleHashOf (hDs w ds))
 | _=>0
def hDs(w:World):List PyData->List Int
 | [] => []
 | d::ds=>hD w d::hDs w ds
end
mutual
def bv:PyData->Bool
 | .int _=>true
 | .tuple ds=>bvs ds
 | _=>false
def bvs:List PyData->Bool
 | []=>true
 | d::ds=>bv d && bvs ds
end
mutual
def dr:PyData->Nat
 | .tuple ds=>drs ds+1
 | _=>1
def drs:List PyData->Nat
 | []=>0
 | d::ds=>dr d+drs ds
end
end HK
namespace HK
open PySem PySem.Spec PyProof.Rows PySem.W
mutual
def dlt:PyData->PyData->Bool
 | .int i,.int j=>decide (i<j)
 | .str x,.str y=>decide (x.cps.toList<y.cps.toList)
 | .tuple xs,.tuple ys=>dlts xs ys
 | _,_=>false
def dlts:List PyData->List PyData->Bool
 | [],[]=>false
 | [],_::_=>true
 | _::_,[]=>false
 | x::xs,y::ys=>if QP x y then dlts xs ys else dlt x y
end
end HK
namespace L3
open PySem PySem.Spec
open PyProof.Rows hiding St
open L2
theorem zea(c:Nat):∀ t:List Nat,∃ ws:List (List Nat),ws ≠ []/\t=zat c ws/\(∀ w ∈ ws,c ∉ w)/\(∀ w ∈ ws,w.length<=t.length/\∀ x ∈ w,x ∈ t)/\ws.length<=t.length+1
 | []=>⟨[[]],by simp,rfl,by simp,by simp,by simp⟩
 | x::t=>by
   obtain⟨ws,h1,h2,h3,h4,h5⟩:=zea c t
   cases ws with
   | nil=>exact absurd rfl h1
   | cons w r =>
     by_cases hx:x=c
     ·subst hx
      refine⟨[]::w::r,by simp,?_,?_,?_,by simp at h5 ⊢; omega⟩
      ·rw[zca (by simp),<- h2];rfl
      ·intro v hv
       rcases Ql.mp hv with rfl|hv
       ·simp
       ·exact h3 v hv
      ·intro v hv
       rcases Ql.mp hv with rfl|hv
       ·simp
       ·obtain⟨a,b⟩:=h4 v hv
        exact⟨by simp;omega,λy hy=>Qj _ (b y hy)⟩
     ·refine⟨(x::w)::r,by simp,?_,?_,?_,by simp at h5 ⊢; omega⟩
      ·rw[h2]
       cases r with
       | nil=>rfl
       | cons y r=>rfl
      ·intro v hv
       rcases Ql.mp hv with rfl|hv
       ·exact λz=>by rcases Ql.mp z with e|z;exact hx e.symm;exact h3 w Q8 z
       ·exact h3 v (Qj _ hv)
      ·intro v hv
       rcases Ql.mp hv with rfl|hv
       ·obtain⟨a,b⟩:=h4 w Q8
        refine⟨by simp;omega,λy hy=>?_⟩
        rcases Ql.mp hy with rfl|hy
        ·exact Q8
        ·exact Qj _ (b y hy)
       ·obtain⟨a,b⟩:=h4 v (Qj _ hv)
        exact⟨by simp;omega,λy hy=>Qj _ (b y hy)⟩
mutual
def solL:PyData->Bool
 | .none=>true
 | .int _=>true
 | .str _=>true
 | .tuple ds=>zd5 ds
 | .list ds=>zd5 ds
 | _=>false
def zd5:List PyData->Bool
 | []=>true
 | d::ds=>solL d && zd5 ds
end
mutual
theorem zhv:∀ d e:PyData,solL d=true->solL e=true->(QP d e=true↔d=e)
 | .none,e,_,h=>by cases e <;> simp[QP,solL] at *
 | .int i,e,_,h=>by cases e <;> simp[QP,solL] at *
 | .str x,e,_,h=>by cases e <;> simp[QP,solL] at *
 | .tuple ds,e,h0,h=>by
   cases e with
   | tuple es =>
     have:=zh9 ds es (by simpa[solL] using h0) (by simpa[solL] using h)
     simp only[QP]
     rw[this]
     exact⟨λz=>by rw[z],λz=>by cases z;rfl⟩
   | none=>simp[QP]
   | int _=>simp[QP]
   | str _=>simp[QP]
   | bool _=>simp[solL] at h
   | list _=>simp[QP]
   | dict _=>simp[solL] at h
 | .list ds,e,h0,h=>by
   cases e with
   | list es =>
     have:=zh9 ds es (by simpa[solL] using h0) (by simpa[solL] using h)
     simp only[QP]
     rw[this]
     exact⟨λz=>by rw[z],λz=>by cases z;rfl⟩
   | none=>simp[QP]
   | int _=>simp[QP]
   | str _=>simp[QP]
   | bool _=>simp[solL] at h
   | tuple _=>simp[QP]
   | dict _=>simp[solL] at h
 | .bool _,_,h,_=>by simp[solL] at h
 | .dict _,_,h,_=>by simp[solL] at h
theorem zh9:∀ ds es:List PyData,zd5 ds=true->zd5 es=true->(YE ds es=true↔ds=es)
 | [],[],_,_=>by simp[YE]
 | [],_::_,_,_=>by simp[YE]
 | _::_,[],_,_=>by simp[YE]
 | d::ds,e::es,h,h'=>by
   simp only[zd5,Qp] at h h'
   simp only[YE,Qp]
   rw[zhv d e h.1 h'.1,zh9 ds es h.2 h'.2]
   simp
end
structure Sl (n:Nat) (d:PyData):Prop where
 lay:d.canLay0=true
 dep:d.depth<=n
 sol:solL d=true
theorem zwt(i:Int):Sl 0 (.int i):=⟨rfl,Qt _,rfl⟩
theorem zcs{x:Str}(h:Jf x=true):Sl 0 (.str x):=⟨h,Qt _,rfl⟩
theorem zl9{α:Type}{f:α->PyData}:∀ {l:List α},(∀ a ∈ l,solL (f a)=true)->zd5 (l.map f)=true
 | [],_=>rfl
 | a::l,h=>by rw[Q3,zd5,h a Q8,zl9 λx hx=>h x (Qj _ hx)];rfl
theorem yaf{α:Type}{f:α->PyData}{l:List α}{n:Nat}(h:∀ a ∈ l,Sl n (f a)):Sl (n+1) (.tuple (l.map f)):=by
 refine⟨zh1 λa ha=>(h a ha).lay,?_,?_⟩
 ·rw[JV]
  have:=zij (f:=f) (n:=n) (l:=l) λa ha=>(h a ha).dep
  omega
 ·rw[solL];exact zl9 λa ha=>(h a ha).sol
theorem Sl.list{n:Nat}{ds:List PyData}(h:Sl n (.tuple ds)):Sl n (.list ds):=by
 obtain⟨a,b,c⟩:=h
 exact⟨by simpa[J5] using a,by simpa[JV] using b,by simpa[solL] using c⟩
theorem zh4(n:Nat):Sl (n+1) (.tuple []):=⟨rfl,by simp[JV,Yk],rfl⟩
theorem zdt{n:Nat}{d:PyData}{ds:List PyData}(h:Sl n d)(h':Sl (n+1) (.tuple ds)):Sl (n+1) (.tuple (d::ds)):=by
 obtain⟨a1,a2,a3⟩:=h
 obtain⟨b1,b2,b3⟩:=h'
 simp only[J5,JV,solL] at b1 b2 b3
 refine⟨?_,?_,?_⟩
 ·simp only[J5,ZC,a1,b1];rfl
 ·simp only[JV,Yk];omega
 ·simp only[solL,zd5,a3,b3];rfl
theorem Sl.okD{n:Nat}{d:PyData}(h:Sl n d)(hn:n<=60:=by decide):L3.okD d=true:=by
 unfold L3.okD
 rw[h.lay]
 have:=h.dep
 simp
 omega
theorem znj{n n':Nat}{neg:Bool}{d e:PyData}(h:Sl n d)(h':Sl n' e)(hn:n<=60:=by decide){q:Bool}(hq:q=true↔d=e):eqF neg d e=some (.o (.bool (if neg then !q else q))):=by
 unfold eqF
 rw[if_pos (by rw[h.okD hn,h'.lay];rfl)]
 have e1:QP d e=q:=by
  have:=(zhv d e h.sol h'.sol).trans hq.symm
  cases h1:QP d e <;> cases q <;> simp_all
 rw[e1]
theorem zmx:∀ {l:List PyData},zd5 l=true->∀ y ∈ l,solL y=true
 | [],_,y,hy=>(Qo hy).elim
 | a::l,hl,y,hy=>by
   simp only[zd5,Qp] at hl
   rcases Ql.mp hy with z|z
   ·rw[z];exact hl.1
   ·exact zmx hl.2 y z
theorem ztn{n:Nat}{d:PyData}{es:List PyData}(h:Sl n d)(hs:zd5 es=true){q:Bool}(hq:q=true↔d ∈ es):(es.any λy=>QP y d)=q:=by
 have:(es.any λy=>QP y d)=true↔q=true:=by
  rw[hq,List.any_eq_true]
  constructor
  ·rintro⟨y,hy,e⟩
   rw[<- (zhv y d (zmx hs y hy) h.sol).mp e]
   exact hy
  ·intro hd
   exact⟨d,hd,(zhv d d h.sol h.sol).mpr rfl⟩
 exact JD.mpr this
theorem ybk{n n':Nat}{neg:Bool}{d:PyData}{es:List PyData}(h:Sl n d)(h':Sl n' (.tuple es))(hn:n<=60:=by decide){q:Bool}(hq:q=true↔d ∈ es):inF neg d (.list es)=some (.o (.bool (if neg then !q else q))):=by
 have e1:=ztn h (by simpa[solL] using h'.sol) hq
 have l1:ZC es=true:=by simpa[J5] using h'.lay
 have e2:inF neg d (.list es)=if(L3.okD d && ZC es)=true then some (.o (.bool (if neg then !es.any (λy=>QP y d) else es.any λy=>QP y d))) else none:=by
  cases d <;> rfl
 rw[e2,if_pos (by rw[h.okD hn,l1];rfl),e1]
theorem zo0{n n':Nat}{neg:Bool}{d:PyData}{es:List PyData}(h:Sl n d)(h':Sl n' (.tuple es))(hn:n<=60:=by decide){q:Bool}(hq:q=true↔d ∈ es):inF neg d (.tuple es)=some (.o (.bool (if neg then !q else q))):=by
 have e1:=ztn h (by simpa[solL] using h'.sol) hq
 have l1:ZC es=true:=by simpa[J5] using h'.lay
 have e2:inF neg d (.tuple es)=if(L3.okD d && ZC es)=true then some (.o (.bool (if neg then !es.any (λy=>QP y d) else es.any λy=>QP y d))) else none:=by
  cases d <;> rfl
 rw[e2,if_pos (by rw[h.okD hn,l1];rfl),e1]
theorem iteB{b:Bool}{A B:Prop}(ht:b=true->A)(hf:b=false->B):if b=true then A else B:=by
 cases b with
 | true=>exact iteT (ht rfl)
 | false=>exact iteF (hf rfl)
theorem zof{α:Type}(as:List α)(g:α->Bool):(if false=true then(as.map g).any id else(as.map g).all id)=as.all g:=by rw[if_neg Qc,List.all_map];rfl
theorem zo1{α:Type}(as:List α)(g:α->Bool):[Zo (as.map λa => .bool (g a))] = [Zo ((as.map g).map YH)]:=by rw[Q5];rfl
theorem eqI{i j:Int}:eqF false (.int i) (.int j)=some (.o (.bool (decide (i=j)))):=by rw[zlg,if_neg Qc]
theorem neI{i j:Int}:eqF true (.int i) (.int j)=some (.o (.bool (!decide (i=j)))):=by rw[zlg,if_pos rfl]
theorem dr{m:Int}{P:Int->Prop}(h0:0<m)(h1:m<1073741824)(q:∀ k:Nat,(k:Int)<m->P (k:Int)):0<m/\m<1073741824/\∀ k:Int,0<=k->k<m->P k :=
 ⟨h0,h1,λk k0 k1=>by obtain⟨n,rfl⟩:=Zn k0;exact q n k1⟩
theorem zf8{k:Nat}(h:(k:Int)<26):k<abc.length:=by rw[show abc.length=26 by decide];omega
theorem mem_abc{c:Nat}:c ∈ abc↔97<=c/\c<=122:=by
 unfold abc
 rw[Qz]
 constructor
 ·rintro⟨a,ha,rfl⟩
  have:=YV.mp ha
  omega
 ·rintro⟨h1,h2⟩
  exact⟨c - 97,YV.mpr (by omega),by omega⟩
theorem zgo{b:Bool}(h:(!b)=true):b=false:=by cases b with|true=>cases h|false=>rfl
theorem zfj{b:Bool}(h:(!b)=false):b=true:=by cases b with|true=>rfl|false=>cases h
theorem yca{neg:Bool}{x:ZV}(h:Jf x=true):eqF neg (.str x) (.str x)=some (.o (.bool (!neg))):=by
 rw[zrh h h,beq_self_eq_true]
 cases neg <;> rfl
theorem ya5{neg:Bool}{x y:ZV}(h:(Jf x && Jf y)=true)(n:(x == y)=false):eqF neg (.str x) (.str y)=some (.o (.bool neg)):=by
 obtain⟨a,b⟩:=QR.mp h
 rw[zrh a b,n]
 cases neg <;> rfl
def zko:List PyData->Bool
 | []=>true
 | .str x::ds=>Jf x && zko ds
 | _=>false
def zc1(x:ZV):List PyData->Bool
 | []=>false
 | .str y::ds=>x == y || zc1 x ds
 | _::ds=>zc1 x ds
theorem zlv:∀ {ds:List PyData},zko ds=true->Sl 1 (.tuple ds)
 | [],_=>zh4 0
 | .str x::ds,h=>by
   obtain⟨a,b⟩:=QR.mp h
   exact zdt (zcs a) (zlv b)
theorem inStrs_iff{x:ZV}:∀ {ds:List PyData},zc1 x ds=true ↔ .str x ∈ ds
 | []=>by simp[zc1]
 | .str y::ds=>by
   rw[zc1,JF,beq_iff_eq,inStrs_iff (ds:=ds),Ql]
   constructor
   ·rintro(rfl|h)
    ·exact .inl rfl
    ·exact .inr h
   ·rintro(h|h)
    ·exact .inl (qc h)
    ·exact .inr h
 | .none::ds=>by show zc1 x ds=true↔_;rw[inStrs_iff (ds:=ds)];simp
 | .int _::ds=>by show zc1 x ds=true↔_;rw[inStrs_iff (ds:=ds)];simp
 | .bool _::ds=>by show zc1 x ds=true↔_;rw[inStrs_iff (ds:=ds)];simp
 | .list _::ds=>by show zc1 x ds=true↔_;rw[inStrs_iff (ds:=ds)];simp
 | .tuple _::ds=>by show zc1 x ds=true↔_;rw[inStrs_iff (ds:=ds)];simp
 | .dict _::ds=>by show zc1 x ds=true↔_;rw[inStrs_iff (ds:=ds)];simp
theorem ybs{neg:Bool}{x:ZV}{ds:List PyData}(h:(Jf x && zko ds && zc1 x ds)=true):inF neg (.str x) (.tuple ds)=some (.o (.bool (!neg))):=by
 obtain⟨h,c⟩:=QR.mp h
 obtain⟨a,b⟩:=QR.mp h
 rw[zo0 (zcs a) (zlv b) (by decide) (q:=true) ⟨λ_=>inStrs_iff.mp c,λ_=>rfl⟩]
 cases neg <;> rfl
theorem ybv{neg:Bool}{x:ZV}{ds:List PyData}(h:(Jf x && zko ds && !zc1 x ds)=true):inF neg (.str x) (.tuple ds)=some (.o (.bool neg)):=by
 obtain⟨h,c⟩:=QR.mp h
 obtain⟨a,b⟩:=QR.mp h
 rw[zo0 (zcs a) (zlv b) (by decide) (q:=false) ⟨λz=>(Qc z).elim,λz=>by rw[inStrs_iff.mpr z] at c;cases c⟩]
 cases neg <;> rfl
theorem zwc{α:Type}{enc:α->PyData}{g:DG}{h:Nat}{ft:DT}{fe:DE}{ρ:DSt}{Q:List PyData->Prop}{as:List α}{p:α->Bool}{e:α->PyData}
 (step:∀ a ∈ as,∀ (Pn:Prop) (Py:R->Prop),(p a=false->Pn)->(p a=true->∀ r,r.d=e a->Py r)->g (enc a) (Qm h none++ρ) λρ2=>ft ρ2 λt=>if t=true then fe ρ2 Py else Pn)
 (hz:as.length<=sizeLine) (q:Q ((as.filter p).map e)):zbt h g ft fe ρ Q (as.map enc) []:=by
 have key:∀ (l:List α) (acc:List PyData),(∀ a ∈ l,a ∈ as)->acc.length+l.length<=sizeLine->Q (acc++(l.filter p).map e)->zbt h g ft fe ρ Q (l.map enc) acc:=by
  intro l
  induction l with
  | nil=>intro acc _ _ q;show Q acc;simpa using q
  | cons a l ih =>
    intro acc hs hz q
    rw[Qy] at hz
    refine step a (hs a Q8) (zbt h g ft fe ρ Q (l.map enc) acc) (λr=>acc.length<sizeLine/\zbt h g ft fe ρ Q (l.map enc) (acc ++ [r.d])) (λhp=>?_) (λhp r hr=>⟨by omega,?_⟩)
    ·refine ih acc (λb hb=>hs b (Qj _ hb)) (by omega) ?_
     rw[qX,hp] at q
     exact q
    ·refine ih _ (λb hb=>hs b (Qj _ hb)) (by rw[Qf,Z8];omega) ?_
     rw[qX,hp,if_pos rfl,Q3] at q
     rw[hr,Qw]
     exact q
 exact key as [] (λ_ h=>h) (by simpa using hz) (by simpa using q)
end L3
namespace L3
open PySem PySem.Spec
open PyProof.Rows hiding St
open L2
open SX
def tSSw(K:Qa)(te:TE):TE:=λσ H Q=>te σ H λv H1=>∃ ys:List Str,TxsV K H1 v ys/\ys.length<=4090/\(∀ zs:List Str,zs.Nodup->(∀ k ∈ zs,k ∈ ys)->zs.length<64)/\∀ (zs:List Str) p,zs.Nodup->(∀ k,k ∈ zs↔k ∈ ys)->sortedS zs=true->H1 p=none->Q (.ref p) (upd H1 p (.lst (zs.map V.str)))
theorem zp8{X:Cx}{e:Expr}{te:TE}{p1 p2 p3 p4:Pos}(hc:X.calm=true)(gl:Gl X "sorted")(ml:X.mg "sorted" = none)(gr:Gl X "set")(mr:X.mg "set" = none)(he:PE X e te)
 (s1:starEach [.Call (.Name "set" p2) [e] [] p3] X.env=(false,eval (.Call (.Name "set" p2) [e] [] p3) X.env)::starEach [] X.env:=by rfl) (s2:starEach [e] X.env=(false,eval e X.env)::starEach [] X.env:=by rfl) :
 PE X (.Call (.Name "sorted" p1) [.Call (.Name "set" p2) [e] [] p3] [] p4) (tSSw X.K te):=by
 intro pins s σ H Q I h
 have calm:=I.ok.hd hc
 refine wpAny_Call_Name_kw (zcf I gl ml zmi ?_)
 refine Z0 ?_ s1
 rw[s1]
 show wpAny _ _ (spliced ((false,eval (.Call (.Name "set" p2) [e] [] p3) X.env) :: [])) _ _ s
 refine Zi ?_
 refine wpAny_Call_Name_kw (zcf I gr mr (u := .type "set") rfl ?_)
 refine Zt ?_ s2
 rw[s2]
 show wpAny _ _ (spliced ((false,eval e X.env) :: [])) _ _ s
 refine Zi (thn (he pins s σ H _ I h) λu s' ⟨y,H1,I1,r1,ys,hy,hz,hfew,q⟩=>?_)
 refine ZA ?_
 have fin:∀ (n:Nat) (val:Nat->Str) (h':Heap) (tk:Nat) (es:Es) (ep:Nat) (t:SetTable),(∀ k,(∃ j,j<n/\val j=k)↔k ∈ ys)->Tx X.prog X.w h' s'.heap.objs.size es ep t->(∀ x,x ∈ keys es↔∃ j,j<n/\val j=x)->Ext s'.heap h' ->
  wpAny (model X.prog X.w) X.A (spliced []) (λa s₁=>wpAny (model X.prog X.w) X.A (call (.builtin "sorted") (QC s'.heap.objs.size::a)) (EP X pins σ Q) X.xe s₁) X.xe { s' with heap:=h',toks:=tk }:=λn val h' tk es ep t hv T hk ex=>by
  have mem:∀ k,k ∈ keys es↔k ∈ ys:=λk=>(hk k).trans (hv k)
  have z64:es.size<64:=by
   have:=hfew _ T.nd (λk hk=>(mem k).mp hk)
   simpa[keys] using this
  refine ZA ?_
  refine zj9 (s:={ s' with heap:=h',toks:=tk }) calm T z64 λh2 d2 tk2 out c zs l ex2 hl el st zp zs'=>?_
  have lt':s'.heap.objs.size<=l:=Q2 (Jj (T.lts (s:={ s' with heap:=h',toks:=tk }))) hl
  have I2:=(Inv.draw (I1.laid (a:=l) (o := .lst (zs.map V.str)) (t':=tk2) (h':=h2) (λb o e=>ex2 b o (ex b o e)) lt' ?_) d2)
  ·exact⟨.ref l,_,I2,rfl,q zs l (zp.nodup_iff.mpr T.nd) (λk=>by rw[zp.mem_iff];exact mem k) zs' (I1.hok.fresh lt')⟩
  ·refine⟨?_,out.toList,c,zf6 st,by simpa using el⟩
   rw[Qe,zp.length_eq]
   simp only[keys,Qe,Ja]
   exact fits_of_scanBound T.lt
 rcases hy with ⟨x,rfl,rfl⟩|⟨a,rfl,hq⟩
 ·obtain⟨tk,rfl⟩:=r1
  have hn:x.cps.size<=4090:=by simpa using hz
  refine zgn (T := "str") (val:=λi=>sg (x.cps.getD i 0)) calm (λ_ _=>rfl) ?_ ?_ (by decide) (zwo x tk) (λi v hv=>?_) (by unfold scanBound;omega) λh' tk' es ep t T hk ex=>fin x.cps.size _ h' tk' es ep t (λk=>?_) T hk ex
  ·rw[isSubtype_type];kernel_rfl
  ·rw[isSubtype_type];kernel_rfl
  ·obtain⟨c,u,hc,rfl⟩:=hv
   exact⟨u,by rw[JL,hc];rfl⟩
  ·constructor
   ·rintro⟨j,hj,rfl⟩
    exact Qz.mpr ⟨x.cps[j],by simp,by simp[hj]⟩
   ·intro hk
    obtain⟨c,hc,rfl⟩:=Qz.mp hk
    obtain⟨j,hj,e⟩:=Ye hc
    have hj':j<x.cps.size:=by simpa using hj
    exact⟨j,hj',by simp at e;simp[hj',e]⟩
 ·cases r1
  obtain⟨its,rv,pl,hz2⟩:=I1.list hq
  have sa:=zhp rv
  have ln:its.length=ys.length:=by have:=rv.length;simp at this;exact this.symm
  refine zgn (T := "list") (val:=λi=>ys.getD i (sg 0)) calm (λs₁ ex=>?_) F.sub_list_set jZ (by decide) (zuv pl.isList) (λi v hv=>?_) (by unfold scanBound;simp;omega) λh' tk' es ep t T hk ex=>fin _ _ h' tk' es ep t (λk=>?_) T hk ex
  ·obtain⟨o,e,c,_⟩:=pl.isList
   exact⟨o,ex _ o e,c⟩
  ·have hv':its[i]? = some v:=by simpa using hv
   have hi:i<ys.length:=by
    obtain⟨z,_⟩:=QE.mp hv'
    omega
   obtain⟨u,hu,ru⟩:=rv.get (i:=i) (x:=V.str ys[i]) (by rw[Q4,Qk hi];rfl)
   rw[hv'] at hu
   cases hu
   obtain⟨u,rfl⟩:=ru
   exact⟨u,by rw[Q6,Qk hi];rfl⟩
  ·have e:its.toArray.size=ys.length:=by simpa using ln
   rw[e]
   constructor
   ·rintro⟨j,hj,rfl⟩
    rw[Q6,Qk hj]
    exact QQ hj
   ·intro hk
    obtain⟨j,hj,e⟩:=Ye hk
    exact⟨j,hj,by rw[Q6,Qk hj];exact e⟩
def ssDw(f:DE):DE:=λρ Q=>f ρ λr=>∃ ys:List Str,TxsD r.d ys/\ys.length<=4090/\(∀ zs:List Str,zs.Nodup->(∀ k ∈ zs,k ∈ ys)->zs.length<64)/\∀ zs:List Str,zs.Nodup->(∀ k,k ∈ zs↔k ∈ ys)->sortedS zs=true->Q (.n (zs.map .str))
theorem z7l{K:Qa}{O:Ob}{te:TE}{f:DE}(h:ED K O te f):ED K O (tSSw K te) (ssDw f):=λσ H ρ Q Qd S hf k=>by
 refine h σ H ρ _ _ S hf λv H1 r s1 o1 ⟨ys,hy,hl,hfew,q⟩=>?_
 have i:=o1.is S.ok S.p
 have ok:=S.ok
 have p1:=s1.p S.p
 refine⟨ys,?_,hl,hfew,λzs p h1 h2 h3 hn=>?_⟩
 ·rcases hy with ⟨x,e,rfl⟩|e
  ·rw[e] at i
   cases i
   exact .inl ⟨x,rfl,rfl⟩
  ·rw[e] at i
   cases i with
   | list f1 a1 b1 =>
     rw[zdu b1] at a1
     exact .inr ⟨_,rfl,.of a1⟩
 ·obtain⟨a1,a2⟩:=zdn (K:=K) ok hn (zfo zs)
  exact k _ _ _ (s1.trans a1) (a2.ahead ok S.p s1) (q zs h1 h2 h3)
theorem zsj{ι κ:Type}{P:Program}{w:World}{K:Qa}{mg:Str->Option Value}{base:Heap}{k:Nat}{X:ι->Cx}{O:κ->Ob}{a:Expr}{fa:DE}{p1 p2 p3 p4:Pos}(C:Ctx3 P w K mg base k X)(B:Blt mg)(ha:E3 K X O a fa)(g1:∀ i,Gl (X i) "sorted" := by intro i;rfl)(g2:∀ i,Gl (X i) "set" := by intro i;rfl)
 (s1:∀ i,starEach [.Call (.Name "set" p2) [a] [] p3] (X i).env=(false,eval (.Call (.Name "set" p2) [a] [] p3) (X i).env)::starEach [] (X i).env:=by intro i;rfl) (s2:∀ i,starEach [a] (X i).env=(false,eval a (X i).env)::starEach [] (X i).env:=by intro i;rfl) :
 E3 K X O (.Call (.Name "sorted" p1) [.Call (.Name "set" p2) [a] [] p3] [] p4) (ssDw fa) :=
 let ⟨_,q,d⟩:=ha
 ⟨tSSw K _,λi=>by
  have h:=zp8 (X:=X i) (p1:=p1) (p2:=p2) (p3:=p3) (p4:=p4) (C.calm i) (g1 i) (by rw[C.hmg];exact B.sorted) (g2 i) (by rw[C.hmg];exact B.set) (q i) (s1 i) (s2 i)
  rw[C.hK] at h
  exact h,λj=>z7l (d j)⟩
section
variable {ι κ : Type} {P : Program} {w : World} {K : Qa} {mg : Str → Option Value} {base : Heap} {k : Nat} {X : ι → Cx} {O : κ → Ob} {a b : Expr} {fa fb : DE} {pos : Pos}
def zuq(fa fb fi:DE):DE:=λρ Q=>fa ρ λr0=>fb ρ λr1=>fi ρ λri=>∃ r,((ri.d = .int 0/\r=r0)\/(ri.d = .int 1/\r=r1))/\Q r
theorem zyu{O:Ob}{ta tb ti:TE}{fa fb fi:DE}(ha:ED K O ta fa)(hb:ED K O tb fb)(hi:ED K O ti fi):ED K O (tOp (rIx K) (tLst (zbb ta (zbb tb tNil))) ti) (zuq fa fb fi):=λσ H ρ Q Qd S hf k=>by
 refine ha σ H ρ _ _ S hf λv H1 r0 s1 o1 q1=>?_
 refine hb σ H1 ρ _ _ (S.stp s1) q1 λu H2 r1 s2 o2 q2=>?_
 have p1:=s1.p S.p
 have p2:=s2.p p1
 refine⟨by rw[sizeLine_eq];simp,λl hl=>?_⟩
 have s3:Stp O H2 (upd H2 l (.lst [v,u])) := .new S.ok hl _
 refine hi σ _ ρ _ _ (((S.stp s1).stp s2).stp s3) q2 λz H4 ri s4 o4 q4=>?_
 have iz:=o4.is S.ok (s3.p p2)
 have m:¬ O.M l:=λm=>by obtain⟨o,z⟩:=S.ok.here H2 l p2 m;rw[hl] at z;cases z
 have hl4:H4 l=some (.lst [v,u]):=s4.s l _ zap m
 have st:=((s1.trans s2).trans s3).trans s4
 obtain⟨r,q4,q⟩:=q4
 rcases q4 with ⟨e,rfl⟩|⟨e,rfl⟩
 ·rw[e] at iz
  cases iz
  refine .inl ⟨_,_,_,v,rfl,rfl,.of hl4,rfl,k v H4 _ st ?_ q⟩
  exact Out.stp S.ok S.p s1 ((s2.trans s3).trans s4) o1
 ·rw[e] at iz
  cases iz
  refine .inl ⟨_,_,_,u,rfl,rfl,.of hl4,rfl,k u H4 _ st ?_ q⟩
  exact(Out.stp S.ok p1 s2 (s3.trans s4) o2).ahead S.ok S.p s1
theorem z5v{c:Expr}{fc:DE}{lp:Pos}(C:Ctx3 P w K mg base k X)(ha:E3 K X O a fa)(hb:E3 K X O b fb)(hc:E3 K X O c fc)(hs:zha c:=by intro _ _;rfl)(h1:∀ i,starEach [a,b] (X i).env=(false,eval a (X i).env)::starEach [b] (X i).env:=by intro i;rfl)(h2:∀ i,starEach [b] (X i).env=(false,eval b (X i).env)::starEach [] (X i).env:=by intro i;rfl) :
 E3 K X O (.Subscript (.List [a,b] lp) c pos) (zuq fa fb fc) :=
 let ⟨_,p1,d1⟩:=ha;let ⟨_,p2,d2⟩:=hb;let ⟨_,p3,d3⟩:=hc
 ⟨tOp (rIx K) _ _,λi=>by have h:=zby (pos:=pos) (zkh (X:=X i)) (zj0 (pos:=lp) (za7 (p1 i) (za7 (p2 i) zb9 (h2 i)) (h1 i))) (p3 i) hs;rw[C.hK] at h;exact h,λj=>zyu (d1 j) (d2 j) (d3 j)⟩
end
theorem z7w{k:Nat}(hk:(k:Int)<2){r0 r1:R}{P:R->Prop}(h0:P r0)(h1:P r1):∃ r,P r/\(((R.o (ZO (k:Int))).d=ZO 0/\r=r0)\/((R.o (ZO (k:Int))).d=ZO 1/\r=r1)):=by
 rcases(show k=0\/k=1 by omega) with rfl|rfl
 ·exact⟨r0,h0,.inl ⟨rfl,rfl⟩⟩
 ·exact⟨r1,h1,.inr ⟨rfl,rfl⟩⟩
structure Lng (w:List Nat):Prop where
 len:w.length<=100000
 sgn:∀ c ∈ w,c<128
theorem Lng.ok{w:List Nat}(h:Lng w):Jf (tx w)=true:=by
 unfold Jf tx
 simp only[List.all_toArray,QK,decide_eq_true_eq]
 intro c hc
 have:=h.sgn c hc
 omega
theorem zde{w:List Nat}(h:Lng w):lenF [QX (tx w)]=some (.o (.int (w.length:Nat))):=zgc (Q2 h.len (by decide))
noncomputable def cutW(c:Nat)(t:List Nat):List (List Nat):=Classical.choose (zea c t)
section
variable (c : Nat) (t : List Nat)
theorem zlj:cutW c t ≠ []:=(Js (zea c t)).1
theorem zfa:zat c (cutW c t)=t:=(Js (zea c t)).2.1.symm
theorem zwh:∀ w ∈ cutW c t,c ∉ w:=(Js (zea c t)).2.2.1
theorem zeh:∀ w ∈ cutW c t,w.length<=t.length/\∀ x ∈ w,x ∈ t:=(Js (zea c t)).2.2.2.1
theorem zdj:(cutW c t).length<=t.length+1:=(Js (zea c t)).2.2.2.2
theorem zd8:0<(cutW c t).length:=Yd.mpr (zlj c t)
theorem zm7:JX (tx t) ⟨#[c]⟩=(cutW c t).map tx:=by
 have:=zgt (zlj c t) (zwh c t)
 rwa [zfa] at this
end
theorem zd9{c:Nat}{t:List Nat}(h:Lng t){w:List Nat}(hw:w ∈ cutW c t):Lng w:=⟨Q2 (zeh c t w hw).1 h.len,λx hx=>h.sgn x ((zeh c t w hw).2 x hx)⟩
theorem zdm(c:Nat)(t:List Nat):((JX (tx t) ⟨#[c]⟩).map QX)=(cutW c t).map λw => .str (tx w):=by rw[zm7,Q5];rfl
def digB(w:List Nat):Bool:=w.all λc=>decide (48<=c) && decide (c<=57)
def zak(w:List Nat):Bool:=digB w && (decide (1<=w.length) && decide (w.length<=3)) && (decide (w = [48]) || !decide (w.head? = some 48))
def numT(n:Nat):List Nat:=(Nat.toDigits 10 n).map Char.toNat
theorem zbw:∀ n,n<1000->zak (numT n)=true/\(numT n).length<=3/\(∀ c ∈ numT n,48<=c/\c<58):=by decide +kernel
theorem zrw(n:Nat):Qi (toString ((n:Nat):Int))=tx (numT n):=zgz (by rw[zbd];exact PySem.W.KIN.signs_num n)
theorem zrq{n:Nat}(h:n<1000):zj8 [.str (tx (numT n))]=some (.o (.int (n:Nat))):=by
 obtain⟨_,h2,_⟩:=zbw n h
 show(if(tx (numT n)).length<=640 then(jW (tx (numT n))).map λn=>R.o (.int n) else none)=_
 rw[zb5,if_pos (by omega),<- zrw,PySem.W.KIN.num_reads (by omega) (by omega)]
 rfl
def valW(w:List Nat):Nat:=w.foldl (λa c=>10 * a+(c - 48)) 0
theorem num1:∀ a:Fin 10,numT (valW [a.val+48]) = [a.val+48]:=by decide +kernel
theorem num2:∀ a b:Fin 10,a.val ≠ 0->numT (valW [a.val+48,b.val+48]) = [a.val+48,b.val+48]/\valW [a.val+48,b.val+48]<1000:=by decide +kernel
theorem ybr:∀ a b c:Fin 10,a.val ≠ 0->numT (valW [a.val+48,b.val+48,c.val+48]) = [a.val+48,b.val+48,c.val+48]/\valW [a.val+48,b.val+48,c.val+48]<1000:=by decide +kernel
theorem z2a{c:Nat}(h1:48<=c)(h2:c<=57):∃ a:Fin 10,c=a.val+48:=⟨⟨c - 48,by omega⟩,by show c=c - 48+48;omega⟩
theorem zif{w:List Nat}(h:zak w=true):numT (valW w)=w/\valW w<1000:=by
 unfold zak at h
 simp only[Qp,JF,decide_eq_true_eq,JJ,decide_eq_false_iff_not] at h
 obtain⟨⟨hd,h1,h3⟩,h0⟩:=h
 unfold digB at hd
 rw[QK] at hd
 have hc:∀ c ∈ w,∃ a:Fin 10,c=a.val+48:=λc hc=>by
  have:=hd c hc
  simp only[Qp,decide_eq_true_eq] at this
  exact z2a this.1 this.2
 match w,h1,h3,h0,hc with
 | [x],_,_,_,hc =>
   obtain⟨a,rfl⟩:=hc x (by simp)
   refine⟨num1 a,?_⟩
   show 10 * 0+(a.val+48 - 48)<1000
   have:=a.isLt
   omega
 | [x,y],_,_,h0,hc =>
   obtain⟨a,rfl⟩:=hc x (by simp)
   obtain⟨b,rfl⟩:=hc y (by simp)
   exact num2 a b λz=>by
    rcases h0 with h0|h0
    ·simp at h0
    ·simp[z] at h0
 | [x,y,u],_,_,h0,hc =>
   obtain⟨a,rfl⟩:=hc x (by simp)
   obtain⟨b,rfl⟩:=hc y (by simp)
   obtain⟨c,rfl⟩:=hc u (by simp)
   exact ybr a b c λz=>by
    rcases h0 with h0|h0
    ·simp at h0
    ·simp[z] at h0
 | _::_::_::_::_,_,h3,_,_=>simp at h3
theorem zdr{w:List Nat}(h:zak w=true):zj8 [.str (tx w)]=some (.o (.int (valW w:Nat))):=by
 obtain⟨e,hl⟩:=zif h
 have:=zrq hl
 rwa [e] at this
theorem zee{n:Nat}(h:n<1000):valW (numT n)=n:=by
 have h1:=zrq h
 rw[zdr (zbw n h).1] at h1
 have:=PyData.int.inj (R.o.inj (Zy h1))
 omega
abbrev tsD(ws:List (List Nat)):List PyData:=ws.map λw => .str (tx w)
theorem znf{ws:List (List Nat)}(h:∀ w ∈ ws,Lng w):Sl 1 (.tuple (tsD ws)):=yaf λw hw=>zcs (h w hw).ok
theorem z1k{a b:List (List Nat)}(h:tsD a=tsD b):a=b:=jh (λ_ _ z=>zib (qc z)) |>.mp h
theorem z0b{neg:Bool}{a b:List (List Nat)}(ha:∀ w ∈ a,Lng w)(hb:∀ w ∈ b,Lng w):eqF neg (.list (tsD a)) (.list (tsD b))=some (.o (.bool (if neg then !decide (a=b) else decide (a=b)))) :=
 znj (znf ha).list (znf hb).list (by decide) (by rw[decide_eq_true_eq];exact⟨λe=>by rw[e],λe=>z1k (PyData.list.inj e)⟩)
theorem znr{neg:Bool}{a b:List Nat}(ha:Lng a)(hb:Lng b):eqF neg (.str (tx a)) (.str (tx b))=some (.o (.bool (if neg then !decide (a=b) else decide (a=b)))) :=
 znj (zcs ha.ok) (zcs hb.ok) (by decide) (by rw[decide_eq_true_eq];exact⟨λe=>by rw[e],λe=>zib (qc e)⟩)
def totW(ws:List (List Nat)):Nat:=(ws.map λw=>w.length+1).sum
theorem zb7(w:List Nat)(ws:List (List Nat)):totW (w::ws)=w.length+1+totW ws:=by unfold totW;rw[Q3,YD]
theorem zef(a b:List (List Nat)):totW (a++b)=totW a+totW b:=by unfold totW;rw[QA,List.sum_append]
theorem zft(w:List Nat):totW [w]=w.length+1:=rfl
theorem zg1(ws:List (List Nat))(k:Nat):totW (ws.take k)+totW (ws.drop k)=totW ws:=by rw[<- zef,jR]
theorem zg9:∀ {ws:List (List Nat)} {w:List Nat},w ∈ ws->w.length+1<=totW ws
 | x::ws,w,h=>by
   rw[zb7]
   rcases Ql.mp h with rfl|z
   ·omega
   ·have:=zg9 z;omega
theorem zql:∀ ws:List (List Nat),ws.length<=totW ws
 | []=>Qt _
 | w::ws=>by rw[zb7,Qy];have:=zql ws;omega
theorem zcm{c:Nat}:∀ {ws:List (List Nat)},ws ≠ []->(zat c ws).length+1=totW ws
 | [],h=>absurd rfl h
 | [w],_=>by show w.length+1=_;rw[zft]
 | w::y::r,_=>by
   rw[zca (by simp),zb7,<- zcm (c:=c) (ws:=y::r) (by simp),Qf,Qy]
   omega
theorem zf7{c:Nat}(ws:List (List Nat)):(zat c ws).length<=totW ws:=by
 cases ws with
 | nil=>exact QO _
 | cons w ws=>have:=zcm (c:=c) (ws:=w::ws) (by simp);omega
theorem zq6(c:Nat)(t:List Nat):totW (cutW c t)=t.length+1:=by
 have:=zcm (c:=c) (zlj c t)
 rw[zfa] at this
 exact this.symm
theorem glued(c:Nat):∀ (r:List (List Nat)) (acc:Array Nat),((r.map tx).foldl (λacc p=>acc++(⟨#[c]⟩:ZV).cps++p.cps) acc).toList=acc.toList++(r.map λw=>c::w).flatten
 | [],acc=>by simp
 | w::r,acc=>by
   rw[Q3,Ju,glued c r]
   simp[tx]
theorem zpd(c:Nat)(ws:List (List Nat)):Yw ⟨#[c]⟩ (ws.map tx)=tx (zat c ws):=by
 cases ws with
 | nil=>rfl
 | cons x r =>
   refine zgz ?_
   rw[zbd,zkb]
   show((r.map tx).foldl (λacc p=>acc++(⟨#[c]⟩:ZV).cps++p.cps) (tx x).cps).toList=_
   rw[glued,zbd]
theorem zlm:∀ ws:List (List Nat),((ws.map tx).map (·.length)).sum+ws.length=totW ws
 | []=>rfl
 | w::ws=>by
   have:=zlm ws
   rw[Q3,Q3,YD,Qy,zb7,zb5]
   omega
theorem zxj{c:Nat}{ws:List (List Nat)}{Q:R->Prop}(hz:totW ws<=16777216)(q:Q (.o (.str (tx (zat c ws))))) :
 ∃ ys:List ZV,Zo (tsD ws) = .list (ys.map .str)/\(ys.map (·.length)).sum+ys.length * (⟨#[c]⟩:ZV).length<=16777216/\Q (.o (.str (Yw ⟨#[c]⟩ ys))):=by
 refine⟨ws.map tx,by rw[Q5];rfl,?_,by rw[zpd];exact q⟩
 rw[show(⟨#[c]⟩:ZV).length=1 from rfl,Nat.mul_one,Qe,zlm]
 exact hz
theorem zfw{c:Nat}{ws:List (List Nat)}(hz:totW ws<=16777216) :
 ∃ ys:List ZV,Zo (tsD ws) = .list (ys.map .str)/\(ys.map (·.length)).sum+ys.length * (⟨#[c]⟩:ZV).length<=16777216/\Yw ⟨#[c]⟩ ys=tx (zat c ws):=by
 refine⟨ws.map tx,by rw[Q5];rfl,?_,zpd c ws⟩
 rw[show(⟨#[c]⟩:ZV).length=1 from rfl,Nat.mul_one,Qe,zlm]
 exact hz
theorem zc4{c x:Nat}:∀ {ws:List (List Nat)},x ∈ zat c ws->x=c\/∃ w ∈ ws,x ∈ w
 | [],h=>(Qo h).elim
 | [w],h => .inr ⟨w,by simp,h⟩
 | w::y::r,h=>by
   rw[zca (by simp)] at h
   rcases Qx.mp h with z|z
   ·exact .inr ⟨w,by simp,z⟩
   ·rcases Ql.mp z with z|z
    ·exact .inl z
    ·rcases zc4 z with e|⟨v,hv,hx⟩
     ·exact .inl e
     ·exact .inr ⟨v,Qj _ hv,hx⟩
theorem zyz{c:Nat}{ws:List (List Nat)}(hc:c<128)(hl:totW ws<=100000)(h:∀ w ∈ ws,∀ x ∈ w,x<128):Lng (zat c ws):=⟨Q2 (zf7 ws) hl,λx hx=>by
 rcases zc4 hx with rfl|⟨w,hw,hx⟩
 ·exact hc
 ·exact h w hw x hx⟩
def cds(s:String):List Nat:=(Qi s).cps.toList
theorem zb3(s:String):Qi s=tx (cds s):=zgz (by rw[zbd];rfl)
def zco(w:List Nat):Bool:=w.all λc=>decide (c<128)
theorem zex{w:List Nat}(h:zco w=true):∀ c ∈ w,c<128:=λc hc=>of_decide_eq_true (QK.mp h c hc)
theorem zce{w:List Nat}(h:(zco w && decide (w.length<=1000))=true):Lng w:=by
 obtain⟨a,b⟩:=QR.mp h
 exact⟨Q2 (of_decide_eq_true b) (by decide),zex a⟩
theorem z9y(ws:List (List Nat))(i:Nat)(x:List Nat):(tsD ws).set i (.str (tx x))=tsD (ws.set i x):=(List.map_set (f:=λw=>QX (tx w))).symm
inductive Deed where
 | go
 | send (l c:Nat)
 | take (l c:Nat)
 | empty (l:Nat)
 | put (f v:Nat)
 | test (f v:Nat)
deriving DecidableEq
def zet:Deed->PyData
 | .go => .tuple [.str "go"]
 | .send l c => .tuple [.str "send", .int l,.str (tx [c])]
 | .take l c => .tuple [.str "take", .int l,.str (tx [c])]
 | .empty l => .tuple [.str "empty", .int l]
 | .put f v => .tuple [.str "set", .int f,.int v]
 | .test f v => .tuple [.str "if", .int f,.int v]
structure Rul where
 p:Nat
 d:Deed
 q:Nat
def zbm(r:Rul):PyData := .tuple [.int r.p,zet r.d,.int r.q]
structure Hnd where
 n:Nat
 rs:List Rul
def zgj(h:Hnd):PyData := .tuple [.int h.n,.tuple (h.rs.map zbm)]
structure Hou where
 ls:List Nat
 lines:Nat
 flags:Nat
 hands:List Hnd
def zda(h:Hou):PyData := .tuple [.str (tx h.ls),.int h.lines,.int h.flags,.tuple (h.hands.map zgj)]
def DeOk(ls:List Nat)(l f:Nat):Deed->Prop
 | .go=>True
 | .send i c=>i<l/\c ∈ ls
 | .take i c=>i<l/\c ∈ ls
 | .empty i=>i<l
 | .put i v=>i<f/\v<2
 | .test i v=>i<f/\v<2
structure HoOk (h:Hou):Prop where
 low:LowW h.ls
 ne:h.ls ≠ []
 short:h.ls.length<=100
 lines:h.lines<=100
 flags:h.flags<=100
 many:h.hands.length<=100
 pos:∀ x ∈ h.hands,0<x.n/\x.n<=100
 rules:∀ x ∈ h.hands,x.rs.length<=100/\∀ r ∈ x.rs,DeOk h.ls h.lines h.flags r.d/\r.p<=100/\r.q<=100
theorem zdw{α:Type}{xs:List α}{i:Nat}{z:α}(h:i<xs.length):xs[i]? = some (xs.getD i z):=by
 rw[Q6,Qk h]
 rfl
theorem z3s(a b:Nat):decide ((a:Int)=(b:Int))=decide (a=b):=by
 by_cases h:a=b
 ·rw[decide_eq_true h,decide_eq_true (congrArg _ h)]
 ·rw[decide_eq_false h];exact decide_eq_false λz=>h (Int.ofNat_inj.mp z)
theorem zum(a b:Nat):eqF false (.int (a:Nat)) (.int (b:Nat))=some (.o (.bool (decide (a=b)))):=by
 rw[zlg,if_neg Qc,z3s]
theorem zdl{α:Type}{xs:List α}{i:Nat}{z:α}(h:i<xs.length):xs.getD i z ∈ xs:=Zl (zdw h)
theorem zoo{α:Type}(xs:List α)(lo hi:Option Int):(cutL xs lo hi).length<=xs.length:=by
 unfold cutL
 rw[ZJ,Z1]
 omega
theorem zr9{α:Type}[DecidableEq α]:∀ {zs ys:List α},zs.Nodup->(∀ k ∈ zs,k ∈ ys)->zs.length<=ys.length
 | [],_,_,_=>QO _
 | z::zs,ys,nd,h=>by
   have n1:=Zr.mp nd
   have hz:z ∈ ys:=h z Q8
   have:=zr9 (zs:=zs) (ys:=ys.erase z) n1.2 λk hk=>(jY (λ(e:k=z)=>n1.1 (by rw[<- e];exact hk))).mpr (h k (Qj _ hk))
   rw[j4 hz] at this
   have:=jJ hz
   rw[Qy]
   omega
theorem zrt:∀ {zs:List ZV} {cs:List Nat},(∀ z ∈ zs,∃ c ∈ cs,z=tx [c])->∃ ls:List Nat,zs=ls.map (λc=>tx [c])/\∀ c ∈ ls,c ∈ cs
 | [],_,_=>⟨[],rfl,λ_ h=>nomatch h⟩
 | z::zs,cs,h=>by
   obtain⟨c,hc,rfl⟩:=h z Q8
   obtain⟨ls,rfl,hl⟩:=zrt (zs:=zs) (cs:=cs) λx hx=>h x (Qj _ hx)
   exact⟨c::ls,rfl,λx hx=>by
    rcases Ql.mp hx with rfl|hx
    ·exact hc
    ·exact hl x hx⟩
theorem zt4{α β:Type}{enc:α->PyData}{enc2:β->PyData}{good:β->Prop}{i h:Nat}{fe:DE}{ρ:DSt}{Q:List PyData->Prop}{as:List α}
 (step:∀ a ∈ as,∀ (Py:PyData->Prop),(∀ b,good b->Py (enc2 b))->fe ((Qm h none++ρ).set i (some (.im (enc a)))) (λr=>Py r.d))
 (hz:as.length<=1000) (q:∀ bs:List β,(∀ b ∈ bs,good b)->bs.length=as.length->Q (bs.map enc2)):zbt h (gN i) (λ_ Q=>Q true) fe ρ Q (as.map enc) []:=by
 have sz:=sizeLine_eq
 have key:∀ (l:List α) (bs:List β),(∀ a ∈ l,a ∈ as)->(∀ b ∈ bs,good b)->bs.length+l.length=as.length->zbt h (gN i) (λ_ Q=>Q true) fe ρ Q (l.map enc) (bs.map enc2):=by
  intro l
  induction l with
  | nil=>intro bs _ hb hl;exact q bs hb hl
  | cons a l ih =>
    intro bs hs hb hl
    rw[Qy] at hl
    refine iteT (B:=True) (step a (hs a Q8) (λd=>(bs.map enc2).length<sizeLine/\zbt h (gN i) (λ_ Q=>Q true) fe ρ Q (l.map enc) (bs.map enc2 ++ [d])) λb gb=>⟨by rw[Qe];omega,?_⟩)
    have:=ih (bs ++ [b]) (λx hx=>hs x (Qj _ hx)) (λx hx=>by rcases Qx.mp hx with hx|hx; (exact hb x hx); (rw[Qu.mp hx];exact gb)) (by rw[Qf,Z8];omega)
    rwa [QA] at this
 exact key as [] (λ_ h=>h) (by simp) (by simp)
theorem zli(r:Rul):flat (zbm r)=true:=by
 obtain⟨p,d,q⟩:=r
 cases d <;> rfl
theorem zgx(h:Hnd):flat (zgj h)=true:=by
 show(true && (flats (h.rs.map zbm) && true))=true
 rw[zav zli]
 rfl
def RuOk(ls:List Nat)(l f:Nat)(r:Rul):Prop:=DeOk ls l f r.d/\r.p<=100/\r.q<=100
def HdOk(ls:List Nat)(l f:Nat)(x:Hnd):Prop:=(0<x.n/\x.n<=100)/\x.rs.length<=100/\∀ r ∈ x.rs,RuOk ls l f r
theorem zoh{α:Type}{P:α->Prop}{xs:List α}{a:α}(h:∀ x ∈ xs,P x)(ha:P a):∀ x ∈ xs ++ [a],P x:=λx hx=>by
 rcases Qx.mp hx with hx|hx
 ·exact h x hx
 ·rw[Qu.mp hx];exact ha
def z0s:List PyData->(R->Prop)->Prop:=λds Q=>∃ (ls:List Nat) (l f:Nat),ds = [.str (tx ls),.int (l:Nat),.int (f:Nat)]/\ls ≠ []/\ls.length<=100/\0<l/\l<=100/\f<=100/\∀ d,DeOk ls l f d->Q (.o (zet d))
theorem zjb{α:Type}{xs:List α}{j:Nat}{x:α}(h:xs[j]? = some x):xs.drop j=x::xs.drop (j+1):=by
 obtain⟨hj,rfl⟩:=QE.mp h
 exact Jd hj
theorem zqm(h:Hou):flat (zda h)=true:=by
 show(true && (true && (true && (flats (h.hands.map zgj) && true))))=true
 rw[zav zgx]
 rfl
section
variable {K : Qa} {O : Ob}
def putS(n:Nat)(fv fi:DE):DS:=λDd ρ=>fv ρ λr=>∃ ds:List PyData,ρ[n]? = some (some (.own ds))/\fi ρ λri=>∃ k:Nat,ri.d = .int (k:Nat)/\k<ds.length/\flat r.d=true/\Dd.nx (ρ.set n (some (.own (ds.set k r.d))))
theorem z5g{n k:Nat}(h:k<n):ixN n (k:Int)=some k:=by
 unfold ixN
 simp
 omega
theorem zmb{F:Addr->Prop}{H:Hp}:∀ {xs:List V} {ds:List PyData} (k:Nat) {v:V} {d:PyData},IsAll K F H xs ds->Is K F H v d->IsAll K F H (xs.set k v) (ds.set k d)
 | [],_,k,_,_,.nil,_ => .nil
 | _::_,_,0,_,_,.cons _ t,i => .cons i t
 | _::_,_,k+1,_,_,.cons r t,i => .cons r (zmb k t i)
theorem z9f{n:Nat}{tv ti:TE}{fv fi:DE}(hv:ED K O tv fv)(hi:ED K O ti fi):SD K O (tAsg tv (gSub (tVar n) ti zhy)) (putS n fv fi):=λH₀ A σ H ρ D Dd r q P=>by
 refine hv σ H ρ _ _ r.seen q λw H1 x s1 o1 ⟨ds,e,q1⟩=>?_
 have r1:=r.stp s1
 obtain⟨v,hv',a,xs,rfl,ha,hl,hs⟩:=r1.at_ n _ e
 refine⟨_,hv',?_⟩
 refine hi σ H1 ρ _ _ r1.seen q1 λz H2 y s2 o2 ⟨k,ek,hk,fl,q2⟩=>?_
 have r2:=r1.stp s2
 obtain⟨v2,hv2,a2,xs2,e2,ha2,hl2,hs2⟩:=r2.at_ n _ e
 rw[hv'] at hv2
 cases hv2
 cases e2
 have iz:=o2.is r1.ok r1.p
 rw[ek] at iz
 cases iz
 refine⟨a,xs2,k,k,rfl,rfl,hl2,z5g (by rw[hs2.length];exact hk),?_⟩
 have iw:Is K (unO O A) H2 w x.d:=Is.flat s2.t (o1.is r.ok r.p) fl
 exact P.nx A σ _ _ (r2.change e hv' ha (zmb k hs2 iw)) ((Frm.stp (s1.trans s2)).trans (.change ha)) q2
end
section
variable {ι κ : Type} {P : Program} {w : World} {K : Qa} {mg : Str → Option Value} {base : Heap} {k : Nat} {X : ι → Cx} {O : κ → Ob} {a b : Expr} {fa fb : DE} {pos p : Pos}
theorem ya6(n:Nat){x:Str}{px tp:Pos}(C:Ctx3 P w K mg base k X)(hv:E3 K X O a fa)(hi:E3 K X O b fb)(hN:∀ i,(X i).N[n]? = some x:=by intro i;rfl)(hvx:∀ i,Vis (X i).env.scope x:=by intro i;first|exact Or.inl rfl|exact Or.inr (Or.inl rfl)|exact Or.inr (Or.inr rfl))(hd:(x == ("__debug__" : Str))=false:=by decide)(hcd:(x == ("__classdict__" : Str))=false:=by decide)
 (has:∀ i v,assign (.Subscript (.Name x px) b tp) (X i).env v=(do
  let ov <- holding [v] (eval (.Name x px) (X i).env)
  let iv <- holding [v,ov] (eval b (X i).env)
  standAt tp
  holding [v,ov,iv] (setItem ov iv v)
  release [v,ov,iv] []):=by intro _ _;rfl)
 (hs:∀ i,swapsWithSole [.Subscript (.Name x px) b tp] a pos.line (X i).env=pure false:=by intro i;rfl) (hw:∀ i,swappedStores [.Subscript (.Name x px) b tp] a (X i).env=pure none:=by intro i;rfl) (h1:∀ i,(assignEach [.Subscript (.Name x px) b tp] (X i).env).map (·.2) = [assign (.Subscript (.Name x px) b tp) (X i).env]:=by intro i;rfl) :
 S3 K X O (.Assign [.Subscript (.Name x px) b tp] a pos) (putS n fa fb):=let ⟨_,p1,d1⟩:=hv;let ⟨_,p2,d2⟩:=hi;
 ⟨tAsg _ (gSub (tVar n) _ zhy),λi=>zir (p1 i) (zh8 (zaq (pos:=px) (hN i) (hvx i) hd hcd) (p2 i) zgh (has i)) (hs i) (hw i) (h1 i),λj=>z9f (d1 j) (d2 j)⟩
end
def zsu:Option DV->Bool
 | some (.own _)=>true
 | some (.dct _)=>true
 | some (.gen _ _)=>true
 | some (.thg _)=>true
 | _=>false
theorem zt6{ρ:DSt}(h:∀ o ∈ ρ,zsu o=false):znp ρ:=by
 refine⟨λi ds e=>?_,λi ks e=>?_,λi f ds e=>?_,λi T e=>?_⟩ <;>
 ·have:=h _ (Zl e)
  cases this
def NoA:DSt->Prop
 | []=>True
 | o::r=>zsu o=false/\NoA r
theorem zx0:∀ {ρ:DSt},NoA ρ->znp ρ:=λ{ρ} h=>zt6 (by
 have go:∀ l:DSt,NoA l->∀ o ∈ l,zsu o=false:=by
  intro l
  induction l with
  | nil=>intro _ o ho;exact(Qo ho).elim
  | cons a l ih =>
    intro hl o ho
    rcases Ql.mp ho with rfl|ho
    ·exact hl.1
    ·exact ih hl.2 o ho
 exact go ρ h)
theorem zgl{α:Type}{f:α->PyData}{us:List α}{u:α}:idxF (.list ((us ++ [u]).map f)) (.int (-1))=some (.o (f u)):=by
 have hix:ixN (us.length+1) (-1)=some us.length:=by
  unfold ixN
  simp
  omega
 show(atI _ _).map R.o=_
 unfold atI
 rw[Qe,Qf,Z8,hix]
 simp
end L3
namespace HK
open PySem PySem.Spec PyProof.Rows PySem.SetTable SX
noncomputable instance:DecidableEq PyData:=λa b=>Classical.propDecidable (a=b)
end HK
namespace L3
open PySem PySem.Spec
open PyProof.Rows hiding St
open L2
theorem z8y(ls:List Nat)(c:Nat)(neg:Bool):inF neg (.str (tx [c])) (.str (tx ls))=some (.o (.bool (if neg then !decide (c ∈ ls) else decide (c ∈ ls)))):=by
 have:=StrLaws.found_one (tx ls) c
 rw[zbd,show(⟨#[c]⟩:ZV)=tx [c] from rfl] at this
 show some (R.o (.bool (if neg then !(!(QM (tx ls) (tx [c]) 0 (tx ls).length 1).isEmpty) else !(QM (tx ls) (tx [c]) 0 (tx ls).length 1).isEmpty)))=_
 rw[this]
structure HouGood (h:Hou):Prop where
 ok:HoOk h
 rise:h.ls.Pairwise (· < ·)
 l3:h.ls.length<=3
 lines0:1<=h.lines
 lines:h.lines<=2
 flags:h.flags<=2
 hands0:1<=h.hands.length
 hands:h.hands.length<=2
 rooms:∀ x ∈ h.hands,1<=x.n/\x.n<=3/\x.rs.length<=5/\∀ r ∈ x.rs,r.p<x.n/\r.q<x.n
def zqu:List PyData->(R->Prop)->Prop:=λds Q=>∃ n:Nat,ds = [.int (n:Nat)]/\n<=5/\∀ h,HouGood h->Q (.o (zda h))
def zle:List PyData->(R->Prop)->Prop:=λds Q=>∃ n:Nat,ds = [.int (n:Nat)]/\0<n/\n<=26/\∀ ls:List Nat,LowW ls->ls ≠ []->ls.length<=n->ls.Pairwise (· < ·)->Q (.o (.str (tx ls)))
theorem zik{α:Type}{xs:List α}{lo hi:Option Int}{x:α}(h:x ∈ cutL xs lo hi):x ∈ xs:=YI (JR h)
theorem zr1{v:List Nat}(h:v.length=1):∃ c,v = [c]/\lowB v=decide (c ∈ abc):=by
 match v,h with
 | [c],_ =>
   refine⟨c,rfl,?_⟩
   show((decide (97<=c) && decide (c<=122)) && true)=_
   rw[j5,<- Bool.decide_and]
   exact decide_eq_decide.mpr mem_abc.symm
def thD(w:List Nat):PyData:=if zak w=true then .int (valW w:Nat) else .str (tx w)
noncomputable def za6(t:List Nat):List (List (List Nat)):=(cutW 10 t).map (cutW 32)
def WsOk(ws:List (List Nat)):Prop:=0<ws.length/\ws.length<=100001/\∀ w ∈ ws,Lng w
def yax:Nat ⊕ PyData->R
 | .inl i => .o (excD "NoText" ["at"] [.int (i:Nat)])
 | .inr d => .o d
def zpm:List PyData->(R->Prop)->Prop:=λds Q=>∃ w:List Nat,ds = [.str (tx w)]/\Lng w/\Q (.o (.bool (decide (w.length=1) && lowB w)))
def zcu:List PyData->(R->Prop)->Prop:=λds Q=>∃ w:List Nat,ds = [.str (tx w)]/\Lng w/\Q (.o (.bool (zak w)))
def zrk:List PyData->(R->Prop)->Prop:=λds Q=>∃ w:List Nat,ds = [.str (tx w)]/\Lng w/\Q (.o (.str (if zak w=true then Qi "0" else if(decide (w.length=1) && lowB w)=true then Qi "a" else Qi "?")))
def zqw:List PyData->(R->Prop)->Prop:=λds Q=>∃ w:List Nat,ds = [.str (tx w)]/\Lng w/\Q (.o (thD w))
theorem zxa(t:List Nat):0<(za6 t).length:=by unfold za6;rw[Qe];exact zd8 10 t
theorem z1r{t:List Nat}(h:Lng t):∀ ws ∈ za6 t,WsOk ws:=λws hw=>by
 obtain⟨r,hr,rfl⟩:=Qz.mp hw
 have hl:=zd9 h hr
 exact⟨zd8 32 r,Q2 (zdj 32 r) (by have:=hl.len;omega),λw hw=>zd9 hl hw⟩
theorem zal{ws:List (List Nat)}{i:Nat}(h:i<ws.length):idxF (.list (tsD ws)) (.int (i:Nat))=some (.o (.str (tx (ws.getD i [])))):=zlr (by
 rw[Q4,zdw (z := []) h];rfl)
theorem zbv{ws:List (List Nat)}(h:∀ w ∈ ws,Lng w)(i:Nat):Lng (ws.getD i []):=by
 by_cases hi:i<ws.length
 ·exact h _ (zdl hi)
 ·rw[Q6,QZ (by omega)]
  exact⟨by decide,by simp⟩
theorem cut2(ws:List (List Nat)):slcF (some 2) none (.list (tsD ws))=some (.n (tsD (ws.drop 2))):=by
 show some (R.n (cutL (tsD ws) (some ((2:Nat):Int)) none))=_
 rw[zec,<- ql]
theorem zaz(ws:List (List Nat)):lenF [Zo (tsD ws)]=some (.o (.int (ws.length:Nat))):=by
 show some (R.o (.int ((tsD ws).length:Nat)))=_
 rw[Qe]
theorem lng1(c:Nat)(h:c<128:=by decide):Lng [c]:=⟨Z9 rfl,λd hd=>by rw[Qu.mp hd];exact h⟩
theorem zch{w v:List Nat}{neg:Bool}{x:String}(e:Qi x=tx v)(h:Lng w)(hv:Lng v):eqF neg (.str (tx w)) (.str (Qi x))=some (.o (.bool (if neg then !decide (w=v) else decide (w=v)))):=by
 rw[e];exact znr h hv
theorem zgy:Qi "\n" = ⟨#[10]⟩:=by decide +kernel
theorem zez:Qi " " = ⟨#[32]⟩:=by decide +kernel
abbrev rwD(ws:List (List Nat)):PyData := .list (tsD ws)
theorem zy7(t:List Nat):((cutW 10 t).map λr=>rwD (cutW 32 r))=(za6 t).map rwD:=by unfold za6;rw[Q5];rfl
theorem zeq{rs:List (List (List Nat))}{i:Nat}(h:i<rs.length):idxF (.list (rs.map rwD)) (.int (i:Nat))=some (.o (rwD (rs.getD i []))):=zlr (by
 rw[Q4,zdw (z := []) h];rfl)
theorem zvk(rs:List (List (List Nat))):lenF [Zo (rs.map rwD)]=some (.o (.int (rs.length:Nat))):=by
 show some (R.o (.int ((rs.map rwD).length:Nat)))=_
 rw[Qe]
theorem zy5(t:List Nat):(za6 t).length<=t.length+1:=by unfold za6;rw[Qe];exact zdj 10 t
def zzf:List PyData->(R->Prop)->Prop:=λds Q=>ds = []/\∀ c,c<128->Q (.o (.str (tx [c])))
theorem zc2{k:Nat}(h:k<1000):strF [.int (k:Nat)]=some (.o (.str (tx (numT k)))):=by
 show(if((k:Nat):Int).natAbs.log2<1920 then some (R.o (.str (Qi (toString ((k:Nat):Int))))) else none)=_
 rw[if_pos,zrw]
 rw[Int.natAbs_natCast]
 exact qz (Nat.log2_le_self k) (by omega)
theorem zeg{k:Nat}(h:k<1000):(numT k).length<=3/\∀ c ∈ numT k,c<128:=⟨(zbw k h).2.1,λc hc=>by have:=(zbw k h).2.2 c hc;omega⟩
theorem zfu{ws:List (List Nat)}{m:Nat}(h:∀ w ∈ ws,w.length<=m):totW ws<=ws.length * (m+1):=by
 induction ws with
 | nil=>exact QO _
 | cons w ws ih =>
   rw[zb7,Qy,qF]
   have h1:=h w Q8
   have h2:=ih λx hx=>h x (Qj _ hx)
   omega
theorem zct{a b:List (List Nat)}(h:a.length+b.length<=16777216):addF (.list (tsD a)) (.list (tsD b))=some (.n (tsD (a++b))):=by
 rw[z1t (by rw[Qe,Qe];exact h),<- QA]
theorem zb2(ws:List (List Nat))(lo hi:Option Int):slcF lo hi (.list (tsD ws))=some (.n (tsD (cutL ws lo hi))):=by
 show some (R.n (cutL (tsD ws) lo hi))=_
 rw[zyo]
theorem zp1{w:List Nat}(h:zak w=true):(decide (w.length=1) && lowB w)=false:=by
 unfold zak digB at h
 simp only[Qp,decide_eq_true_eq,QK] at h
 obtain⟨⟨h1,h2,_⟩,_⟩:=h
 cases w with
 | nil=>simp at h2
 | cons c w =>
   have:=h1 c (by simp)
   unfold lowB
   rw[zA,decide_eq_false (show ¬ 97<=c by omega),QD,QD,QI]
theorem zr0{α:Type}{ws:List α}(h:0<ws.length):∃ vs u,ws=vs ++ [u]:=by
 rcases jS ws with rfl|⟨vs,u,e⟩
 ·simp at h
 ·exact⟨vs,u,by rw[e];simp⟩
section
variable {K : Qa} {O : Ob} {H₀ H H' : Hp} {A : Nat → Addr → Prop} {σ : St} {ρ : DSt}
def reg(A:Nat->Addr->Prop)(i:Nat)(W:Addr->Prop):Nat->Addr->Prop:=λj b=>(j ≠ i/\A j b)\/(j=i/\W b)
theorem Rep.tstay{i:Nat}(r:Rep K O H₀ A H σ ρ)(stay:∀ b u,H b=some u->¬ A i b->H' b=some u):TupStay H H':=λb u hu hb=>stay b u hb λz=>by
 obtain⟨_,⟨o,q,ho⟩,_⟩:=r.own i b z
 rw[hb] at q
 cases q
 obtain⟨us,e1|⟨o',e1⟩⟩:=hu
 ·exact(ho us).1 e1
 ·exact(ho us).2 o' e1
theorem Rep.setT{i:Nat}{v:V}{W:Addr->Prop}{T:Thg}{H1:Hp}(r:Rep K O H₀ A H σ ρ)(s:Stp O H H1)(stay1:∀ b u,H1 b=some u->¬ A i b->H' b=some u)(hW:∀ b,W b->(A i b\/H b=Zw)/\∃ o,H' b=some o/\OwnO o)
 (hR:T.R K (unO O (reg A i W)) W H' v):Rep K O H₀ (reg A i W) H' (σ.set i (some v)) (ρ.set i (some (.thg T))):=by
 have ts1:=(r.stp s).tstay stay1
 have ts:TupStay H H':=λb u hu hb=>ts1 b u hu (s.t b u hu hb)
 have nA:∀ b,O.M b->¬ A i b:=λb m z=>(r.own i b z).2.2 m
 have stay:∀ b u,H b=some u->¬ A i b->¬ O.M b->H' b=some u:=λb u e z m=>stay1 b u (s.s b u e m) z
 have sM:∀ b,O.M b->H' b=H1 b:=λb m=>by
  obtain⟨o,e⟩:=r.ok.here H1 b (s.p r.p) m
  rw[e,stay1 b o e (nA b m)]
 have pp:O.P H':=r.ok.loc H1 _ sM (s.p r.p)
 have oth:∀ {j b},j ≠ i->A j b->¬ A i b:=λhj a z=>hj (r.dis _ _ _ a z)
 have un:∀ b u,H b=some u->unO O A b->unO O (reg A i W) b:=λb u e f=>⟨f.1,λj z=>by
  rcases z with z|z
  ·exact f.2 j z.2
  ·rcases(hW b z.2).1 with y|y
   ·exact f.2 i y
   ·rw[e] at y;cases y⟩
 have tF:∀ b u,unO O A b->H b=some u->unO O (reg A i W) b/\H' b=some u:=λb u f q=>⟨un b u q f,stay b u q (f.2 i) f.1⟩
 have mv:∀ {v d},Is K (unO O A) H v d->Is K (unO O (reg A i W)) H' v d:=λz=>z.to (λb ys f q=>tF b _ f q) λb ys q=>SqT.stay (h:=q) ts
 have mvs:∀ {v d},IsAll K (unO O A) H v d->IsAll K (unO O (reg A i W)) H' v d:=λz=>z.to (λb ys f q=>tF b _ f q) λb ys q=>SqT.stay (h:=q) ts
 have wm:∀ b,W b->H₀ b=Zw/\¬ O.M b:=λb w=>by
  rcases(hW b w).1 with z|z
  ·exact⟨(r.own i b z).1,(r.own i b z).2.2⟩
  ·have m:¬ O.M b:=λm=>by obtain⟨o,e⟩:=r.ok.here H b r.p m;rw[z] at e;cases e
   exact⟨r.st.s.free m z,m⟩
 refine⟨r.ok,pp,r.p0,⟨λb o hb n=>?_,λ_=>pp,λb u hu hb=>ts b u hu (r.st.t b u hu hb)⟩,λj k b x y=>?_,λj b x=>?_,λj x e=>?_,by rw[Zj,Zj];exact r.len⟩
 ·exact stay b o (r.st.s b o hb n) (λz=>by rw[(r.own i b z).1] at hb;cases hb) n
 ·rcases x with x|x <;> rcases y with y|y
  ·exact r.dis j k b x.2 y.2
  ·rcases(hW b y.2).1 with z|z
   ·exact absurd (r.dis j i b x.2 z) x.1
   ·obtain⟨_,⟨o,q,_⟩,_⟩:=r.own j b x.2;rw[z] at q;cases q
  ·rcases(hW b x.2).1 with z|z
   ·exact absurd (r.dis k i b y.2 z) y.1
   ·obtain⟨_,⟨o,q,_⟩,_⟩:=r.own k b y.2;rw[z] at q;cases q
  ·exact x.1.trans y.1.symm
 ·rcases x with x|x
  ·obtain⟨h0,⟨o,q,ho⟩,m⟩:=r.own j b x.2
   exact⟨h0,⟨o,stay b o q (oth x.1 x.2) m,ho⟩,m⟩
  ·exact⟨(wm b x.2).1,(hW b x.2).2,(wm b x.2).2⟩
 ·by_cases hj:i=j
  ·subst hj
   have hi:i<ρ.length:=by
    rcases Yv i ρ.length with z|z
    ·exact z
    ·rw[QZ (by simpa using z)] at e;cases e
   rw[QG hi] at e
   cases e
   exact⟨v,QG (by have:=r.len;omega),T.to (λb u f q=>⟨f,q⟩) (λb u w q=>⟨.inr ⟨rfl,w⟩,q⟩) (TupStay.refl _) hR⟩
  ·rw[QF hj] at e
   obtain⟨w,h1,h2⟩:=r.at_ j x e
   have hj':j ≠ i:=λz=>hj z.symm
   refine⟨w,by rw[QF hj];exact h1,?_⟩
   cases x with
   | im d=>exact mv h2
   | own es =>
     obtain⟨b,ys,rfl,hb,hlb,hs⟩:=h2
     exact⟨b,ys,rfl,.inl ⟨hj',hb⟩,stay b _ hlb (oth hj' hb) (r.own j b hb).2.2,mvs hs⟩
   | ob=>exact h2
   | scr n=>exact IsS.to (λb u f q=>tF b u f q) h2
   | dct ks=>obtain⟨b,hb,h2⟩:=h2;exact⟨b,.inl ⟨hj',hb⟩,h2.to λu q=>stay b u q (oth hj' hb) (r.own j b hb).2.2⟩
   | gen f ds=>obtain⟨b,xs,e,hb,q,z⟩:=h2;exact⟨b,xs,e,.inl ⟨hj',hb⟩,stay b _ q (oth hj' hb) (r.own j b hb).2.2,mvs z⟩
   | rd f ds=>obtain⟨b,xs,e,hb,q,z⟩:=h2;exact⟨b,xs,e,un b _ q hb,stay b _ q (hb.2 i) hb.1,mvs z⟩
   | exc C ns ds=>obtain⟨xs,e,z⟩:=h2;exact⟨xs,e.to λb u f q=>tF b u f q,mvs z⟩
   | thg T=>exact T.to (λb u f q=>tF b u f q) (λb u w q=>⟨.inl ⟨hj',w⟩,stay b u q (oth hj' w) (r.own j b w).2.2⟩) ts h2
   | thr T=>obtain⟨W',hw,z⟩:=h2;exact⟨W',λb w=>let ⟨f,o,q⟩:=hw b w; ⟨un b o q f,o,stay b o q (f.2 i) f.1⟩,T.to (λb u f q=>tF b u f q) (λb u w q=>⟨w,stay b u q ((hw b w).1.2 i) (hw b w).1.1⟩) ts z⟩
theorem Frm.setT{i:Nat}{W:Addr->Prop}{H1:Hp}(s:Stp O H H1)(stay:∀ b u,H1 b=some u->¬ A i b->H' b=some u)(hW:∀ b,W b->(A i b\/H b=Zw)):Frm O A H (reg A i W) H':=λb o e u=>⟨stay b o (s.s b o e u.1) (u.2 i),u.1,λj z=>by
 rcases z with z|z
 ·exact u.2 j z.2
 ·rcases hW b z.2 with y|y
  ·exact u.2 i y
  ·rw[e] at y;cases y⟩
theorem zyk{i:Nat}{v:V}(h:σ[i]? = some (some v)):σ.set i (some v)=σ:=by
 apply Y1
 intro j
 by_cases e:i=j
 ·subst e
  rw[QG (QE.mp h).1,h]
 ·rw[QF e]
end
mutual
inductive Ow (K:Qa) (H:Hp):V->PyData->List Addr->Prop
 | leaf {v d}:flat d=true->Is K (λ_=>False) H v d->Ow K H v d []
 | list {a xs ds as}:H a=some (.lst xs)->OwAll K H xs ds as->Ow K H (.ref a) (.list ds) (a::as)
 | tuple {a xs ds as}:H a=some (.tup xs)->OwAll K H xs ds as->Ow K H (.ref a) (.tuple ds) as
inductive OwAll (K:Qa) (H:Hp):List V->List PyData->List Addr->Prop
 | nil:OwAll K H [] [] []
 | cons {v vs d ds as bs}:Ow K H v d as->OwAll K H vs ds bs->OwAll K H (v::vs) (d::ds) (as++bs)
end
section
variable {K : Qa} {H H' : Hp} {F : Addr → Prop}
mutual
theorem Ow.to(ts:TupStay H H'):∀ {v d as},(∀ a ∈ as,∀ xs,H a=some (.lst xs)->H' a=some (.lst xs))->Ow K H v d as->Ow K H' v d as
 | _,_,_,_,.leaf f i => .leaf f (i.flat ts f)
 | _,_,_,h,.list q r => .list (h _ (by simp) _ q) (OwAll.to ts (λa m=>h a (Qj _ m)) r)
 | _,_,_,h,.tuple q r => .tuple (ts _ _ ⟨_,.inl rfl⟩ q) (OwAll.to ts h r)
theorem OwAll.to(ts:TupStay H H'):∀ {vs ds as},(∀ a ∈ as,∀ xs,H a=some (.lst xs)->H' a=some (.lst xs))->OwAll K H vs ds as->OwAll K H' vs ds as
 | _,_,_,_,.nil => .nil
 | _,_,_,h,.cons r t => .cons (Ow.to ts (λa m=>h a (QW _ m)) r) (OwAll.to ts (λa m=>h a (QB _ m)) t)
end
mutual
theorem Ow.mem:∀ {v d as a},Ow K H v d as->a ∈ as->∃ xs,H a=some (.lst xs)
 | _,_,_,_,.leaf _ _,m=>(Qo m).elim
 | _,_,_,_,.list q r,m=>by
   rcases Ql.mp m with rfl|m
   ·exact⟨_,q⟩
   ·exact OwAll.mem r m
 | _,_,_,_,.tuple q r,m=>OwAll.mem r m
theorem OwAll.mem:∀ {vs ds as a},OwAll K H vs ds as->a ∈ as->∃ xs,H a=some (.lst xs)
 | _,_,_,_,.nil,m=>(Qo m).elim
 | _,_,_,_,.cons r t,m=>by
   rcases Qx.mp m with m|m
   ·exact Ow.mem r m
   ·exact OwAll.mem t m
end
mutual
theorem Ow.is:∀ {v d as},(∀ a ∈ as,F a)->Ow K H v d as->Is K F H v d
 | _,_,_,_,.leaf f i=>i.flat (TupStay.refl _) f
 | _,_,_,h,.list q r => .list (h _ (by simp)) q (OwAll.is (λa m=>h a (Qj _ m)) r)
 | _,_,_,h,.tuple q r => .tuple (.of q) (OwAll.is h r)
theorem OwAll.is:∀ {vs ds as},(∀ a ∈ as,F a)->OwAll K H vs ds as->IsAll K F H vs ds
 | _,_,_,_,.nil => .nil
 | _,_,_,h,.cons r t => .cons (Ow.is (λa m=>h a (QW _ m)) r) (OwAll.is (λa m=>h a (QB _ m)) t)
end
theorem OwAll.length:∀ {vs ds as},OwAll K H vs ds as->vs.length=ds.length
 | _,_,_,.nil=>rfl
 | _,_,_,.cons _ t=>by rw[Qy,Qy,OwAll.length t]
theorem OwAll.append:∀ {vs ds as ws es bs},OwAll K H vs ds as->OwAll K H ws es bs->OwAll K H (vs++ws) (ds++es) (as++bs)
 | _,_,_,_,_,_,.nil,s=>s
 | _,_,_,_,_,_,.cons r t,s=>by rw[Qw];exact .cons r (OwAll.append t s)
theorem OwAll.flats:∀ {vs ds},IsAll K F H vs ds->L3.flats ds=true->OwAll K H vs ds []
 | _,_,.nil,_ => .nil
 | _,_,.cons r t,f=>by
   rw[L3.flats,Qp] at f
   exact OwAll.cons (as := []) (.leaf f.1 (r.flat (TupStay.refl _) f.1)) (OwAll.flats t f.2)
theorem OwAll.at:∀ {vs:List V} {ds as} {k:Nat} {d},OwAll K H vs ds as->ds[k]? = some d->∃ v cs rest,vs[k]? = some v/\Ow K H v d cs/\as.Perm (cs++rest) /\
 (∀ H' v' d' cs',TupStay H H'->(∀ a ∈ rest,∀ xs,H a=some (.lst xs)->H' a=some (.lst xs))->Ow K H' v' d' cs'->∃ as',OwAll K H' (vs.set k v') (ds.set k d') as'/\as'.Perm (cs'++rest))
 | _,_,_,_,_,.nil,e=>by simp at e
 | _,_,_,0,_,.cons (as:=as) (bs:=bs) r t,e=>by
   cases e
   exact⟨_,as,bs,rfl,r,.refl _,λH' v' d' cs' ts h o=>⟨_,.cons o (t.to ts h),.refl _⟩⟩
 | _,_,_,k+1,d,.cons (as:=as) (bs:=bs) r t,e=>by
   obtain⟨v,cs,rest,h1,h2,h3,h4⟩:=OwAll.at (k:=k) (d:=d) t (by simpa using e)
   refine⟨v,cs,as++rest,by simpa using h1,h2,?_,λH' v' d' cs' ts h o=>?_⟩
   ·exact(h3.append_left as).trans (by rw[<- Qw,<- Qw];exact Y7.append_right _)
   ·obtain⟨as',o1,o2⟩:=h4 H' v' d' cs' ts (λa m=>h a (QB _ m)) o
    refine⟨_,.cons (r.to ts λa m=>h a (QW _ m)) o1,?_⟩
    exact(o2.append_left as).trans (by rw[<- Qw,<- Qw];exact Y7.append_right _)
end
def OwnT(d:PyData):Thg:=⟨λK F W H v=>∃ as:List Addr,as.Nodup/\(∀ a ∈ as,W a)/\Ow K H v d as,λ{K F F' W W' H H' v} hF hW ts h=>by
 obtain⟨as,n,m,o⟩:=h
 exact⟨as,n,λa z=>by obtain⟨xs,q⟩:=o.mem z;exact(hW a _ (m a z) q).1,o.to ts λa z xs q=>(hW a _ (m a z) q).2⟩⟩
def dget:PyData->List Nat->Option PyData
 | d,[]=>some d
 | .list ds,k::p=>match ds[k]? with
   | some d=>dget d p
   | none=>Zw
 | .tuple ds,k::p=>match ds[k]? with
   | some d=>dget d p
   | none=>Zw
 | _,_::_=>Zw
def dset:PyData->List Nat->PyData->PyData
 | _,[],e=>e
 | .list ds,k::p,e=>match ds[k]? with
   | some d => .list (ds.set k (dset d p e))
   | none => .list ds
 | .tuple ds,k::p,e=>match ds[k]? with
   | some d => .tuple (ds.set k (dset d p e))
   | none => .tuple ds
 | d,_::_,_=>d
inductive Nd (H:Hp) (U:Addr->Prop):V->PyData->List Nat->V->PyData->Prop
 | nil {v d}:Nd H U v d [] v d
 | list {a xs ds k v d p w e}:U a->H a=some (.lst xs)->xs[k]? = some v->ds[k]? = some d->Nd H U v d p w e->Nd H U (.ref a) (.list ds) (k::p) w e
 | tuple {a xs ds k v d p w e}:H a=some (.tup xs)->xs[k]? = some v->ds[k]? = some d->Nd H U v d p w e->Nd H U (.ref a) (.tuple ds) (k::p) w e
section
variable {K : Qa} {H H' : Hp} {U : Addr → Prop}
theorem Nd.to(ts:TupStay H H')(h:∀ a xs,U a->H a=some (.lst xs)->H' a=some (.lst xs)):∀ {v d p w e},Nd H U v d p w e->Nd H' U v d p w e
 | _,_,_,_,_,.nil => .nil
 | _,_,_,_,_,.list u q h1 h2 t => .list u (h _ _ u q) h1 h2 (t.to ts h)
 | _,_,_,_,_,.tuple q h1 h2 t => .tuple (ts _ _ ⟨_,.inl rfl⟩ q) h1 h2 (t.to ts h)
theorem Nd.get:∀ {v d p w e},Nd H U v d p w e->dget d p=some e
 | _,_,_,_,_,.nil=>rfl
 | _,_,_,_,_,.list u q h1 h2 t=>by rw[dget,h2];exact t.get
 | _,_,_,_,_,.tuple q h1 h2 t=>by rw[dget,h2];exact t.get
theorem Nd.snocL{a:Addr}{xs:List V}{ds:List PyData}{k:Nat}{w:V}{e:PyData}(u:U a)(q:H a=some (.lst xs))(h1:xs[k]? = some w)(h2:ds[k]? = some e):∀ {v d p},Nd H U v d p (.ref a) (.list ds)->Nd H U v d (p ++ [k]) w e
 | _,_,_,.nil => .list u q h1 h2 .nil
 | _,_,_,.list u' q' g1 g2 t => .list u' q' g1 g2 (t.snocL u q h1 h2)
 | _,_,_,.tuple q' g1 g2 t => .tuple q' g1 g2 (t.snocL u q h1 h2)
theorem Nd.snocT{a:Addr}{xs:List V}{ds:List PyData}{k:Nat}{w:V}{e:PyData}(q:H a=some (.tup xs))(h1:xs[k]? = some w)(h2:ds[k]? = some e):∀ {v d p},Nd H U v d p (.ref a) (.tuple ds)->Nd H U v d (p ++ [k]) w e
 | _,_,_,.nil => .tuple q h1 h2 .nil
 | _,_,_,.list u' q' g1 g2 t => .list u' q' g1 g2 (t.snocT q h1 h2)
 | _,_,_,.tuple q' g1 g2 t => .tuple q' g1 g2 (t.snocT q h1 h2)
theorem zfd{ds:List PyData}:¬ flat (.list ds)=true:=by simp[flat]
theorem zmy:∀ {p:List Nat} {d e:PyData},flat d=true->dget d p=some e->flat e=true
 | [],d,e,f,h=>by cases h;exact f
 | k::p,d,e,f,h=>by
   cases d with
   | tuple ds =>
     rw[dget] at h
     cases q:ds[k]? with
     | none=>rw[q] at h;cases h
     | some x =>
       rw[q] at h
       have f':flats ds=true:=by rw[flat] at f;exact f
       exact zmy (flats_iff.mp f' x (Zl q)) h
   | list ds=>exact absurd f zfd
   | _=>simp[dget] at h
theorem Ow.put:∀ {v0 d as p} {a:Addr} {es:List PyData},Ow K H v0 d as->as.Nodup->Nd H U v0 d p (.ref a) (.list es)->∃ xs cs rest,H a=some (.lst xs)/\OwAll K H xs es cs/\as.Perm (a::cs++rest) /\
 ∀ H' ys es' bs,TupStay H H'->(∀ b ∈ rest,∀ zs,H b=some (.lst zs)->H' b=some (.lst zs))->H' a=some (.lst ys)->OwAll K H' ys es' bs->∃ as',Ow K H' v0 (dset d p (.list es')) as'/\as'.Perm (a::bs++rest)
 | _,_,_,[],_,_,o,nd,.nil=>by
   cases o with
   | leaf f i=>exact absurd f zfd
   | list q r=>exact⟨_,_,[],q,r,by simp,λH' ys es' bs ts h hy o'=>⟨_,.list hy o',by simp⟩⟩
 | _,_,_,k::p,a,es,o,nd,t=>by
   cases t with
   | @list a0 xs ds _ v d1 _ _ _ u q h1 h2 t =>
     cases o with
     | leaf f i=>exact absurd f zfd
     | @list _ xs0 ds0 as0 q0 r0 =>
       rw[q] at q0
       cases q0
       obtain⟨v',cs,rest,g1,g2,g3,g4⟩:=r0.at h2
       rw[h1] at g1
       cases g1
       have n0:(cs++rest).Nodup:=g3.nodup_iff.mp (Zr.mp nd).2
       obtain⟨ys,cs',rest',k1,k2,k3,k4⟩:=Ow.put g2 (JK.mp n0).1 t
       refine⟨ys,cs',a0::(rest'++rest),k1,k2,?_,λH' zs es' bs ts h hy o'=>?_⟩
       ·have e1:as0.Perm (a::cs'++(rest'++rest)):=g3.trans (by rw[<- Qw];exact k3.append_right rest)
        exact(e1.cons a0).trans (qY.symm)
       ·obtain⟨as1,o1,p1⟩:=k4 H' zs es' bs ts (λb m=>h b (Qj _ (QW _ m))) hy o'
        obtain⟨as2,o2,p2⟩:=g4 H' v _ as1 ts (λb m=>h b (Qj _ (QB _ m))) o1
        have es0:xs.set k v=xs:=by
         apply Y1
         intro j
         by_cases e:k=j
         ·subst e;rw[QG (QE.mp h1).1,h1]
         ·rw[QF e]
        rw[es0] at o2
        refine⟨a0::as2,?_,?_⟩
        ·rw[dset,h2]
         exact .list (h a0 (by simp) _ q) o2
        ·have e2:as2.Perm (a::bs++(rest'++rest)):=p2.trans (by rw[<- Qw];exact p1.append_right rest)
         exact(e2.cons a0).trans (qY.symm)
   | @tuple a0 xs ds _ v d1 _ _ _ q h1 h2 t =>
     cases o with
     | leaf f i =>
       have:=zmy f (Nd.get (.tuple (U:=U) q h1 h2 t))
       exact absurd this zfd
     | @tuple _ xs0 ds0 as0 q0 r0 =>
       rw[q] at q0
       cases q0
       obtain⟨v',cs,rest,g1,g2,g3,g4⟩:=r0.at h2
       rw[h1] at g1
       cases g1
       have n0:(cs++rest).Nodup:=g3.nodup_iff.mp nd
       obtain⟨ys,cs',rest',k1,k2,k3,k4⟩:=Ow.put g2 (JK.mp n0).1 t
       refine⟨ys,cs',rest'++rest,k1,k2,?_,λH' zs es' bs ts h hy o'=>?_⟩
       ·exact g3.trans (by rw[<- Qw];exact k3.append_right rest)
       ·obtain⟨as1,o1,p1⟩:=k4 H' zs es' bs ts (λb m=>h b (QW _ m)) hy o'
        obtain⟨as2,o2,p2⟩:=g4 H' v _ as1 ts (λb m=>h b (QB _ m)) o1
        have es0:xs.set k v=xs:=by
         apply Y1
         intro j
         by_cases e:k=j
         ·subst e;rw[QG (QE.mp h1).1,h1]
         ·rw[QF e]
        rw[es0] at o2
        refine⟨as2,?_,?_⟩
        ·rw[dset,h2]
         exact .tuple (ts _ _ ⟨_,.inl rfl⟩ q) o2
        ·exact p2.trans (by rw[<- Qw];exact p1.append_right rest)
end
section
variable {K : Qa} {O : Ob} {H₀ H H' : Hp} {A : Nat → Addr → Prop} {σ : St} {ρ : DSt}
def vTr(i:Nat):DE:=λρ Q=>∃ d,ρ[i]? = some (some (.thg (OwnT d)))/\Q (.o d)
theorem zu2{i:Nat}{d:PyData}(S:Seen K O H σ ρ)(e:ρ[i]? = some (some (.thg (OwnT d)))):∃ v as,σ[i]? = some (some v)/\as.Nodup/\Ow K H v d as/\∀ a ∈ as,¬ O.M a:=by
 obtain⟨v,hv,W,hw,as,nd,m,o⟩:=S.at_ i _ e
 exact⟨v,as,hv,nd,o,λa z=>(hw a (m a z)).1⟩
theorem z3d{i:Nat}:ED K O (tVar i) (vTr i):=λσ H ρ Q Qd S h k=>by
 obtain⟨d,e,h⟩:=h
 obtain⟨v,as,hv,nd,o,m⟩:=zu2 S e
 exact⟨v,hv,k _ H (.o d) (.refl _ _) (o.is m) h⟩
abbrev DOw:=DSt->(PyData->Prop)->Prop
def EOw(K:Qa)(O:Ob)(t:TE)(f:DOw):Prop :=
 ∀ (σ:St) (H:Hp) (ρ:DSt) (Q:VK) (Qd:PyData->Prop),Seen K O H σ ρ->f ρ Qd->(∀ v H' d as,Stp O H H'->Ow K H' v d as->as.Nodup->(∀ a ∈ as,H a=Zw)->Qd d->Q v H')->t σ H Q
abbrev DOs:=DSt->(List PyData->Prop)->Prop
def AOw(K:Qa)(O:Ob)(t:TA)(f:DOs):Prop :=
 ∀ (σ:St) (H:Hp) (ρ:DSt) (Q:List V->Hp->Prop) (Qd:List PyData->Prop),Seen K O H σ ρ->f ρ Qd->(∀ vs H' ds as,Stp O H H'->OwAll K H' vs ds as->as.Nodup->(∀ a ∈ as,H a=Zw)->Qd ds->Q vs H')->t σ H Q
def zzm(f:DE):DOw:=λρ Q=>f ρ λr=>match r with
 | .o d=>flat d=true/\Q d
 | .n ds=>flats ds=true/\Q (.list ds)
theorem z2p{t:TE}{f:DE}(h:ED K O t f):EOw K O t (zzm f):=λσ H ρ Q Qd S hf k=>by
 refine h σ H ρ _ _ S hf λv H1 r s1 o1 q=>?_
 cases r with
 | o d=>exact k v H1 d [] s1 (.leaf q.1 (Is.flat (TupStay.refl _) o1 q.1)) .nil (λ_ m=>(Qo m).elim) q.2
 | n ds =>
   obtain⟨a,xs,rfl,hn,hl,hs⟩:=o1
   exact k _ H1 (.list ds) [a] s1 (.list hl (OwAll.flats hs q.1)) (by simp) (λb m=>by rw[Qu.mp m];exact hn) q.2
def oNil:DOs:=λ_ Q=>Q []
def z0i(f:DOw)(g:DOs):DOs:=λρ Q=>f ρ λd=>g ρ λds=>Q (d::ds)
theorem z8e:AOw K O tNil oNil:=λσ H ρ Q Qd S h k=>k [] H [] [] (.refl _ _) .nil .nil (λ_ m=>(Qo m).elim) h
theorem zov{H:Hp}{v:V}{d:PyData}{as:List Addr}(s:Stp O H H')(n:∀ a ∈ as,¬ O.M a)(o:Ow K H v d as):Ow K H' v d as:=o.to s.t λa m xs q=>s.s a _ q (n a m)
theorem zuw{H:Hp}{v:List V}{d:List PyData}{as:List Addr}(s:Stp O H H')(n:∀ a ∈ as,¬ O.M a)(o:OwAll K H v d as):OwAll K H' v d as:=o.to s.t λa m xs q=>s.s a _ q (n a m)
theorem zfz{a:Addr}(ok:O.Ok)(p:O.P H)(h:H a=Zw):¬ O.M a:=λm=>by obtain⟨o,z⟩:=ok.here H a p m;rw[h] at z;cases z
theorem z2r{t:TE}{u:TA}{f:DOw}{g:DOs}(h:EOw K O t f)(h':AOw K O u g):AOw K O (zbb t u) (z0i f g):=λσ H ρ Q Qd S hf k=>by
 refine h σ H ρ _ _ S hf λv H1 d as s1 o1 n1 f1 q=>?_
 refine h' σ H1 ρ _ _ (S.stp s1) q λvs H2 ds bs s2 o2 n2 f2 q2=>?_
 have m1:∀ a ∈ as,¬ O.M a:=λa m=>zfz S.ok S.p (f1 a m)
 have m2:∀ a ∈ bs,¬ O.M a:=λa m=>zfz S.ok (s1.p S.p) (f2 a m)
 refine k (v::vs) H2 (d::ds) (as++bs) (s1.trans s2) (.cons (zov s2 m1 o1) o2) (JK.mpr ⟨n1,n2,λa ma b mb e=>?_⟩) (λa m=>?_) q2
 ·subst e
  obtain⟨xs,z⟩:=o1.mem ma
  rw[f2 a mb] at z
  cases z
 ·rcases Qx.mp m with m|m
  ·exact f1 a m
  ·exact s1.s.free (m2 a m) (f2 a m)
def oTup(g:DOs):DOw:=λρ Q=>g ρ λds=>ds.length<=sizeLine/\Q (.tuple ds)
theorem z8f{u:TA}{g:DOs}(h:AOw K O u g):EOw K O (tTup u) (oTup g):=λσ H ρ Q Qd S hf k=>by
 refine h σ H ρ _ _ S hf λvs H1 ds as s1 o1 n1 f1 ⟨z,q⟩=>⟨by rw[o1.length];exact z,λp hp=>?_⟩
 have s2:Stp O H1 (upd H1 p (.tup vs)) := .new S.ok hp _
 exact k _ _ (.tuple ds) as (s1.trans s2) (.tuple zap (zuw s2 (λa m=>zfz S.ok S.p (f1 a m)) o1)) n1 f1 q
def zzq(i:Nat)(f:DOw):DS:=λDd ρ=>f ρ λd=>Dd.nx (ρ.set i (some (.thg (OwnT d))))
theorem z3y{i:Nat}{t:TE}{f:DOw}(h:EOw K O t f):SD K O (tAsg t (zbs i)) (zzq i f):=λH₀ A σ H ρ D Dd r q P=>by
 refine h σ H ρ _ _ r.seen q λv H1 d as s1 o1 n1 f1 q1=>?_
 have m1:∀ a ∈ as,¬ O.M a:=λa m=>zfz r.ok r.p (f1 a m)
 have hW:∀ b,b ∈ as->(A i b\/H b=Zw)/\∃ o,H1 b=some o/\OwnO o:=λb m=>⟨.inr (f1 b m),by obtain⟨xs,z⟩:=o1.mem m;exact⟨_,z,.lst⟩⟩
 exact P.nx _ _ H1 _ (r.setT (W:=λb=>b ∈ as) (T:=OwnT d) s1 (λb u e _=>e) hW ⟨as,n1,λ_ m=>m,o1⟩) (.setT s1 (λb u e _=>e) λb m=>(hW b m).1) q1
abbrev DL:=DSt->PyData->(List Nat->PyData->Prop)->Prop
def LocE(K:Qa)(O:Ob)(i:Nat)(t:TE)(f:DL):Prop :=
 ∀ (σ:St) (H:Hp) (ρ:DSt) (Q:VK) (Qd:List Nat->PyData->Prop) (U:Addr->Prop) (d:PyData) (v0:V) (as:List Addr),Seen K O H σ ρ->ρ[i]? = some (some (.thg (OwnT d)))->σ[i]? = some (some v0)->Ow K H v0 d as->(∀ a ∈ as,U a)->(∀ a,U a->¬ O.M a)->f ρ d Qd ->
   (∀ v H' p e cs,Stp O H H'->Nd H' U v0 d p v e->Ow K H' v e cs->(∀ a ∈ cs,U a)->Qd p e->Q v H')->t σ H Q
def lVar:DL:=λ_ d Q=>Q [] d
theorem z8s{i:Nat}:LocE K O i (tVar i) lVar:=λσ H ρ Q Qd U d v0 as S e hv o m n hf k=>⟨v0,hv,k v0 H [] d as (.refl _ _) .nil o m hf⟩
def kids:PyData->Option (List PyData)
 | .list ds=>some ds
 | .tuple ds=>some ds
 | _=>Zw
def lIx(f1:DL)(f2:DE):DL:=λρ d Q=>f1 ρ d λp e=>f2 ρ λr=>∃ (z:Int) (ds:List PyData) (k:Nat) (e':PyData),flat e=false/\r.d = .int z/\kids e=some ds/\ixN ds.length z=some k/\ds[k]? = some e'/\Q (p ++ [k]) e'
theorem ybp{i:Nat}{t1 t2:TE}{f1:DL}{f2:DE}(h1:LocE K O i t1 f1)(h2:ED K O t2 f2):LocE K O i (tOp (rIx K) t1 t2) (lIx f1 f2):=λσ H ρ Q Qd U d v0 as S e hv o m n hf k=>by
 refine h1 σ H ρ _ _ U d v0 as S e hv o m n hf λv H1 p x cs s1 nd o1 m1 q0=>?_
 refine h2 σ H1 ρ _ _ (S.stp s1) q0 λy H2 r s2 o2 ⟨z,ds,j,e',fl,er,ek,ix,he,q⟩=>?_
 clear q0
 have nd2:=nd.to s2.t λa xs u q=>s2.s a _ q (n a u)
 have oo:=zov s2 (λa z=>n a (m1 a z)) o1
 have iy:=o2.is S.ok (s1.p S.p)
 rw[er] at iy
 cases iy
 cases oo with
 | leaf f1 _=>rw[fl] at f1;cases f1
 | @list a xs ds' as' q1 r1 =>
   cases ek
   obtain⟨w,cs',rest,g1,g2,g3,_⟩:=r1.at he
   refine .inl ⟨a,xs,z,w,rfl,rfl,.of q1,?_,k w H2 (p ++ [j]) e' cs' (s1.trans s2) (nd2.snocL (m1 a (by simp)) q1 g1 he) g2 (λb z=>m1 b (Qj _ (g3.mem_iff.mpr (QW _ z)))) q⟩
   unfold atI
   rw[r1.length,ix]
   exact g1
 | @tuple a xs ds' as' q1 r1 =>
   cases ek
   obtain⟨w,cs',rest,g1,g2,g3,_⟩:=r1.at he
   refine .inr (.inl ⟨a,xs,z,w,rfl,rfl,.of q1,?_,k w H2 (p ++ [j]) e' cs' (s1.trans s2) (nd2.snocT q1 g1 he) g2 (λb z=>m1 b (g3.mem_iff.mpr (QW _ z))) q⟩)
   unfold atI
   rw[r1.length,ix]
   exact g1
def z0p(i:Nat)(fl:DL)(fe:DOw):DS:=λDd ρ=>∃ d,ρ[i]? = some (some (.thg (OwnT d)))/\fl ρ d λp e=>∃ ds,e = .list ds/\fe ρ λx=>ds.length<sizeLine/\Dd.nx (ρ.set i (some (.thg (OwnT (dset d p (.list (ds ++ [x])))))))
theorem z4x{as bs:List Addr}(h:as.Perm bs){a:Addr}(m:a ∈ bs):a ∈ as:=h.mem_iff.mpr m
theorem Rep.putT{i:Nat}{d:PyData}{v0:V}{a:Addr}{p:List Nat}{es:List PyData}{H1 H2:Hp}(r:Rep K O H₀ A H σ ρ)(e:ρ[i]? = some (some (.thg (OwnT d))))(hv:σ[i]? = some (some v0))(s1:Stp O H H1)(s2:Stp O H1 H2)(nd:Nd H1 (A i) v0 d p (.ref a) (.list es)) :
 ∃ xs cs,H2 a=some (.lst xs)/\OwAll K H2 xs es cs/\xs.length=es.length/\(∀ ys,TupStay H2 (upd H2 a (.lst ys)))/\a ∉ cs/\∀ ys es' bs news,OwAll K (upd H2 a (.lst ys)) ys es' bs->bs.Perm (cs++news)->news.Nodup->(∀ b ∈ news,H1 b=Zw/\∃ zs,H2 b=some (.lst zs)) ->
   ∃ W:Addr->Prop,Rep K O H₀ (reg A i W) (upd H2 a (.lst ys)) σ (ρ.set i (some (.thg (OwnT (dset d p (.list es'))))))/\Frm O A H (reg A i W) (upd H2 a (.lst ys)):=by
 obtain⟨v1,hv1,as,n0,m0,o0⟩:=r.at_ i _ e
 rw[hv] at hv1
 cases hv1
 have nM:∀ b,A i b->¬ O.M b:=λb z=>(r.own i b z).2.2
 have s12:=s1.trans s2
 have o2:=zov s12 (λb m=>nM b (m0 b m)) o0
 have nd2:=nd.to s2.t λb xs u q=>s2.s b _ q (nM b u)
 obtain⟨xs,cs,rest,hx,ox,pm,put⟩:=o2.put n0 nd2
 have n1:(a::cs++rest).Nodup:=pm.nodup_iff.mp n0
 have Aa:A i a:=m0 a (z4x pm (by simp))
 have stay:∀ ys b u,H2 b=some u->¬ A i b->upd H2 a (.lst ys) b=some u:=λys b u q z=>by rw[zaf (show b ≠ a from λw=>z (by rw[w];exact Aa))];exact q
 have ts:∀ ys,TupStay H2 (upd H2 a (.lst ys)):=λys=>(r.stp s12).tstay (stay ys)
 refine⟨xs,cs,hx,ox,ox.length,ts,λz=>(Zr.mp n1).1 (QW _ z),λys es' bs news oy pb nn hn=>?_⟩
 have ra:∀ b ∈ rest,b ≠ a:=λb m w=>by
  subst w
  exact(Zr.mp n1).1 (QB _ m)
 obtain⟨as',o3,pm'⟩:=put _ ys es' bs (ts ys) (λb m zs q=>by rw[zaf (ra b m)];exact q) zap oy
 have pf:as'.Perm (as++news):=by
  refine pm'.trans ?_
  have e1:(a::bs++rest).Perm (a::(cs++news)++rest):=(pb.append_right rest).cons a
  refine e1.trans ?_
  have e2:(a::(cs++news)++rest).Perm (a::cs++rest++news):=by
   show(a::(cs++news++rest)).Perm (a::(cs++rest++news))
   refine zn a ?_
   rw[Qw,Qw]
   exact Y7.append_left cs
  exact e2.trans (pm.symm.append_right news)
 have fr:∀ b ∈ news,H b=Zw:=λb m=>by
  obtain⟨h1,zs,h2⟩:=hn b m
  cases q:H b with
  | none=>rfl
  | some o =>
    have:¬ O.M b:=zfz r.ok (s1.p r.p) h1
    rw[s1.s b o q this] at h1
    cases h1
 have nd3:as'.Nodup:=pf.nodup_iff.mpr (JK.mpr ⟨n0,nn,λb m c m' w=>by
  subst w
  obtain⟨_,⟨o,q,_⟩,_⟩:=r.own i b (m0 b m)
  rw[fr b m'] at q
  cases q⟩)
 have hW:∀ b,b ∈ as'->(A i b\/H b=Zw)/\∃ o,upd H2 a (.lst ys) b=some o/\OwnO o:=λb m=>by
  refine⟨?_,by obtain⟨zs,z⟩:=o3.mem m;exact⟨_,z,.lst⟩⟩
  rcases Qx.mp (pf.mem_iff.mp m) with m|m
  ·exact .inl (m0 b m)
  ·exact .inr (fr b m)
 refine⟨λb=>b ∈ as',?_,Frm.setT s12 (stay ys) λb m=>(hW b m).1⟩
 have rr:=r.setT (T:=OwnT (dset d p (.list es'))) (v:=v0) s12 (stay ys) hW ⟨as',nd3,λ_ m=>m,o3⟩
 rw[zyk hv] at rr
 exact rr
theorem z1w{i:Nat}{tr te:TE}{fl:DL}{fe:DOw}(hl:LocE K O i tr fl)(he:EOw K O te fe):SD K O (zhn (tBM K "list" zfx tr (zbb te tNil))) (z0p i fl fe):=λH₀ A σ H ρ D Dd r q P=>by
 obtain⟨d,e,q⟩:=q
 obtain⟨v0,hv,as,n0,m0,o0⟩:=r.at_ i _ e
 refine hl σ H ρ _ _ (A i) d v0 as r.seen e hv o0 m0 (λa z=>(r.own i a z).2.2) q λv H1 p x cs s1 nd o1 m1 q1=>?_
 obtain⟨ds,rfl,q1⟩:=q1
 cases o1 with
 | leaf f _=>exact absurd f zfd
 | @list a xs _ cs' hx ox =>
   refine⟨.inl ⟨rfl,xs,.of hx⟩,?_⟩
   refine he σ H1 ρ _ _ (r.stp s1).seen q1 λw H2 y bs s2 o2 n2 f2 ⟨hz,q2⟩=>?_
   obtain⟨xs2,cs2,hx2,ox2,ln,ts,nc,put⟩:=r.putT e hv s1 s2 nd
   refine⟨a,xs2,w,rfl,rfl,hx2,by rw[ln];exact hz,?_⟩
   have na:∀ b ∈ bs,b ≠ a:=λb m z=>by
    have:=f2 b m
    rw[z,hx] at this
    cases this
   have up:∀ b,b ≠ a->∀ zs,H2 b=some (.lst zs)->upd H2 a (.lst (xs2 ++ [w])) b=some (.lst zs):=λb n zs q=>by rw[zaf n];exact q
   obtain⟨W,rr,ff⟩:=put (xs2 ++ [w]) (ds ++ [y]) (cs2++(bs ++ [])) bs ((ox2.to (ts _) λb m zs q=>up b (λz=>nc (z ▸ m)) zs q).append (.cons (o2.to (ts _) λb m zs q=>up b (na b m) zs q) .nil)) (by rw[QU]) n2 λb m=>⟨f2 b m,o2.mem m⟩
   exact P.nx _ σ _ _ rr ff q2
end
def Eo3{ι κ:Type}(K:Qa)(X:ι->Cx)(O:κ->Ob)(e:Expr)(f:DOw):Prop:=∃ t,(∀ i,PE (X i) e t)/\∀ j,EOw K (O j) t f
def Ao3{ι κ:Type}(K:Qa)(X:ι->Cx)(O:κ->Ob)(es:List Expr)(f:DOs):Prop:=∃ t,(∀ i,PA (X i) es t)/\∀ j,AOw K (O j) t f
def Lo3{ι κ:Type}(K:Qa)(X:ι->Cx)(O:κ->Ob)(n:Nat)(e:Expr)(f:DL):Prop:=∃ t,(∀ i,PE (X i) e t)/\∀ j,LocE K (O j) n t f
section
variable {ι κ : Type} {P : Program} {w : World} {K : Qa} {mg : Str → Option Value} {base : Heap} {k : Nat} {X : ι → Cx} {O : κ → Ob} {a b : Expr} {es : List Expr} {fa fb : DE} {fo : DOw} {go : DOs} {fl : DL} {st : Stmt} {g : DS} {pos : Pos}
theorem zuc(n:Nat){x:Str}(hN:∀ i,(X i).N[n]? = some x:=by intro i;rfl)(hv:∀ i,Vis (X i).env.scope x:=by intro i;first|exact Or.inl rfl|exact Or.inr (Or.inl rfl)|exact Or.inr (Or.inr rfl))
 (hd:(x == ("__debug__" : Str))=false:=by decide) (hcd:(x == ("__classdict__" : Str))=false:=by decide):E3 K X O (.Name x pos) (vTr n):=⟨_,λi=>zaq (hN i) (hv i) hd hcd,λj=>z3d⟩
theorem zk1(h:E3 K X O a fa):Eo3 K X O a (zzm fa):=let ⟨_,p,d⟩:=h; ⟨_,p,λj=>z2p (d j)⟩
theorem yav:Ao3 K X O [] oNil:=⟨_,λi=>zb9,λj=>z8e⟩
theorem zqv(ha:Eo3 K X O a fo)(hr:Ao3 K X O es go)(hs:∀ i,starEach (a::es) (X i).env=(false,eval a (X i).env)::starEach es (X i).env:=by intro i;rfl):Ao3 K X O (a::es) (z0i fo go):=let ⟨_,p,d⟩:=ha;let ⟨_,p2,d2⟩:=hr; ⟨_,λi=>za7 (p i) (p2 i) (hs i),λj=>z2r (d j) (d2 j)⟩
theorem yby{n:Nat}(h:Ao3 K X O es go):Eo3 K X O (.Tuple es n pos) (oTup go):=let ⟨_,p,d⟩:=h; ⟨_,λi=>zkz (p i),λj=>z8f (d j)⟩
theorem zz1(n:Nat){x:Str}(hN:∀ i,(X i).N[n]? = some x:=by intro i;rfl)(hv:∀ i,Vis (X i).env.scope x:=by intro i;first|exact Or.inl rfl|exact Or.inr (Or.inl rfl)|exact Or.inr (Or.inr rfl))
 (hd:(x == ("__debug__" : Str))=false:=by decide) (hcd:(x == ("__classdict__" : Str))=false:=by decide):Lo3 K X O n (.Name x pos) lVar:=⟨_,λi=>zaq (hN i) (hv i) hd hcd,λj=>z8s⟩
theorem l_ix{n:Nat}(C:Ctx3 P w K mg base k X)(ha:Lo3 K X O n a fl)(hb:E3 K X O b fb)(hs:zha b:=by intro _ _;rfl):Lo3 K X O n (.Subscript a b pos) (lIx fl fb) :=
 let ⟨_,p1,d1⟩:=ha;let ⟨_,p2,d2⟩:=hb; ⟨tOp (rIx K) _ _,λi=>by have h:=zby (pos:=pos) (zkh (X:=X i)) (p1 i) (p2 i) hs;rw[C.hK] at h;exact h,λj=>ybp (d1 j) (d2 j)⟩
theorem ya3(n:Nat){x:Str}{px:Pos}(ha:Eo3 K X O a fo)(hN:∀ i,(X i).N.Nodup:=by intro i;exact of_decide_eq_true (by kernel_rfl))(hi:∀ i,(X i).N[n]? = some x:=by intro i;rfl)(hx:∀ i,Loc (X i).env.scope x:=by intro i;first|exact Or.inl rfl|exact Or.inr rfl)
 (hs:∀ i,swapsWith a (some (.Name x px)) pos.line (X i).env=pure false:=by intro i;rfl) (hf:∀ i,(X i).fn x=true\/(X i).env.scope.names.lookup x=some .local:=by intro i;first|exact .inl rfl|exact .inr rfl):S3 K X O (.Assign [.Name x px] a pos) (zzq n fo) :=
 let ⟨_,p,d⟩:=ha; ⟨_,λi=>zdi (hN i) (hi i) (hx i) (p i) (hs i) (hf i),λj=>z3y (d j)⟩
theorem zu4(n:Nat){apos cpos:Pos}(C:Ctx3 P w K mg base k X)(hr:Lo3 K X O n a fl)(hb:Eo3 K X O b fo)
 (hbase:∀ i,attributeBase a "append" (X i).env (eval a (X i).env)=eval a (X i).env:=by intro i;rfl)
 (hfew:∀ i,((backTo cpos (starEach [b] (X i).env)).all (λx=>!x.1) && (backToKw cpos (keywordEach [] (X i).env)).all (λx=>x.1.isSome) && decide (([b]:List Expr).length+([]:List Keyword).length+(if([]:List Keyword).isEmpty then 0 else 1)<30))=true:=by intro i;rfl)
 (hline:(apos.endLine == cpos.line)=true:=by rfl) (hs:∀ i,starEach [b] (X i).env = [(false,eval b (X i).env)]:=by intro i;rfl) (hsw:∀ i,swapsWith (.Call (.Attribute a "append" apos) [b] [] cpos) Zw pos.line (X i).env=pure false:=by intro i;rfl) :
 S3 K X O (.Expr (.Call (.Attribute a "append" apos) [b] [] cpos) pos) (z0p n fl fo):=let ⟨_,p1,d1⟩:=hr;let ⟨_,p2,d2⟩:=hb;
 ⟨zhn (tBM K "list" zfx _ (zbb _ tNil)),λi=>by
  have h:=zj1 (apos:=apos) (cpos:=cpos) Yp jy jz (zj5 (X:=X i)) (p1 i) (za7 (p2 i) zb9 (hs i)) (hbase i) (hfew i) hline (hs i)
  rw[C.hK] at h
  exact zlc h (hsw i),λj=>z1w (d1 j) (d2 j)⟩
end
def Glo(K:Qa)(mg:Str->Option Value)(x:Str)(d:PyData):Prop:=∃ v u,mg x=some u/\RelV v u/\∀ F H,Is K F H v d
def zk3:List Value->List Str->Prop
 | [],[]=>True
 | u::us,x::xs=>(∃ t,u = .str x t)/\zk3 us xs
 | _,_=>False
theorem zgq{K:Qa}{F:Addr->Prop}{H:Hp}:∀ {us:List Value} {xs:List Str},zk3 us xs->Vals (xs.map V.str) us/\IsAll K F H (xs.map V.str) (xs.map .str)
 | [],[],_=>⟨.nil,.nil⟩
 | [],_::_,h=>h.elim
 | _::_,[],h=>h.elim
 | u::us,x::xs,h=>by
   obtain⟨⟨t,rfl⟩,h⟩:=h
   obtain⟨h1,h2⟩:=zgq (K:=K) (F:=F) (H:=H) h
   exact⟨.cons ⟨t,rfl⟩ h1,.cons (.str x) h2⟩
structure TupIn (K:Qa) (x:Str) (xs:List Str):Prop where
 ex:∃ (a:Addr) (od:Option Addr) (its:Array Value) (n:Nat) (sl:Array (Option Value)),Q0 K mainGlobals x=some (some (.ref a))/\K.lookup a=some ⟨.type "tuple", od,.seq its n,sl⟩/\its.size<=sizeLine/\zk3 its.toList xs
theorem tupIn_mk{K:Qa}{x:Str}{xs:List Str}{a:Addr}{od:Option Addr}{its:Array Value}{n:Nat}{sl:Array (Option Value)}(h1:Q0 K mainGlobals x=some (some (.ref a)))(h2:K.lookup a=some ⟨.type "tuple", od,.seq its n,sl⟩)(h3:its.size<=sizeLine)(h4:zk3 its.toList xs):TupIn K x xs:=⟨a,od,its,n,sl,h1,h2,h3,h4⟩
theorem TupIn.glo{K:Qa}{x:Str}{xs:List Str}{h:Heap}{mg:Str->Option Value}(T:TupIn K x xs)(X:K.In h)(G:h.Ns mainGlobals mg):Glo K mg x (.tuple (xs.map .str)):=by
 obtain⟨a,od,its,n,sl,h1,h2,h3,h4⟩:=T.ex
 exact⟨.ref a,.ref a,ZR X G h1,rfl,λF H => .tuple (.inr ⟨_,its,n,h2,rfl,rfl,h3,(zgq (K:=K) (F:=F) (H:=H) h4).1⟩) (zgq h4).2⟩
def zku(w:World):List DictEntry->List (Str × Str)->Prop
 | [],[]=>True
 | e::es,kv::kvs=>(e.hash=hashStr w kv.1/\(∃ t,e.key = .str kv.1 t)/\∃ t,e.val = .str kv.2 t)/\zku w es kvs
 | _,_=>False
structure DctIn (K:Qa) (w:World) (x:Str) (kvs:List (Str × Str)):Prop where
 ex:∃ (a:Addr) (es:Array DictEntry) (ep:Nat),Q0 K mainGlobals x=some (some (.ref a))/\K.lookup a=some ⟨.type "dict", none,.dict es ep,#[]⟩/\(a == sysModules)=false/\zku w es.toList kvs/\(kvs.map (·.1)).Nodup
theorem dctIn_mk{K:Qa}{w:World}{x:Str}{kvs:List (Str × Str)}{a:Addr}{es:Array DictEntry}{ep:Nat}(h1:Q0 K mainGlobals x=some (some (.ref a)))(h2:K.lookup a=some ⟨.type "dict", none,.dict es ep,#[]⟩)(h3:(a == sysModules)=false)(h4:zku w es.toList kvs)(h5:(kvs.map (·.1)).Nodup):DctIn K w x kvs:=⟨a,es,ep,h1,h2,h3,h4,h5⟩
structure GDct (K:Qa) (w:World) (mg:Str->Option Value) (x:Str) (kvs:List (Str × Str)):Prop where
 ex:∃ (a:Addr) (es:Array DictEntry) (ep:Nat),mg x=some (.ref a)/\K.lookup a=some ⟨.type "dict", none,.dict es ep,#[]⟩/\(a == sysModules)=false/\zku w es.toList kvs/\(kvs.map (·.1)).Nodup
theorem DctIn.glo{K:Qa}{w:World}{x:Str}{kvs:List (Str × Str)}{h:Heap}{mg:Str->Option Value}(T:DctIn K w x kvs)(X:K.In h)(G:h.Ns mainGlobals mg):GDct K w mg x kvs:=by
 obtain⟨a,es,ep,h1,h2⟩:=T.ex
 exact⟨a,es,ep,ZR X G h1,h2⟩
theorem zjl{P:Program}{w:World}:∀ {es:List DictEntry} {kvs:List (Str × Str)},zku w es kvs->∃ vs:List (Key × Value),Pairs (zcx P w) es vs/\KV (kvs.map λkv=>((.inr kv.1:Key),V.str kv.2)) vs/\(∀ e ∈ es,∃ k,(zcx P w).is k e.key=true/\e.hash=(zcx P w).hash k)
 | [],[],_=>⟨[],.nil,(show KV [] [] from .nil),λ_ h=>(Qo h).elim⟩
 | [],_::_,h=>h.elim
 | _::_,[],h=>h.elim
 | e::es,kv::kvs,h=>by
   obtain⟨⟨h1,⟨t,h2⟩,t',h3⟩,h⟩:=h
   obtain⟨vs,g1,g2,g3⟩:=zjl (P:=P) h
   have hk:(zcx P w).is (.inr kv.1) e.key=true:=by rw[h2];exact zje P w kv.1 t
   refine⟨(.inr kv.1,.str kv.2 t')::vs,.cons hk h3 g1,.cons ⟨rfl,t',rfl⟩ g2,λe' he=>?_⟩
   rcases Ql.mp he with rfl|he
   ·exact⟨.inr kv.1,hk,h1⟩
   ·exact g3 e' he
theorem KV.keys{kvs:List (Key × V)}{vs:List (Key × Value)}(h:KV kvs vs):vs.map (·.1)=kvs.map (·.1):=by
 induction h with
 | nil=>rfl
 | cons q _ ih=>rw[Q3,Q3,ih,q.1]
theorem zm8{α β:Type}:∀ {l:List β},l.Nodup->(l.map (Yi:β->Sum α β)).Nodup
 | [],_ => .nil
 | a::l,h=>by
   rw[Q3,Zr]
   refine⟨λm=>?_,zm8 (Zr.mp h).2⟩
   obtain⟨b,hb,e⟩:=Qz.mp m
   cases e
   exact(Zr.mp h).1 hb
theorem zoj:∀ (kvs:List (Str × Str)) (k:Str),valV (kvs.map λkv=>((.inr kv.1:Key),V.str kv.2)) (.inr k)=(kvs.lookup k).map V.str
 | [],k=>rfl
 | (a,b)::kvs,k=>by
   rw[Q3,Jl]
   by_cases e:a=k
   ·subst e
    rw[zo6 rfl,beq_self_eq_true]
    rfl
   ·rw[zn0 (λz=>e (zE z)),zoj kvs k,show(k == a)=false from beq_eq_false_iff_ne.mpr λz=>e z.symm]
section
variable {X : Cx} {e : Expr} {x : Str} {pos px : Pos} {te : TE} {kvs : List (Str × Str)}
def zzz(kvs:List (Str × Str))(te:TE):TE:=λσ H Q=>te σ H λy H1=>∃ k v,y = .str k/\kvs.lookup k=some v/\Q (.str v) H1
def z0j(kvs:List (Str × Str))(te:TE):TE:=λσ H Q=>te σ H λy H1=>∃ k,y = .str k/\Q (.bl (!(kvs.lookup k).isSome)) H1
theorem zsx{pins:List (Addr × Obj)}{s:Shared}{σ:St}{H:Hp}(I:Inv X pins σ H s)(G:GDct X.K X.w X.mg x kvs):∃ (a:Addr) (vs:List (Key × Value)),X.mg x=some (.ref a)/\(a == sysModules)=false/\s.heap.DictOf (zcx X.prog X.w) a vs/\KV (kvs.map λkv=>((.inr kv.1:Key),V.str kv.2)) vs:=by
 obtain⟨a,es,ep,h1,h2,h3,h4,h5⟩:=G.ex
 obtain⟨vs,g1,g2,g3⟩:=zjl (P:=X.prog) h4
 refine⟨a,vs,h1,h3,⟨_,es,ep,I.kIn a _ h2,⟨rfl,rfl,rfl⟩,rfl,λe he=>g3 e (YF.mpr he),g1,?_⟩,g2⟩
 rw[KV.keys g2,Q5]
 have:((λx:Key × V=>x.1) ∘ λkv:Str × Str=>((.inr kv.1:Key),V.str kv.2))=(Yi ∘ λkv:Str × Str=>kv.1):=rfl
 rw[this,<- Q5]
 exact zm8 h5
theorem z4l(hg:Gl X x)(G:GDct X.K X.w X.mg x kvs)(he:PE X e te)(hs:NoSl e)(hd:(x == ("__debug__" : Str))=false:=by decide):PE X (.Subscript (.Name x px) e pos) (zzz kvs te):=by
 intro pins s σ H Q I h
 obtain⟨a,vs,hm,_⟩:=zsx I G
 refine z2z PySem.F.slot_dict_getitem.lookup hs (zdg I hg hm ?_ hd)
 refine thn (he pins s σ H _ I h) λiv s2 ⟨y,H2,I2,ry,k,v,ey,lk,q2⟩=>?_
 subst ey
 obtain⟨a',vs,hm',hsm,dd,rel⟩:=zsx I2 G
 rw[hm] at hm'
 cases hm'
 obtain⟨w',hw,rw'⟩:=RelO.some_of (v:=V.str v) (o:=valueAt vs (.inr k)) (by have:=rel.val (.inr k);rwa [zoj,lk] at this)
 exact⟨dd.typeIs,wpAny_getItem_of (zz0 (k := .inr k) ry) dd.mapOf hw ⟨.str v,H2,I2.tok _,rw',q2⟩⟩
theorem z3a(hg:Gl X x)(G:GDct X.K X.w X.mg x kvs)(he:PE X e te)(hd:(x == ("__debug__" : Str))=false:=by decide):PC X .NotIn e (.Name x px) (z0j kvs te):=by
 intro pins s σ H Q I h
 refine thn (he pins s σ H _ I h) λiv s2 ⟨y,H2,I2,ry,k,ey,q2⟩=>?_
 subst ey
 obtain⟨a,vs,hm,hsm,dd,rel⟩:=zsx I2 G
 refine zdg I2 hg hm ?_ hd
 refine wpAny_notIn_of (zz0 (k := .inr k) ry) hsm dd.mapOf ?_
 have e1:=(rel.val (.inr k)).isSome_eq
 rw[zoj,qL] at e1
 rw[<- e1]
 exact⟨.bl (!(kvs.lookup k).isSome),H2,I2.tok _,rfl,q2⟩
end
def ggD(kvs:List (Str × Str))(f:DE):DE:=λρ Q=>f ρ λr=>∃ k v,r.d = .str k/\kvs.lookup k=some v/\Q (.o (.str v))
def gnD(kvs:List (Str × Str))(f:DE):DT:=λρ Q=>f ρ λr=>∃ k,r.d = .str k/\Q (!(kvs.lookup k).isSome)
section
variable {K : Qa} {O : Ob} {kvs : List (Str × Str)} {t : TE} {f : DE}
theorem z2e(h:ED K O t f):ED K O (zzz kvs t) (ggD kvs f):=λσ H ρ Q Qd S hf k=>by
 refine h σ H ρ _ _ S hf λv H1 r s1 o1 ⟨x,y,e,l,q⟩=>?_
 have i:=o1.is S.ok S.p
 rw[e] at i
 cases i
 exact⟨x,y,rfl,l,k _ H1 (.o (.str y)) s1 (Is.str y) q⟩
theorem z2c(h:ED K O t f):TD K O (tB (z0j kvs t)) (gnD kvs f):=λσ H ρ Q Qd S hf k=>by
 refine h σ H ρ _ _ S hf λv H1 r s1 o1 ⟨x,e,q⟩=>?_
 have i:=o1.is S.ok S.p
 rw[e] at i
 cases i
 exact⟨x,rfl,_,rfl,k _ H1 s1 q⟩
end
section
variable {ι κ : Type} {P : Program} {w : World} {K : Qa} {mg : Str → Option Value} {base : Heap} {k : Nat} {X : ι → Cx} {O : κ → Ob} {a : Expr} {fa : DE} {x : Str} {pos px : Pos} {d : PyData} {kvs : List (Str × Str)}
theorem zne(C:Ctx3 P w K mg base k X)(G:Glo K mg x d)(hg:∀ i,Gl (X i) x:=by intro i;rfl)(hd:(x == ("__debug__" : Str))=false:=by decide):E3 K X O (.Name x pos) (cD d):=by
 obtain⟨v,u,hm,r,is⟩:=G
 exact⟨tC v,λi=>z4t (hg i) (by rw[C.hmg];exact hm) r hd,λj σ H ρ Q Qd S h k=>k v H (.o d) (.refl _ _) (is _ _) h⟩
theorem z7s(C:Ctx3 P w K mg base k X)(G:GDct K w mg x kvs)(ha:E3 K X O a fa)(hg:∀ i,Gl (X i) x:=by intro i;rfl)(hs:NoSl a:=by intro _ _;rfl)(hd:(x == ("__debug__" : Str))=false:=by decide):E3 K X O (.Subscript (.Name x px) a pos) (ggD kvs fa):=let ⟨_,p,d1⟩:=ha;
 ⟨_,λi=>z4l (hg i) (by rw[C.hK,C.hw,C.hmg];exact G) (p i) hs hd,λj=>z2e (d1 j)⟩
theorem z7e(C:Ctx3 P w K mg base k X)(G:GDct K w mg x kvs)(ha:E3 K X O a fa)(hg:∀ i,Gl (X i) x:=by intro i;rfl)(hd:(x == ("__debug__" : Str))=false:=by decide)(hm:behindInMarks .NotIn (.Name x px)=false:=by rfl):T3 K X O (.Compare a [.NotIn] [.Name x px] pos) (gnD kvs fa):=let ⟨_,p,d1⟩:=ha;
 ⟨_,λi=>z8c (z3a (hg i) (by rw[C.hK,C.hw,C.hmg];exact G) (p i) hd) hm,λj=>z2c (d1 j)⟩
end
def Ay3(K:Qa)(mg:Str->Option Value)(Y:Cx)(E:XK)(O:Ob)(es:List Expr)(f:DAf):Prop:=∃ t:XK->TA,PA Y es (t E)/\ADf K mg O t f
section
variable {K : Qa} {mg : Str → Option Value} {Y : Cx} {E : XK} {O : Ob} {a : Expr} {es : List Expr} {ff : DEf} {gf : DAf} {pos : Pos}
theorem yaj:Ay3 K mg Y E O [] (upA aNil):=⟨λ_=>tNil,zb9,zq7⟩
theorem zi6(h:Ey3 K mg Y E O a ff)(h':Ay3 K mg Y E O es gf)(hs:starEach (a::es) Y.env=(false,eval a Y.env)::starEach es Y.env:=by rfl):Ay3 K mg Y E O (a::es) (zn7 ff gf):=let ⟨t,p,d⟩:=h;let ⟨t',p',d'⟩:=h'; ⟨λE=>zbb (t E) (t' E),za7 p p' hs,zoy d d'⟩
theorem z9i{n:Nat}(h:Ay3 K mg Y E O es gf):Ey3 K mg Y E O (.Tuple es n pos) (zse gf):=let ⟨t,p,d⟩:=h; ⟨λE=>tTup (t E),zkz p,zri d⟩
end
section
variable {prog : Program} {w : World} {A : Around} {E : Value → Shared → Prop} {s : Shared}
theorem zdy{it t:Addr}{i:Nat}{zs:Array Value}{x:Value}{Q:Value->Shared->Prop}(st:s.heap.IsTupleIter it t i)(tp:s.heap.IsTuple t zs)(hv:zs[i]? = some x)(k:∀ h',h'.IsTupleIter it t (i+1)->ZZ it s.heap h'->Q x { s with heap:=h' }) :
 wpAny (model prog w) A (Qv (.ref it)) Q E s:=by
 obtain⟨o,eo,co,dv⟩:=id st
 obtain⟨u,eu,_,m,du⟩:=tp
 unfold Qv;refine wpAny_bind (wpAny_callSpecial?_slot (name:=Qi "__next__") st.typeIs Jq (wpAny_call_entry Jq st.typeIs YU ?_ (YO _)))
 refine wpAny_bind (m:=field (.ref it) 0) (wpAny_field eo dv (x := .ref t) rfl ?_)
 have ne:¬ ((QC t == Zh)=true):=Qc
 show wpAny _ _ (if(QC t == Zh)=true then _ else _) _ _ s;rw[if_neg ne]
 refine wpAny_bind (m:=field (.ref it) 1) (wpAny_field eo dv (x := .int i 0) rfl ?_)
 refine wpAny_bind (m:=seqItems? (.ref t)) (wpAny_seqItems eu du ?_)
 simp only[Y2,hv]
 refine wpAny_bind (wpAny_setField eo dv (by simp) (wpAny_pure ⟨x,rfl,wpAny_pure (k _ ⟨_,QT _ eo (Jr (JA dv _)),(qH ..).trans co,?_⟩ (qj ..))⟩))
 rw[JA dv]
 simp[rawInt]
theorem zpz{Q:Fin->Shared->Prop}(hh:A.in1.handled=none)(k:∀ h' e,(∀ c o,s.heap.get? c=some o->h'.get? c=some o)->(∃ o,h'.get? e=some o/\o.cls = .type "StopIteration")->E (.ref e) { s with heap:=h' }) :
 wpAny (model prog w) A.in1 (newExc (.type "StopIteration") []) (λa s'=>wpAny (model prog w) A.in1 (raiseNew a) Q E s') E s:=by
 simp only[newExc,newTuple];refine wpAny_bind (wpAny_newObj_type ?_ (by size_fits))
 refine wpAny_bind (m:=firstArgMember _ _) (wpAny_of_eq (a:=Zh) (by simp only[firstArgMember];rfl) (wpAny_newObj_type ?_ (by size_fits)))
 simp only[raiseNew];refine wpAny_bind (wpAny_handled ?_);rw[hh]
 exact wpAny_bind (wpAny_pure (wpAny_throw (k _ _ (λc o e=>Qb _ (Qb _ e)) ⟨_,Qq _ rfl,rfl⟩)))
theorem zhc{it t:Addr}{i:Nat}{zs:Array Value}{Q:Value->Shared->Prop}(hh:A.handled=none)(st:s.heap.IsTupleIter it t i)(tp:s.heap.IsTuple t zs)(hv:zs[i]? = none)
 (k:∀ h' e,Heap.ExtBut it s.heap h'->(∃ o,h'.get? e=some o/\o.cls = .type "StopIteration")->E (.ref e) { s with heap:=h' }):wpAny (model prog w) A (Qv (.ref it)) Q E s:=by
 obtain⟨o,eo,co,dv⟩:=id st
 obtain⟨u,eu,_,m,du⟩:=tp
 unfold Qv;refine wpAny_bind (wpAny_callSpecial?_slot (name:=Qi "__next__") st.typeIs Jq (wpAny_call_entry Jq st.typeIs YU ?_ (YO _)))
 refine wpAny_bind (m:=field (.ref it) 0) (wpAny_field eo dv (x := .ref t) rfl ?_)
 have ne:¬ ((QC t == Zh)=true):=Qc
 show wpAny _ _ (if(QC t == Zh)=true then _ else _) _ _ s;rw[if_neg ne]
 refine wpAny_bind (m:=field (.ref it) 1) (wpAny_field eo dv (x := .int i 0) rfl ?_)
 refine wpAny_bind (m:=seqItems? (.ref t)) (wpAny_seqItems eu du ?_)
 simp only[Y2,hv]
 refine wpAny_bind (wpAny_rule (wpAny_bind (wpAny_setField eo dv (by simp) ?_)))
 refine wpAny_bind (zpz hh λh' e up ex=>?_)
 exact k h' e (λc o' cn q=>up c o' ((qj ..).extBut c o' cn q)) ex
def SIt:Bool->Heap->Addr->Addr->Nat->Prop
 | true,h,it,l,k=>h.IsListIter it l k
 | false,h,it,l,k=>h.IsTupleIter it l k
def SSq:Bool->Heap->Addr->Array Value->Prop
 | true,h,l,xs=>h.IsList l xs
 | false,h,l,xs=>h.IsTuple l xs
theorem SIt.at{b:Bool}{h h':Heap}{it l:Addr}{k:Nat}(S:SIt b h it l k)(up:∀ o,h.get? it=some o->h'.get? it=some o):SIt b h' it l k:=by
 cases b
 ·exact Heap.IsTupleIter.at S up
 ·exact Heap.IsListIter.at S up
theorem SSq.at{b:Bool}{h h':Heap}{l:Addr}{xs:Array Value}(S:SSq b h l xs)(up:∀ o,h.get? l=some o->h'.get? l=some o):SSq b h' l xs:=by
 cases b
 ·exact Heap.IsTuple.at S up
 ·exact Heap.IsList.at S up
theorem z2m{b:Bool}{it t:Addr}{i:Nat}{zs:Array Value}{x:Value}{Q:Value->Shared->Prop}(st:SIt b s.heap it t i)(tp:SSq b s.heap t zs)(hv:zs[i]? = some x)(k:∀ h',SIt b h' it t (i+1)->ZZ it s.heap h'->Q x { s with heap:=h' }) :
 wpAny (model prog w) A (Qv (.ref it)) Q E s:=by
 cases b
 ·exact zdy st tp hv k
 ·exact wpAny_nextOf_list_item st tp hv k
theorem z7f{b:Bool}{it t:Addr}{i:Nat}{zs:Array Value}{Q:Value->Shared->Prop}(hh:A.handled=none)(st:SIt b s.heap it t i)(tp:SSq b s.heap t zs)(hv:zs[i]? = none)
 (k:∀ h' e,Heap.ExtBut it s.heap h'->(∃ o,h'.get? e=some o/\o.cls = .type "StopIteration")->E (.ref e) { s with heap:=h' }):wpAny (model prog w) A (Qv (.ref it)) Q E s:=by
 cases b
 ·exact zhc hh st tp hv k
 ·exact wpAny_nextOf_list_end hh st tp hv k
structure ZS (b2:Bool) (h:Heap) (z p r i1 i2 l1 l2:Addr) (k:Nat) (xs ys:Array Value) (out:Value):Prop where
 zz:IsZip h z p r out
 pp:IsPair h p (.ref i1) (.ref i2)
 rr:∃ a b,IsPair h r a b
 a1:h.IsTupleIter i1 l1 k
 a2:SIt b2 h i2 l2 k
 t1:h.IsTuple l1 xs
 t2:SSq b2 h l2 ys
theorem z5w{b2:Bool}{z p r i1 i2 l1 l2:Addr}{k:Nat}{xs ys:Array Value}{x y:Value}{Q:Value->Shared->Prop}(D:ZipApart z p r i1 i2 l1 l2)(S:ZS b2 s.heap z p r i1 i2 l1 l2 k xs ys .none)(hx:xs[k]? = some x)(hy:ys[k]? = some y)
 (q:∀ h',ZS b2 h' z p r i1 i2 l1 l2 (k+1) xs ys (rawInt s.heap.objs.size)->IsPair h' s.heap.objs.size x y->(∀ c o,c ≠ z->c ≠ r->c ≠ i1->c ≠ i2->s.heap.get? c=some o->h'.get? c=some o)->Q (.ref s.heap.objs.size) { s with heap:=h' }) :
 wpAny (model prog w) A (Builtin.«zip.__next__» ⟨[.ref z],[]⟩) (λfin s'=>∃ v,fin = .done (.ret v)/\Q v s') E s:=by
 obtain⟨Z,P,⟨a,b,R⟩,A1,A2,T1,T2⟩:=S
 refine wpAny_bind (m:=field (.ref z) 2) (wpAny_field Z rfl (x := .bool false) rfl ?_)
 refine wpAny_bind (m:=field (.ref z) 3) (wpAny_field Z rfl (x := .ref p) rfl (wpAny_bind (wpAny_seqItems P rfl ?_)))
 refine wpAny_bind (m:=QN (.ref z)) ?_
 unfold QN;refine wpAny_bind (wpAny_field Z rfl (x := .none) rfl (wpAny_pure ?_));simp only[if_true]
 refine wpAny_bind (wpAny_rule (wpAny_bind (wpAny_field Z rfl (x := .ref r) rfl (wpAny_bind (wpAny_setField_rec Z (by simp) λha Za sa=>?_)))))
 replace Za:IsZip ha z p r .ellipsis:=Za
 refine wpAny_bind ?_;simp only[qZ,zg,Jc,Jo]
 have A1a:=A1.at λo e=>sa.extBut _ o D.i1z e
 have A2a:=A2.at λo e=>sa.extBut _ o D.i2z e
 refine wpAny_bind (wpAny_bind (wpAny_onRaise (wpAny_bind (m:=Qv (.ref i1)) (zdy A1a (T1.at λo e=>sa.extBut _ o D.l1z e) hx λhb A1b sb=>wpAny_pure ?_))))
 have Rb:IsPair hb r a b:=sb.extBut _ _ D.TOi1 (sa.extBut _ _ D.TOz R)
 refine wpAny_bind (wpAny_seqItems Rb rfl (wpAny_bind (wpAny_updateSeq_pair Rb λhc Rc sc=>?_)))
 replace Rc:IsPair hc r x b:=Rc
 refine wpAny_bind (wpAny_letGo (wpAny_pure ?_))
 have A2c:=(A2a.at λo e=>sb.extBut _ o D.i12.symm e).at λo e=>sc.extBut _ o D.TOi2.symm e
 have T2c:=((T2.at λo e=>sa.extBut _ o D.l2z e).at λo e=>sb.extBut _ o D.l2i1 e).at λo e=>sc.extBut _ o D.l2TO e
 refine wpAny_bind (wpAny_bind (wpAny_onRaise (wpAny_bind (m:=Qv (.ref i2)) (z2m A2c T2c hy λhd A2d sd=>wpAny_pure ?_))))
 have Rd:IsPair hd r x b:=sd.extBut _ _ D.TOi2 Rc
 refine wpAny_bind (wpAny_seqItems Rd rfl (wpAny_bind (wpAny_updateSeq_pair Rd λhe Re se=>?_)))
 replace Re:IsPair he r x y:=Re
 refine wpAny_bind (wpAny_letGo (wpAny_pure (wpAny_pure (wpAny_bind (wpAny_seqItems Re rfl (wpAny_bind (wpAny_newTuple ?_)))))))
 have sz5:he.objs.size=s.heap.objs.size:=by rw[se.1,sd.1,sc.1,sb.1,sa.1]
 have up:∀ c o,c ≠ z->c ≠ r->c ≠ i1->c ≠ i2->s.heap.get? c=some o->he.get? c=some o:=λc o n1 n2 n3 n4 e=>se.extBut _ _ n2 (sd.extBut _ _ n4 (sc.extBut _ _ n2 (sb.extBut _ _ n3 (sa.extBut _ _ n1 e))))
 have Ze:IsZip he z p r .ellipsis:=se.extBut _ _ D.TOz.symm (sd.extBut _ _ D.i2z.symm (sc.extBut _ _ D.TOz.symm (sb.extBut _ _ D.i1z.symm Za)))
 refine wpAny_bind (m:=Yf (.ref z) (.ref he.objs.size)) ?_
 unfold Yf
 have zl:=Qn Ze
 refine wpAny_bind (wpAny_setField_rec (Qb _ Ze) (by simp) λhf Zf sf=>?_)
 replace Zf:IsZip hf z p r (rawInt he.objs.size):=Zf
 refine wpAny_setField_rec Zf (by simp) λhg Zg sg=>wpAny_pure ⟨_,rfl,?_⟩
 have top:∀ c o,c ≠ z->he.get? c=some o->hg.get? c=some o:=λc o n e=>sg.extBut _ _ n (sf.extBut _ _ n (Qb _ e))
 have pr:IsPair hg he.objs.size x y:=sg.extBut _ _ (Zx zl) (sf.extBut _ _ (Zx zl) (Qq _ rfl))
 show Q (.ref he.objs.size) _
 rw[sz5] at pr Zg ⊢
 refine q hg ⟨Zg,top _ _ D.TIz (up _ _ D.TIz D.TITO D.TIi1 D.TIi2 P),⟨x,y,top _ _ D.TOz Re⟩,?_,?_,T1.at λo e=>top _ o D.l1z (up _ o D.l1z D.l1TO D.l1i1 D.l1i2 e),T2.at λo e=>top _ o D.l2z (up _ o D.l2z D.l2TO D.l2i1 D.l2i2 e)⟩ pr λc o n1 n2 n3 n4 e=>top c o n1 (up c o n1 n2 n3 n4 e)
 ·exact(((A1b.at λo e=>sc.extBut _ o D.TOi1.symm e).at λo e=>sd.extBut _ o D.i12 e).at λo e=>se.extBut _ o D.TOi1.symm e).at λo e=>top _ o D.i1z e
 ·exact(A2d.at λo e=>se.extBut _ o D.TOi2.symm e).at λo e=>top _ o D.i2z e
theorem yah{b2:Bool}{z p r i1 i2 l1 l2:Addr}{k:Nat}{xs ys:Array Value}{Q:Fin->Shared->Prop}(hh:A.handled=none)(D:ZipApart z p r i1 i2 l1 l2)(S:ZS b2 s.heap z p r i1 i2 l1 l2 k xs ys .none)(he:xs[k]? = none\/ys[k]? = none)
 (q:∀ h' e,(∀ c o,c ≠ z->c ≠ r->c ≠ i1->c ≠ i2->s.heap.get? c=some o->h'.get? c=some o)->(∃ o,h'.get? e=some o/\o.cls = .type "StopIteration")->E (.ref e) { s with heap:=h' }) :
 wpAny (model prog w) A (Builtin.«zip.__next__» ⟨[.ref z],[]⟩) Q E s:=by
 obtain⟨Z,P,⟨a,b,R⟩,A1,A2,T1,T2⟩:=S
 refine wpAny_bind (m:=field (.ref z) 2) (wpAny_field Z rfl (x := .bool false) rfl ?_)
 refine wpAny_bind (m:=field (.ref z) 3) (wpAny_field Z rfl (x := .ref p) rfl (wpAny_bind (wpAny_seqItems P rfl ?_)))
 refine wpAny_bind (m:=QN (.ref z)) ?_
 unfold QN;refine wpAny_bind (wpAny_field Z rfl (x := .none) rfl (wpAny_pure ?_));simp only[if_true]
 refine wpAny_bind (wpAny_rule (wpAny_bind (wpAny_field Z rfl (x := .ref r) rfl (wpAny_bind (wpAny_setField_rec Z (by simp) λha Za sa=>?_)))))
 replace Za:IsZip ha z p r .ellipsis:=Za
 refine wpAny_bind ?_;simp only[qZ,zg,Jc,Jo]
 have A1a:=A1.at λo e=>sa.extBut _ o D.i1z e
 have A2a:=A2.at λo e=>sa.extBut _ o D.i2z e
 have T1a:=T1.at λo e=>sa.extBut _ o D.l1z e
 have off:∀ {hc:Heap} {e:Addr} {oe:Obj},IsZip hc z p r .ellipsis->hc.get? e=some oe->oe.cls = .type "StopIteration" -> e ≠ z:=λZc g c x=>by subst x;rw[Zc] at g;cases g;simp at c
 cases hx:xs[k]? with
 | none =>
   refine wpAny_bind (wpAny_bind (wpAny_onRaise (wpAny_bind (m:=Qv (.ref i1)) (zhc hh A1a T1a hx λhb e sb ⟨oe,ge,ce⟩=>?_))))
   have Zb:IsZip hb z p r .ellipsis:=sb _ _ D.i1z.symm Za
   exact wpAny_setField_rec Zb (by simp) λhc _ sc=>q hc e (λc o n1 _ n3 _ g=>sc.extBut _ _ n1 (sb _ _ n3 (sa.extBut _ _ n1 g))) ⟨oe,sc.extBut _ _ (off Zb ge ce) ge,ce⟩
 | some x =>
   have hy:ys[k]? = none:=he.resolve_left λz=>by rw[hx] at z;cases z
   refine wpAny_bind (wpAny_bind (wpAny_onRaise (wpAny_bind (m:=Qv (.ref i1)) (zdy A1a T1a hx λhb A1b sb=>wpAny_pure ?_))))
   have Rb:IsPair hb r a b:=sb.extBut _ _ D.TOi1 (sa.extBut _ _ D.TOz R)
   refine wpAny_bind (wpAny_seqItems Rb rfl (wpAny_bind (wpAny_updateSeq_pair Rb λhc Rc sc=>?_)))
   refine wpAny_bind (wpAny_letGo (wpAny_pure ?_))
   have A2c:=(A2a.at λo e=>sb.extBut _ o D.i12.symm e).at λo e=>sc.extBut _ o D.TOi2.symm e
   have T2c:=((T2.at λo e=>sa.extBut _ o D.l2z e).at λo e=>sb.extBut _ o D.l2i1 e).at λo e=>sc.extBut _ o D.l2TO e
   refine wpAny_bind (wpAny_bind (wpAny_onRaise (wpAny_bind (m:=Qv (.ref i2)) (z7f hh A2c T2c hy λhd e sd ⟨oe,ge,ce⟩=>?_))))
   have Zd:IsZip hd z p r .ellipsis:=sd _ _ D.i2z.symm (sc.extBut _ _ D.TOz.symm (sb.extBut _ _ D.i1z.symm Za))
   exact wpAny_setField_rec Zd (by simp) λhf _ sf=>q hf e (λc o n1 n2 n3 n4 g=>sf.extBut _ _ n1 (sd _ _ n4 (sc.extBut _ _ n2 (sb.extBut _ _ n3 (sa.extBut _ _ n1 g))))) ⟨oe,sf.extBut _ _ (off Zd ge ce) ge,ce⟩
theorem z1v{b2:Bool}{z p r i1 i2 l1 l2:Addr}{k:Nat}{xs ys:Array Value}{x y:Value}{Q:Option Value->Shared->Prop}(D:ZipApart z p r i1 i2 l1 l2)(S:ZS b2 s.heap z p r i1 i2 l1 l2 k xs ys .none)(hx:xs[k]? = some x)(hy:ys[k]? = some y)
 (q:∀ h',ZS b2 h' z p r i1 i2 l1 l2 (k+1) xs ys (rawInt s.heap.objs.size)->IsPair h' s.heap.objs.size x y->(∀ c o,c ≠ z->c ≠ r->c ≠ i1->c ≠ i2->s.heap.get? c=some o->h'.get? c=some o)->Q (some (.ref s.heap.objs.size)) { s with heap:=h' }):wpAny (model prog w) A (pyNext (.ref z)) Q E s:=by
 have T:s.TypeIs (.ref z) "zip" := ⟨_,S.zz,rfl⟩
 unfold pyNext;exact wpAny_bind (wpAny_attempt (wpAny_callSpecial?_slot (name:=Qi "__next__") T Jh (wpAny_call_entry Jh T YB (z5w D S hx hy λh' a b c=>wpAny_pure (q h' a b c)) (Y3 _))))
theorem z4b{b2:Bool}{z p r i1 i2 l1 l2:Addr}{k:Nat}{xs ys:Array Value}{Q:Option Value->Shared->Prop}(hh:A.handled=none)(D:ZipApart z p r i1 i2 l1 l2)(S:ZS b2 s.heap z p r i1 i2 l1 l2 k xs ys .none)(he:xs[k]? = none\/ys[k]? = none)
 (q:∀ h',(∀ c o,c ≠ z->c ≠ r->c ≠ i1->c ≠ i2->s.heap.get? c=some o->h'.get? c=some o)->Q none { s with heap:=h' }):wpAny (model prog w) A (pyNext (.ref z)) Q E s:=by
 have T:s.TypeIs (.ref z) "zip" := ⟨_,S.zz,rfl⟩
 unfold pyNext;refine wpAny_bind (wpAny_attempt (wpAny_callSpecial?_slot (name:=Qi "__next__") T Jh (wpAny_call_entry Jh T YB (yah hh D S he λh' e up ⟨o,g,c⟩=>?_) (Y3 _))))
 exact wpAny_bind (wpAny_isInstance (T := "StopIteration") (b:=true) ⟨o,g,c⟩ isSubtype_stop (wpAny_pure (q _ up)))
abbrev zq1(h:Heap)(l1:Addr):Heap:=h.push { cls := .type "tuple_iterator", data := .fields #[.ref l1,.int 0 0] }
def itN:Bool->String
 | true => "list_iterator"
 | false => "tuple_iterator"
abbrev zq2(b2:Bool)(h:Heap)(l1 l2:Addr):Heap:=(zq1 h l1).push { cls := .type (itN b2),data := .fields #[.ref l2,.int 0 0] }
abbrev zq3(b2:Bool)(h:Heap)(l1 l2:Addr):Heap:=(zq2 b2 h l1 l2).push { cls := .type "tuple", data := .seq #[.ref h.objs.size,.ref (zq1 h l1).objs.size] }
abbrev zq4(b2:Bool)(h:Heap)(l1 l2:Addr):Heap:=(zq3 b2 h l1 l2).push { cls := .type "tuple", data := .seq #[.none,.none] }
abbrev zq5(b2:Bool)(h:Heap)(l1 l2:Addr):Heap:=(zq4 b2 h l1 l2).push { cls := .type "zip", data := .fields #[.none,.bool false,.bool false,.ref (zq2 b2 h l1 l2).objs.size,.ref (zq3 b2 h l1 l2).objs.size] }
theorem z2l(b2:Bool)(l1 l2:Addr)(xs ys:Array Value):Meets (Builtin.«zip.__new__» ⟨[.type "zip", .ref l1,.ref l2],[]⟩) (λ_ R s=>s.heap.IsTuple l1 xs/\SSq b2 s.heap l2 ys/\R (.ok (.ret (.ref (zq4 b2 s.heap l1 l2).objs.size))) { s with heap:=zq5 b2 s.heap l1 l2 }) :=
 .of_wp λprog w A R s h=>by
  obtain⟨hp,g,d,tk,os⟩:=s;obtain⟨a1,a2,q⟩:=h
  have sub:=sub_zip
  have a1:Heap.IsTuple (ju ⟨hp,g,d,tk,os⟩) l1 xs:=a1
  have a3:SSq b2 (ju ⟨hp.push { cls := .type "tuple_iterator", data := .fields #[.ref l1,.int 0 0] },g,d,tk,os⟩) l2 ys:=a2.at λo e=>Qb _ e
  cases b2
  ·replace a3:Heap.IsTuple (ju ⟨hp.push { cls := .type "tuple_iterator", data := .fields #[.ref l1,.int 0 0] },g,d,tk,os⟩) l2 ys:=a3
   wp_walk using wpAny_pyIter_tuple a1,wpAny_pyIter_tuple a3
   exact⟨_,rfl,q⟩
  ·replace a3:Heap.IsList (ju ⟨hp.push { cls := .type "tuple_iterator", data := .fields #[.ref l1,.int 0 0] },g,d,tk,os⟩) l2 ys:=a3
   wp_walk using wpAny_pyIter_tuple a1,wpAny_pyIter_list a3
   exact⟨_,rfl,q⟩
theorem z3n{b2:Bool}{l1 l2:Addr}{xs ys:Array Value}{Q:Value->Shared->Prop}(h1:s.heap.IsTuple l1 xs)(h2:SSq b2 s.heap l2 ys)
 (q:∀ h',ZS b2 h' (s.heap.objs.size+4) (s.heap.objs.size+2) (s.heap.objs.size+3) s.heap.objs.size (s.heap.objs.size+1) l1 l2 0 xs ys .none->(∀ c o,s.heap.get? c=some o->h'.get? c=some o)->Q (.ref (s.heap.objs.size+4)) { s with heap:=h' }):wpAny (model prog w) A (call (.type "zip") [.ref l1,.ref l2]) Q E s:=by
 refine callType_new F.called_zip (by decide) (F.typeCall_zip_2 _ _) (F.newCall_zip_2 _ _) (λobj=>F.args_object_init_3 obj _ _) F.entry_zip_new (z2l b2 l1 l2 xs ys) ⟨h1,h2,?_⟩
 have n1:(zq1 s.heap l1).objs.size=s.heap.objs.size+1:=Z2 ..
 have n2:(zq2 b2 s.heap l1 l2).objs.size=s.heap.objs.size+2:=by rw[Z2,n1]
 have n3:(zq3 b2 s.heap l1 l2).objs.size=s.heap.objs.size+3:=by rw[Z2,n2]
 have n4:(zq4 b2 s.heap l1 l2).objs.size=s.heap.objs.size+4:=by rw[Z2,n3]
 have up:∀ {h:Heap} {c:Addr} {o o':Obj},h.get? c=some o->(h.push o').get? c=some o:=λe=>Qb _ e
 have e5:(zq5 b2 s.heap l1 l2).get? (zq4 b2 s.heap l1 l2).objs.size=some _:=Qq _ rfl
 have e4:(zq5 b2 s.heap l1 l2).get? (zq3 b2 s.heap l1 l2).objs.size=some _:=up (Qq _ rfl)
 have e3:(zq5 b2 s.heap l1 l2).get? (zq2 b2 s.heap l1 l2).objs.size=some _:=up (up (Qq _ rfl))
 have e2:(zq5 b2 s.heap l1 l2).get? (zq1 s.heap l1).objs.size=some _:=up (up (up (Qq _ rfl)))
 have e1:(zq5 b2 s.heap l1 l2).get? s.heap.objs.size=some _:=up (up (up (up (Qq _ rfl))))
 have all:∀ c o,s.heap.get? c=some o->(zq5 b2 s.heap l1 l2).get? c=some o:=λc o e=>up (up (up (up (up e))))
 show _/\_
 rw[n2,n3,n4] at e5
 rw[n1,n2] at e3
 rw[n3] at e4
 rw[n1] at e2
 rw[n4]
 exact⟨⟨_,e5,rfl⟩,q _ ⟨e5,e3,⟨_,_,e4⟩,⟨_,e1,rfl,rfl⟩,(by cases b2 <;> exact⟨_,e2,rfl,rfl⟩),h1.at λo e=>all _ o e,h2.at λo e=>all _ o e⟩ all⟩
theorem zw4(n l1 l2:Nat)(h1:l1<n)(h2:l2<n):ZipApart (n+4) (n+2) (n+3) n (n+1) l1 l2:=by
 have ne:∀ {a b:Nat},a<b\/b<a->(a:Addr) ≠ b:=λh e=>by rcases h with h|h <;> exact ZI _ (e ▸ h)
 constructor <;> (refine ne ?_;omega)
end
theorem z6w:bootBuiltins "zip" = some (.type "zip"):=by decide +kernel
section
variable {K : Qa} {O : Ob}
def zipD:List PyData->List PyData->List PyData
 | d::ds,e::es => .tuple [d,e]::zipD ds es
 | _,_ => []
end
abbrev zfe(h:Heap)(z p r:Addr)(a:Addr)(f:Bool):Prop:=h.get? z=some { cls := .type "zip", dict:=none,data := .fields #[rawInt a,.bool f,.bool false,.ref p,.ref r],slots:=#[] }
section
variable {prog : Program} {w : World} {A : Around} {E : Value → Shared → Prop} {s : Shared}
theorem z3k{z p r i1 i2 l1 l2 a:Addr}{f:Bool}{oa:Obj}{k:Nat}{xs ys:Array Value}{x y:Value}{Q:Value->Shared->Prop}(D:ZipApart z p r i1 i2 l1 l2)(Z:zfe s.heap z p r a f)(ha:s.heap.get? a=some oa)(az:a ≠ z)(P:IsPair s.heap p (.ref i1) (.ref i2))(A1:s.heap.IsTupleIter i1 l1 k)(A2:s.heap.IsTupleIter i2 l2 k)(T1:s.heap.IsTuple l1 xs)(T2:s.heap.IsTuple l2 ys)(hx:xs[k]? = some x)(hy:ys[k]? = some y)
 (q:∀ h',zfe h' z p r a true->h'.IsTupleIter i1 l1 (k+1)->h'.IsTupleIter i2 l2 (k+1)->IsPair h' s.heap.objs.size x y->h'.objs.size=s.heap.objs.size+1->(∀ c o,c ≠ z->c ≠ i1->c ≠ i2->s.heap.get? c=some o->h'.get? c=some o)->Q (.ref s.heap.objs.size) { s with heap:=h' }) :
 wpAny (model prog w) A (Builtin.«zip.__next__» ⟨[.ref z],[]⟩) (λfin s'=>∃ v,fin = .done (.ret v)/\Q v s') E s:=by
 refine wpAny_bind (m:=field (.ref z) 2) (wpAny_field Z rfl (x := .bool false) rfl ?_)
 refine wpAny_bind (m:=field (.ref z) 3) (wpAny_field Z rfl (x := .ref p) rfl (wpAny_bind (wpAny_seqItems P rfl ?_)))
 refine wpAny_bind (m:=QN (.ref z)) ?_
 unfold QN
 refine wpAny_bind (wpAny_field Z rfl (x:=rawInt a) rfl ?_)
 show wpAny _ _ (loadIfAlive ((a:Int).toNat) >>= _) _ _ _
 rw[Y2]
 refine wpAny_bind (qM ha ?_)
 simp only[qA,ZH,if_false]
 refine wpAny_bind (wpAny_field Z rfl (x := .bool f) rfl ?_)
 cases f
 case false =>
  rw[if_pos (show(ZE false != ZE true)=true from rfl)]
  refine wpAny_bind (wpAny_setField_rec Z (by simp) λha Za sa=>?_)
  refine wpAny_pure ?_
  simp only[ZH,if_false]
  replace Za:zfe ha z p r a true:=Za
  have A1a:=A1.at λo e=>sa.extBut _ o D.i1z e
  have A2a:=A2.at λo e=>sa.extBut _ o D.i2z e
  have T1a:=T1.at λo e=>sa.extBut _ o D.l1z e
  have T2a:=T2.at λo e=>sa.extBut _ o D.l2z e
  rw[<- Yn]
  simp only[Jc,Jo]
  refine wpAny_bind (wpAny_bind (wpAny_bind (wpAny_holding (wpAny_bind (m:=Qv (.ref i1)) (zdy A1a T1a hx λhb A1b sb=>wpAny_pure (wpAny_pure ?_))))))
  have A2b:=A2a.at λo e=>sb.extBut _ o D.i12.symm e
  have T2b:=T2a.at λo e=>sb.extBut _ o D.l2i1 e
  refine wpAny_bind (wpAny_bind (wpAny_holding (wpAny_bind (m:=Qv (.ref i2)) (zdy A2b T2b hy λhc A2c sc=>wpAny_pure (wpAny_pure (wpAny_pure ?_))))))
  refine wpAny_bind (wpAny_newTuple (hsz:=by show 2<=sizeLine;rw[sizeLine_eq];decide) (wpAny_pure ⟨_,rfl,?_⟩))
  have sz:hc.objs.size=s.heap.objs.size:=by rw[sc.1,sb.1,sa.1]
  have up:∀ c o,c ≠ z->c ≠ i1->c ≠ i2->s.heap.get? c=some o->hc.get? c=some o:=λc o n1 n3 n4 e=>sc.extBut _ _ n4 (sb.extBut _ _ n3 (sa.extBut _ _ n1 e))
  have Zc:zfe hc z p r a true:=sc.extBut _ _ D.i2z.symm (sb.extBut _ _ D.i1z.symm Za)
  rw[sz]
  refine q _ (Qb _ Zc) ((A1b.at λo e=>sc.extBut _ o D.i12 e).at λo e=>Qb _ e) (A2c.at λo e=>Qb _ e) ?_ (by rw[Z2,sz]) λc o n1 n3 n4 e=>Qb _ (up c o n1 n3 n4 e)
  rw[<- sz]
  exact Qq _ rfl
 case true =>
  rw[if_neg (show ¬ ((ZE true != ZE true)=true) from Qc)]
  refine wpAny_pure ?_
  simp only[ZH,if_false]
  have Za:zfe s.heap z p r a true:=Z
  have sa:ZZ z s.heap s.heap:=jn _ _
  have A1a:=A1.at λo e=>sa.extBut _ o D.i1z e
  have A2a:=A2.at λo e=>sa.extBut _ o D.i2z e
  have T1a:=T1.at λo e=>sa.extBut _ o D.l1z e
  have T2a:=T2.at λo e=>sa.extBut _ o D.l2z e
  rw[<- Yn]
  simp only[Jc,Jo]
  refine wpAny_bind (wpAny_bind (wpAny_bind (wpAny_holding (wpAny_bind (m:=Qv (.ref i1)) (zdy A1a T1a hx λhb A1b sb=>wpAny_pure (wpAny_pure ?_))))))
  have A2b:=A2a.at λo e=>sb.extBut _ o D.i12.symm e
  have T2b:=T2a.at λo e=>sb.extBut _ o D.l2i1 e
  refine wpAny_bind (wpAny_bind (wpAny_holding (wpAny_bind (m:=Qv (.ref i2)) (zdy A2b T2b hy λhc A2c sc=>wpAny_pure (wpAny_pure (wpAny_pure ?_))))))
  refine wpAny_bind (wpAny_newTuple (hsz:=by show 2<=sizeLine;rw[sizeLine_eq];decide) (wpAny_pure ⟨_,rfl,?_⟩))
  have sz:hc.objs.size=s.heap.objs.size:=by rw[sc.1,sb.1,sa.1]
  have up:∀ c o,c ≠ z->c ≠ i1->c ≠ i2->s.heap.get? c=some o->hc.get? c=some o:=λc o n1 n3 n4 e=>sc.extBut _ _ n4 (sb.extBut _ _ n3 (sa.extBut _ _ n1 e))
  have Zc:zfe hc z p r a true:=sc.extBut _ _ D.i2z.symm (sb.extBut _ _ D.i1z.symm Za)
  rw[sz]
  refine q _ (Qb _ Zc) ((A1b.at λo e=>sc.extBut _ o D.i12 e).at λo e=>Qb _ e) (A2c.at λo e=>Qb _ e) ?_ (by rw[Z2,sz]) λc o n1 n3 n4 e=>Qb _ (up c o n1 n3 n4 e)
  rw[<- sz]
  exact Qq _ rfl
theorem z9p{z p r i1 i2 l1 l2 a:Addr}{f:Bool}{oa:Obj}{k:Nat}{xs ys:Array Value}{Q:Fin->Shared->Prop}(hh:A.handled=none)(D:ZipApart z p r i1 i2 l1 l2)(Z:zfe s.heap z p r a f)(ha:s.heap.get? a=some oa)(P:IsPair s.heap p (.ref i1) (.ref i2))(A1:s.heap.IsTupleIter i1 l1 k)(A2:s.heap.IsTupleIter i2 l2 k)(T1:s.heap.IsTuple l1 xs)(T2:s.heap.IsTuple l2 ys)(he:xs[k]? = none\/ys[k]? = none)
 (q:∀ h' e,(∀ c o,c ≠ z->c ≠ i1->c ≠ i2->s.heap.get? c=some o->h'.get? c=some o)->(∃ o,h'.get? e=some o/\o.cls = .type "StopIteration")->E (.ref e) { s with heap:=h' }) :
 wpAny (model prog w) A (Builtin.«zip.__next__» ⟨[.ref z],[]⟩) Q E s:=by
 refine wpAny_bind (m:=field (.ref z) 2) (wpAny_field Z rfl (x := .bool false) rfl ?_)
 refine wpAny_bind (m:=field (.ref z) 3) (wpAny_field Z rfl (x := .ref p) rfl (wpAny_bind (wpAny_seqItems P rfl ?_)))
 refine wpAny_bind (m:=QN (.ref z)) ?_
 unfold QN
 refine wpAny_bind (wpAny_field Z rfl (x:=rawInt a) rfl ?_)
 show wpAny _ _ (loadIfAlive ((a:Int).toNat) >>= _) _ _ _
 rw[Y2]
 refine wpAny_bind (qM ha ?_)
 simp only[qA,ZH,if_false]
 refine wpAny_bind (wpAny_field Z rfl (x := .bool f) rfl ?_)
 cases f
 case false =>
  rw[if_pos (show(ZE false != ZE true)=true from rfl)]
  refine wpAny_bind (wpAny_setField_rec Z (by simp) λha Za sa=>?_)
  refine wpAny_pure ?_
  simp only[ZH,if_false]
  have A1a:=A1.at λo e=>sa.extBut _ o D.i1z e
  have A2a:=A2.at λo e=>sa.extBut _ o D.i2z e
  have T1a:=T1.at λo e=>sa.extBut _ o D.l1z e
  have T2a:=T2.at λo e=>sa.extBut _ o D.l2z e
  rw[<- Yn]
  simp only[Jc,Jo]
  cases hx:xs[k]? with
  | none =>
    refine wpAny_bind (wpAny_bind (wpAny_bind (wpAny_holding (wpAny_bind (m:=Qv (.ref i1)) (zhc hh A1a T1a hx λhb e sb ge=>?_)))))
    exact q hb e (λc o n1 n3 n4 g=>sb _ _ n3 (sa.extBut _ _ n1 g)) ge
  | some x =>
    have hy:ys[k]? = none:=he.resolve_left λz=>by rw[hx] at z;cases z
    refine wpAny_bind (wpAny_bind (wpAny_bind (wpAny_holding (wpAny_bind (m:=Qv (.ref i1)) (zdy A1a T1a hx λhb A1b sb=>wpAny_pure (wpAny_pure ?_))))))
    have A2b:=A2a.at λo e=>sb.extBut _ o D.i12.symm e
    have T2b:=T2a.at λo e=>sb.extBut _ o D.l2i1 e
    refine wpAny_bind (wpAny_bind (wpAny_holding (wpAny_bind (m:=Qv (.ref i2)) (zhc hh A2b T2b hy λhc e sc ge=>?_))))
    exact q hc e (λc o n1 n3 n4 g=>sc _ _ n4 (sb.extBut _ _ n3 (sa.extBut _ _ n1 g))) ge
 case true =>
  rw[if_neg (show ¬ ((ZE true != ZE true)=true) from Qc)]
  refine wpAny_pure ?_
  simp only[ZH,if_false]
  have sa:ZZ z s.heap s.heap:=jn _ _
  have A1a:=A1.at λo e=>sa.extBut _ o D.i1z e
  have A2a:=A2.at λo e=>sa.extBut _ o D.i2z e
  have T1a:=T1.at λo e=>sa.extBut _ o D.l1z e
  have T2a:=T2.at λo e=>sa.extBut _ o D.l2z e
  rw[<- Yn]
  simp only[Jc,Jo]
  cases hx:xs[k]? with
  | none =>
    refine wpAny_bind (wpAny_bind (wpAny_bind (wpAny_holding (wpAny_bind (m:=Qv (.ref i1)) (zhc hh A1a T1a hx λhb e sb ge=>?_)))))
    exact q hb e (λc o n1 n3 n4 g=>sb _ _ n3 (sa.extBut _ _ n1 g)) ge
  | some x =>
    have hy:ys[k]? = none:=he.resolve_left λz=>by rw[hx] at z;cases z
    refine wpAny_bind (wpAny_bind (wpAny_bind (wpAny_holding (wpAny_bind (m:=Qv (.ref i1)) (zdy A1a T1a hx λhb A1b sb=>wpAny_pure (wpAny_pure ?_))))))
    have A2b:=A2a.at λo e=>sb.extBut _ o D.i12.symm e
    have T2b:=T2a.at λo e=>sb.extBut _ o D.l2i1 e
    refine wpAny_bind (wpAny_bind (wpAny_holding (wpAny_bind (m:=Qv (.ref i2)) (zhc hh A2b T2b hy λhc e sc ge=>?_))))
    exact q hc e (λc o n1 n3 n4 g=>sc _ _ n4 (sb.extBut _ _ n3 (sa.extBut _ _ n1 g))) ge
def ZQ(h:Heap)(z p r i1 i2 l1 l2 S:Addr)(k:Nat):Prop:=(k=0/\IsZip h z p r .none)\/∃ a f oa,zfe h z p r a f/\h.get? a=some oa/\a ≠ z/\a ≠ S/\a ≠ i1/\a ≠ i2
structure ZL (h:Heap) (z p r i1 i2 l1 l2 S:Addr) (k:Nat) (xs ys:Array Value):Prop where
 zq:ZQ h z p r i1 i2 l1 l2 S k
 pp:IsPair h p (.ref i1) (.ref i2)
 rr:∃ a b,IsPair h r a b
 a1:h.IsTupleIter i1 l1 k
 a2:h.IsTupleIter i2 l2 k
 t1:h.IsTuple l1 xs
 t2:h.IsTuple l2 ys
theorem z2y{z p r i1 i2 l1 l2 S:Addr}{k:Nat}{xs ys:Array Value}{x y:Value}{Q:Option Value->Shared->Prop}(D:ZipApart z p r i1 i2 l1 l2)(Z:ZL s.heap z p r i1 i2 l1 l2 S k xs ys)(hS:S<s.heap.objs.size)(hx:xs[k]? = some x)(hy:ys[k]? = some y)
 (q:∀ h',ZL h' z p r i1 i2 l1 l2 S (k+1) xs ys->IsPair h' s.heap.objs.size x y->s.heap.objs.size<h'.objs.size->(∀ c o,c ≠ z->c ≠ r->c ≠ i1->c ≠ i2->s.heap.get? c=some o->h'.get? c=some o)->Q (some (.ref s.heap.objs.size)) { s with heap:=h' }):wpAny (model prog w) A (pyNext (.ref z)) Q E s:=by
 have lt:∀ {c:Addr} {o:Obj},s.heap.get? c=some o->s.heap.objs.size ≠ c:=λe=>Zx (Qn e)
 obtain⟨zq,pp,rr,a1,a2,t1,t2⟩:=Z
 have n1:s.heap.objs.size ≠ i1:=by obtain⟨o,e,_⟩:=a1;exact lt e
 have n2:s.heap.objs.size ≠ i2:=by obtain⟨o,e,_⟩:=a2;exact lt e
 rcases zq with ⟨rfl,zz⟩|⟨a,f,oa,zz,ha,az,aS,ai1,ai2⟩
 ·refine z1v (b2:=false) D ⟨zz,pp,rr,a1,a2,t1,t2⟩ hx hy λh' Z' pr up=>q h' ⟨.inr ⟨_,false,_,Z'.zz,pr,lt zz,Zx hS,n1,n2⟩,Z'.pp,Z'.rr,Z'.a1,Z'.a2,Z'.t1,Z'.t2⟩ pr (Qn pr) up
 ·have T:s.TypeIs (.ref z) "zip" := ⟨_,zz,rfl⟩
  unfold pyNext
  refine wpAny_bind (wpAny_attempt (wpAny_callSpecial?_slot (name:=Qi "__next__") T Jh (wpAny_call_entry Jh T YB (z3k D zz ha az pp a1 a2 t1 t2 hx hy λh' Z' b1 b2 pr sz up=>wpAny_pure ?_) (Y3 _))))
  obtain⟨u,v,rr⟩:=rr
  exact q h' ⟨.inr ⟨a,true,oa,Z',up a oa az ai1 ai2 ha,az,aS,ai1,ai2⟩,up _ _ D.TIz D.TIi1 D.TIi2 pp,⟨u,v,up _ _ D.TOz D.TOi1 D.TOi2 rr⟩,b1,b2,t1.at λo e=>up _ o D.l1z D.l1i1 D.l1i2 e,t2.at λo e=>up _ o D.l2z D.l2i1 D.l2i2 e⟩ pr (by omega) λc o c1 _ c3 c4 e=>up c o c1 c3 c4 e
theorem z8t{z p r i1 i2 l1 l2 S:Addr}{k:Nat}{xs ys:Array Value}{Q:Option Value->Shared->Prop}(hh:A.handled=none)(D:ZipApart z p r i1 i2 l1 l2)(Z:ZL s.heap z p r i1 i2 l1 l2 S k xs ys)(he:xs[k]? = none\/ys[k]? = none)
 (q:∀ h',(∀ c o,c ≠ z->c ≠ r->c ≠ i1->c ≠ i2->s.heap.get? c=some o->h'.get? c=some o)->Q none { s with heap:=h' }):wpAny (model prog w) A (pyNext (.ref z)) Q E s:=by
 obtain⟨zq,pp,rr,a1,a2,t1,t2⟩:=Z
 rcases zq with ⟨rfl,zz⟩|⟨a,f,oa,zz,ha,az,aS,ai1,ai2⟩
 ·exact z4b (b2:=false) hh D ⟨zz,pp,rr,a1,a2,t1,t2⟩ he q
 ·have T:s.TypeIs (.ref z) "zip" := ⟨_,zz,rfl⟩
  unfold pyNext
  refine wpAny_bind (wpAny_attempt (wpAny_callSpecial?_slot (name:=Qi "__next__") T Jh (wpAny_call_entry Jh T YB (z9p hh D zz ha pp a1 a2 t1 t2 he λh' e up ⟨o,g,c⟩=>?_) (Y3 _))))
  exact wpAny_bind (wpAny_isInstance (T := "StopIteration") (b:=true) ⟨o,g,c⟩ isSubtype_stop (wpAny_pure (q _ λc o c1 _ c3 c4 e=>up c o c1 c3 c4 e)))
theorem ZL.at{h h':Heap}{z p r i1 i2 l1 l2 S:Addr}{k:Nat}{xs ys:Array Value}(Z:ZL h z p r i1 i2 l1 l2 S k xs ys)(nS:S ≠ z/\S ≠ p/\S ≠ r/\S ≠ i1/\S ≠ i2/\S ≠ l1/\S ≠ l2)(up:∀ c o,c ≠ S->h.get? c=some o->h'.get? c=some o):ZL h' z p r i1 i2 l1 l2 S k xs ys:=by
 obtain⟨zq,pp,⟨u,v,rr⟩,a1,a2,t1,t2⟩:=Z
 obtain⟨s1,s2,s3,s4,s5,s6,s7⟩:=nS
 refine⟨?_,up _ _ s2.symm pp,⟨u,v,up _ _ s3.symm rr⟩,a1.at λo e=>up _ o s4.symm e,a2.at λo e=>up _ o s5.symm e,t1.at λo e=>up _ o s6.symm e,t2.at λo e=>up _ o s7.symm e⟩
 rcases zq with ⟨e,zz⟩|⟨a,f,oa,zz,ha,az,aS,ai⟩
 ·exact .inl ⟨e,up _ _ s1.symm zz⟩
 ·exact .inr ⟨a,f,oa,up _ _ s1.symm zz,up _ _ aS ha,az,aS,ai⟩
structure ZG (n0:Nat) (xs ys:Array Value) (h:Heap) (as:List Addr):Prop where
 rise:as.Pairwise (· < ·)
 above:∀ a ∈ as,n0<=a
 pairs:∀ (j:Nat) (a:Addr),as[j]? = some a->∃ x y,xs[j]? = some x/\ys[j]? = some y/\IsPair h a x y
theorem ZG.there{n0:Nat}{xs ys:Array Value}{h:Heap}{as:List Addr}(g:ZG n0 xs ys h as){a:Addr}(ha:a ∈ as):a<h.objs.size:=by
 obtain⟨j,hj⟩:=List.mem_iff_getElem?.mp ha
 obtain⟨_,_,_,_,e⟩:=g.pairs j a hj
 exact Qn e
theorem zfl{a b n:Nat}(h:n<=a)(l:b<n):a ≠ b:=λe=>by omega
theorem z4z{S z p r i1 i2 l1 l2:Addr}{n0 n:Nat}{xs ys:Array Value}{R:Result->Shared->Prop}(hh:A.handled=none)(D:ZipApart z p r i1 i2 l1 l2)(nS:S ≠ z/\S ≠ p/\S ≠ r/\S ≠ i1/\S ≠ i2/\S ≠ l1/\S ≠ l2)(lo:S<n0/\z<n0/\r<n0/\i1<n0/\i2<n0)(hn:n<=sizeLine)(ex:n=min xs.size ys.size)(res:Value){h₁:Heap}
 (hR:∀ h' tk acc c as,(∀ b o,b ≠ S->b ≠ z->b ≠ r->b ≠ i1->b ≠ i2->h₁.get? b=some o->h'.get? b=some o)->h'.get? S=some { cls := .type "list", dict:=none,data := .seq acc c,slots:=#[] }->as.length=n->ZG n0 xs ys h' as->acc.toList=as.map QC->R (.ok (.ret res)) { s with heap:=h',toks:=tk }) :
 ∀ (k i:Nat) (h:Heap) (tk c:Nat) (acc:Array Value) (as:List Addr),n - i=k->i<=n->ZL h z p r i1 i2 l1 l2 S i xs ys->(∀ b o,b ≠ S->b ≠ z->b ≠ r->b ≠ i1->b ≠ i2->h₁.get? b=some o->h.get? b=some o) ->
   h.get? S=some { cls := .type "list", dict:=none,data := .seq acc c,slots:=#[] }->acc.toList=as.map QC->as.length=i->ZG n0 xs ys h as->n0<=h.objs.size ->
   codeAny (model prog w) A (.builtin "list.extend.loop" ⟨[.ref S,.ref z,res],[]⟩) R { s with heap:=h,toks:=tk }:=by
 intro k
 induction k with
 | zero =>
   intro i h tk c acc as hk hi Z hkeep hS hacc hal hG hn0
   refine codeAny_builtin jj ?_
   rw[ZU Yb _]
   show wpAny _ A.in1 (pyNext (.ref z) >>= _) _ _ _
   refine wpAny_bind (z8t (s:={ s with heap:=h,toks:=tk }) (A:=A.in1) hh D Z (by
    by_cases e:xs.size<=i
    ·exact .inl (Jk e)
    ·exact .inr (Jk (by omega))) λh' up=>?_)
   have nb:∀ {a:Addr},a ∈ as->a ≠ z/\a ≠ r/\a ≠ i1/\a ≠ i2:=λm=>by
    have:=hG.above _ m
    exact⟨zfl this lo.2.1,zfl this lo.2.2.1,zfl this lo.2.2.2.1,zfl this lo.2.2.2.2⟩
   refine wpAny_pure (hR h' tk acc c as (λb o b1 b2 b3 b4 b5 e=>up b o b2 b3 b4 b5 (hkeep b o b1 b2 b3 b4 b5 e)) (up S _ nS.1 nS.2.2.1 nS.2.2.2.1 nS.2.2.2.2.1 hS) (by omega) ⟨hG.rise,hG.above,λj a hj=>?_⟩ hacc)
   obtain⟨x,y,e1,e2,e3⟩:=hG.pairs j a hj
   obtain⟨b1,b2,b3,b4⟩:=nb (Zl hj)
   exact⟨x,y,e1,e2,up a _ b1 b2 b3 b4 e3⟩
 | succ k ih =>
   intro i h tk c acc as hk hi Z hkeep hS hacc hal hG hn0
   have hlx:i<xs.size:=by omega
   have hly:i<ys.size:=by omega
   have hx:xs[i]? = some xs[i]:=Zq hlx
   have hy:ys[i]? = some ys[i]:=Zq hly
   have hsz:acc.size=i:=by rw[<- Ja,hacc,Qe,hal]
   have hSl:S<h.objs.size:=Qn hS
   refine codeAny_builtin jj ?_
   rw[ZU Yb _]
   show wpAny _ A.in1 (pyNext (.ref z) >>= _) _ _ _
   refine wpAny_bind (z2y (s:={ s with heap:=h,toks:=tk }) D Z hSl hx hy λh' Z' pr gr up=>?_)
   dsimp only at pr gr up ⊢
   have hS':=up S _ nS.1 nS.2.2.1 nS.2.2.2.1 nS.2.2.2.2.1 hS
   have up2:∀ b o,b ≠ S->h'.get? b=some o->(h'.update S (ZM (·.push (QC h.objs.size)))).get? b=some o:=λb o hb e=>(QJ _ _ (ZY hb)).trans e
   show wpAny _ A.in1 (updateSeq S (·.push (QC h.objs.size)) >>= _) _ _ _
   refine wpAny_bind ?_
   refine wpAny_updateSeq hS' rfl (wpAny_pure ⟨plainId_quiet Yb _,ih (i+1) _ tk _ (acc.push (QC h.objs.size)) (as ++ [h.objs.size]) (by omega) (by omega) (Z'.at nS up2)
    (λb o b1 b2 b3 b4 b5 e=>up2 b o b1 (up b o b2 b3 b4 b5 (hkeep b o b1 b2 b3 b4 b5 e))) (QT _ hS' rfl) (by rw[jr,hacc,QA];rfl) (by rw[Qf,hal];rfl) ⟨?_,?_,?_⟩ ?_⟩) (by rw[hsz];omega) (by show(acc.push (QC h.objs.size)).size<=sizeLine+1;rw[Array.size_push,hsz];omega)
   ·refine List.pairwise_append.mpr ⟨hG.rise,List.pairwise_singleton _ _,λa ha b hb=>?_⟩
    rw[Qu.mp hb]
    exact hG.there ha
   ·intro a ha
    rcases Qx.mp ha with ha|ha
    ·exact hG.above a ha
    ·rw[Qu.mp ha];exact hn0
   ·intro j b hj
    rcases Nat.lt_trichotomy j as.length with h1|h1|h1
    ·rw[Zp h1] at hj
     obtain⟨x,y,e1,e2,e3⟩:=hG.pairs j b hj
     have hb:=hG.above b (Zl hj)
     exact⟨x,y,e1,e2,up2 b _ (zfl hb lo.1) (up b _ (zfl hb lo.2.1) (zfl hb lo.2.2.1) (zfl hb lo.2.2.2.1) (zfl hb lo.2.2.2.2) e3)⟩
    ·subst h1
     have hb:h.objs.size=b:=by simpa using hj
     subst hb
     exact⟨_,_,by rw[hal];exact hx,by rw[hal];exact hy,up2 _ _ (Zx hSl) pr⟩
    ·have hnone:(as ++ [h.objs.size])[j]? = none:=QZ (by rw[Qf,Z8];omega)
     rw[hnone] at hj;cases hj
   ·have e:(h'.update S (ZM (·.push (QC h.objs.size)))).get? h.objs.size=_:=up2 _ _ (Zx hSl) pr
    exact Jj (qz hn0 (Qn e))
theorem zvt:typeLookup (.type "zip") "__len__" = pure none:=by rw[typeLookup_type,builtinLookup_eq_fast];kernel_rfl
theorem zs2:typeLookup (.type "zip") "__length_hint__" = pure none:=by rw[typeLookup_type,builtinLookup_eq_fast];kernel_rfl
theorem zye{z:Addr}{Q:Bool->Shared->Prop}(t:s.TypeIs (.ref z) "zip")(q:Q true s):wpAny (model prog w) A (JM (.ref z)) Q E s:=by
 unfold JM
 exact wpAny_bind (wpAny_specialOf t zvt (wpAny_bind (wpAny_specialOf t zs2 (wpAny_pure q))))
theorem zp2{z p r i1 i2 l1 l2:Addr}{xs ys:Array Value}{Q:Value->Shared->Prop}(hh:A.handled=none)(D:ZipApart z p r i1 i2 l1 l2)(Z:ZS false s.heap z p r i1 i2 l1 l2 0 xs ys .none)(hz:min xs.size ys.size<=sizeLine)
 (q:∀ h' tk acc c as,(∀ b o,b ≠ z->b ≠ r->b ≠ i1->b ≠ i2->s.heap.get? b=some o->h'.get? b=some o)->h'.get? s.heap.objs.size=some { cls := .type "list", dict:=none,data := .seq acc c,slots:=#[] }->as.length=min xs.size ys.size->ZG (s.heap.objs.size+1) xs ys h' as->acc.toList=as.map QC->Q (.ref s.heap.objs.size) { s with heap:=h',toks:=tk }) :
 wpAny (model prog w) A (call (.type "list") [.ref z]) Q E s:=by
 have lt:∀ {c:Addr} {o:Obj},s.heap.get? c=some o->c<s.heap.objs.size:=λe=>Qn e
 refine callType_codes (Q₁:=λv s1=>v = .ref s.heap.objs.size/\s1 = { s with heap:=s.heap.push { cls := .type "list", data := .seq #[] } }) F.called_list (F.typeCall_list_1 _) F.entry_list_init (code_list_new _ ⟨rfl,rfl⟩) ?_
 rintro _ _ ⟨rfl,rfl⟩
 refine⟨⟨_,Qq _ rfl,rfl⟩,F.args_list_init_2 _ _,?_⟩
 have eS:(s.heap.push { cls := .type "list", data := .seq #[] }).get? s.heap.objs.size=some { cls := .type "list", data := .seq #[] }:=Qq _ rfl
 have nz:=lt Z.zz
 have np:=lt Z.pp
 have nr:r<s.heap.objs.size:=by obtain⟨a,b,e⟩:=Z.rr;exact lt e
 have n1:i1<s.heap.objs.size:=by obtain⟨o,e,_⟩:=Z.a1;exact lt e
 have n2:i2<s.heap.objs.size:=by obtain⟨o,e,_⟩:=Z.a2;exact lt e
 have m1:l1<s.heap.objs.size:=by obtain⟨o,e,_⟩:=Z.t1;exact lt e
 have m2:l2<s.heap.objs.size:=by obtain⟨o,e,_⟩:=Z.t2;exact lt e
 have gt:∀ {c:Addr},c<s.heap.objs.size->s.heap.objs.size ≠ c:=λe=>Zx e
 have same:Yh (.ref s.heap.objs.size) (.ref z)=false:=by simp[Yh,gt nz]
 have t1:J9 "zip" ≠ J9 "list" := by decide
 obtain⟨hp,g,dr,tk,os⟩:=s
 have up:∀ c o,hp.get? c=some o->((hp.push { cls := .type "list", data := .seq #[] }).update hp.objs.size (ZM λ_=>(#[]:Array Value))).get? c=some o:=λc o e=>by
  rw[QJ _ _ (Zx (Qn e))]
  exact Qb _ e
 have eS2:=QT (ZM (λ_=>(#[]:Array Value))) eS rfl
 have hT:qm ⟨((hp.push { cls := .type "list", data := .seq #[] }).update hp.objs.size (ZM λ_=>(#[]:Array Value))),g,dr,tk,os⟩ (.ref z) "zip" := ⟨_,up _ _ Z.zz,rfl⟩
 have zz2:IsZip (ju ⟨((hp.push { cls := .type "list", data := .seq #[] }).update hp.objs.size (ZM λ_=>(#[]:Array Value))),g,dr,tk,os⟩) z p r .none:=up _ _ Z.zz
 unfold Builtin.«list.__init__»
 wp_walk using wpAny_pyIter_zip zz2,wpAny_typeOf hT,zye hT
 have nS:hp.objs.size ≠ z/\hp.objs.size ≠ p/\hp.objs.size ≠ r/\hp.objs.size ≠ i1/\hp.objs.size ≠ i2/\hp.objs.size ≠ l1/\hp.objs.size ≠ l2:=⟨gt nz,gt np,gt nr,gt n1,gt n2,gt m1,gt m2⟩
 have lo:hp.objs.size<hp.objs.size+1/\z<hp.objs.size+1/\r<hp.objs.size+1/\i1<hp.objs.size+1/\i2<hp.objs.size+1:=⟨ZK _,QY nz,QY nr,QY n1,QY n2⟩
 have eS3:=QT (ZM (·.push Zh)) eS2 rfl
 have eS4:=QT (ZM (·.pop)) eS3 rfl
 have up4:∀ c o,hp.get? c=some o->((((hp.push { cls := .type "list", data := .seq #[] }).update hp.objs.size (ZM λ_=>(#[]:Array Value))).update hp.objs.size (ZM (·.push Zh))).update hp.objs.size (ZM (·.pop))).get? c=some o:=λc o e=>by
  rw[QJ _ _ (Zx (Qn e)),QJ _ _ (Zx (Qn e))]
  exact up c o e
 obtain⟨u,v,rr⟩:=Z.rr
 refine⟨plainId_quiet Yb _,?_⟩
 refine z4z (s:=⟨hp,g,dr,tk,os⟩) (h₁:=hp) (A:=A.in1) (n:=min xs.size ys.size) (n0:=hp.objs.size+1) hh D nS lo hz rfl .none ?_ (min xs.size ys.size) 0 _ tk _ #[] [] rfl (QO _) ⟨.inl ⟨rfl,up4 _ _ Z.zz⟩,up4 _ _ Z.pp,⟨u,v,up4 _ _ rr⟩,Z.a1.at λo e=>up4 _ o e,Z.a2.at λo e=>up4 _ o e,Z.t1.at λo e=>up4 _ o e,Z.t2.at λo e=>up4 _ o e⟩ (λb o _ _ _ _ _ e=>up4 b o e) eS4 rfl rfl ⟨.nil,λ_ m=>(Qo m).elim,λj a hj=>by simp at hj⟩ (by rw[jC,jC,jC,Z2];exact Qt _)
 exact λh' tk' acc c as kp e hl G ea=>⟨rfl,q h' tk' acc c as (λb o b1 b2 b3 b4 eb=>kp b o (Q9 (Qn eb)) b1 b2 b3 b4 eb) e hl G ea⟩
end
theorem znk{a b n:Nat}(h:a<n)(l:n<=b):a ≠ b:=λe=>by omega
structure NewT (H H2:Hp) (as:List Addr) (xs ys:List V):Prop where
 same:Same H H2
 new:∀ a ∈ as,H a=none
 at_:∀ (j:Nat) a,as[j]? = some a->∃ x y,xs[j]? = some x/\ys[j]? = some y/\H2 a=some (.tup [x,y])
def tLZ(K:Qa)(t:TA):TE:=λσ H Q=>t σ H λvs H1=>∃ a b xs ys,vs = [.ref a,.ref b]/\SqT K H1 a xs/\SqT K H1 b ys/\∀ (H2:Hp) (as:List Addr) (p:Addr),NewT H1 H2 as xs ys->as.length=min xs.length ys.length->H1 p=none->H2 p=none->Q (.ref p) (upd H2 p (.lst (as.map V.ref)))
theorem zrp{xs:List V}{us:List Value}(r:Vals xs us):∀ {i:Nat} {u:Value},us[i]? = some u->∃ x,xs[i]? = some x/\RelV x u:=by
 induction r with
 | nil=>intro i u e;simp at e
 | cons h t ih =>
   intro i u e
   cases i with
   | zero=>cases e;exact⟨_,rfl,h⟩
   | succ i =>
     obtain⟨x,h1,h2⟩:=ih (i:=i) (by simpa using e)
     exact⟨x,by simpa using h1,h2⟩
section
variable {X : Cx} {pins : List (Addr × Obj)} {σ : L2.St} {s : Shared} {h' : Heap} {tk : Nat}
theorem zm2{n0:Nat}{H0:Hp}{xs ys:List V}{us vs:List Value}(I0:Inv X pins σ H0 s)(le:s.heap.objs.size<=n0)(rx:Vals xs us)(ry:Vals ys vs) :
 ∀ (as:List Addr) (j0:Nat) (H:Hp),as.Pairwise (· < ·)->(∀ a ∈ as,n0<=a/\H a=none)->(∀ (j:Nat) a,as[j]? = some a->∃ x y,us[j0+j]? = some x/\vs[j0+j]? = some y/\IsPair h' a x y)->Inv X pins σ H { s with heap:=h',toks:=tk } ->
   ∃ H2,Inv X pins σ H2 { s with heap:=h',toks:=tk }/\Same H H2/\(∀ b,b ∉ as->H2 b=H b)/\∀ (j:Nat) a,as[j]? = some a->∃ x y,xs[j0+j]? = some x/\ys[j0+j]? = some y/\H2 a=some (.tup [x,y])
 | [],j0,H,_,_,_,I=>⟨H,I,Same.refl _,λ_ _=>rfl,λj a e=>by simp at e⟩
 | a::as,j0,H,pw,hn,hp,I=>by
   obtain⟨x,y,hx,hy,pr⟩:=hp 0 a rfl
   have fp:FpOk X pins H a:=I0.fpOk (Q2 le (hn a (by simp)).1) (hn a (by simp)).2
   obtain⟨x',hx',rx'⟩:=zrp rx hx
   obtain⟨y',hy',ry'⟩:=zrp ry hy
   have new:ObjOk X.prog X.w (upd H a (.tup [x',y'])) h' a (.tup [x',y']):=⟨by show 2<=sizeLine;rw[sizeLine_eq];decide,[x,y],.cons rx' (.cons ry' .nil),_,pr,rfl,0,rfl⟩
   have I1:Inv X pins σ (upd H a (.tup [x',y'])) { s with heap:=h',toks:=tk }:=I.adopt (t':=tk) fp (λb u _ e=>e) new
   have lt:∀ b ∈ as,a<b:=λb hb=>(qB.mp pw).1 b hb
   obtain⟨H2,I2,sm,ot,at_⟩:=zm2 I0 le rx ry as (j0+1) _ (qB.mp pw).2 (λb hb=>⟨(hn b (Qj _ hb)).1,by rw[zaf (Zx (lt b hb))];exact(hn b (Qj _ hb)).2⟩) (λj b e=>by
    obtain⟨x,y,h1,h2,h3⟩:=hp (j+1) b (by simpa using e)
    exact⟨x,y,by rw[show j0+1+j=j0+(j+1) by omega];exact h1,by rw[show j0+1+j=j0+(j+1) by omega];exact h2,h3⟩) I1
   refine⟨H2,I2,λb o e=>sm b o (by rw[zaf (show b ≠ a from λz=>by rw[z,(hn a (by simp)).2] at e;cases e)];exact e),λb hb=>?_,λj b e=>?_⟩
   ·rw[ot b λz=>hb (Qj _ z),zaf λz=>hb (by rw[z];simp)]
   ·cases j with
    | zero =>
      cases e
      exact⟨x',y',hx',hy',by rw[ot a λz=>ZI _ (lt a z)];exact zap⟩
    | succ j =>
      obtain⟨x,y,h1,h2,h3⟩:=at_ j b (by simpa using e)
      exact⟨x,y,by rw[show j0+(j+1)=j0+1+j by omega];exact h1,by rw[show j0+(j+1)=j0+1+j by omega];exact h2,h3⟩
end
theorem zs6{X:Cx}{a b:Expr}{ta:TA}{p1 p2 p3 p4:Pos}(calm:X.A.handled=none)(gl:Gl X "list")(ml:X.mg "list" = none)(gz:Gl X "zip")(mz:X.mg "zip" = none)(ha:PA X [a,b] ta)
 (s1:starEach [.Call (.Name "zip" p2) [a,b] [] p3] X.env=(false,eval (.Call (.Name "zip" p2) [a,b] [] p3) X.env)::starEach [] X.env:=by rfl) (hs:starEach [a,b] X.env=(false,eval a X.env)::starEach [b] X.env:=by rfl) (hp:(backTo p3 (starEach [b] X.env)).any (·.1)=false:=by rfl) :
 PE X (.Call (.Name "list" p1) [.Call (.Name "zip" p2) [a,b] [] p3] [] p4) (tLZ X.K ta):=by
 intro pins s σ H Q I h
 refine wpAny_Call_Name_kw (zcf I gl ml (u := .type "list") rfl ?_)
 refine Zt ?_ s1
 rw[s1]
 show wpAny _ _ (spliced ((false,eval (.Call (.Name "zip" p2) [a,b] [] p3) X.env) :: [])) _ _ s
 refine Zi ?_
 refine Call_ (zcf I gz mz z6w (Zt (thn (ha p3 pins s σ H _ I h) λus s1 ⟨vs,H1,I1,r1,q1⟩=>?_) hs hp))
 obtain⟨a,b,xs,ys,e,qa,qb,q⟩:=q1
 subst e
 obtain⟨u,v,rfl,ru,rv⟩:=Vals.two r1
 obtain rfl:u=QC a:=ru
 obtain rfl:v=QC b:=rv
 obtain⟨us,ru,tu,zu⟩:=I1.tuple qa
 obtain⟨vs,rv,tv,zv⟩:=I1.tuple qb
 have lu:=ru.length
 have lv:=rv.length
 have la:a<s1.heap.objs.size:=by obtain⟨o,e,_⟩:=tu;exact Qn e
 have lb:b<s1.heap.objs.size:=by obtain⟨o,e,_⟩:=tv;exact Qn e
 refine z3n (b2:=false) tu tv λh1 S up=>ZA ?_
 have sz:s1.heap.objs.size+4<h1.objs.size:=Qn S.zz
 refine zp2 (s:={ s1 with heap:=h1 }) calm (zw4 _ _ _ la lb) S (by simp;omega) λh' tk acc c as kp e hl G ea=>?_
 dsimp only at kp e hl G ea ⊢
 have kp2:∀ b o,s1.heap.get? b=some o->h'.get? b=some o:=λb o eb=>by
  have:=Qn eb
  exact kp b o (znk this (jD _ _)) (znk this (jD _ _)) (znk this (Qt _)) (znk this (jD _ _)) (up b o eb)
 have I2:Inv X pins σ H1 { s1 with heap:=h',toks:=tk }:=I1.kept (t':=tk) kp2
 have nn:∀ a,s1.heap.objs.size<=a->H1 a=none:=λa z=>I1.hok.fresh z
 have ab:∀ a ∈ as,s1.heap.objs.size<=a:=λa m=>by have:=G.above a m;omega
 obtain⟨H2,I3,sm,ot,at_⟩:=zm2 (n0:=s1.heap.objs.size) I1 (Qt _) ru rv as 0 H1 G.rise (λa m=>⟨ab a m,nn a (ab a m)⟩) (λj a ej=>by
  obtain⟨x,y,g1,g2,g3⟩:=G.pairs j a ej
  exact⟨x,y,by simpa using g1,by simpa using g2,g3⟩) I2
 have np:h1.objs.size ∉ as:=λm=>by have:=G.above _ m;omega
 have n1:H1 h1.objs.size=none:=nn _ (by omega)
 have n2:H2 h1.objs.size=none:=by rw[ot _ np];exact n1
 have fp:FpOk X pins H2 h1.objs.size:=I1.fpOk (by omega) n2
 have vr:Vals (as.map V.ref) acc.toList:=by
  rw[ea]
  clear ea at_ ot G hl ab np
  induction as with
  | nil=>exact .nil
  | cons a as ih=>exact .cons rfl ih
 have hz:as.length<=sizeLine:=by rw[hl];simp;omega
 have new:ObjOk X.prog X.w (upd H2 h1.objs.size (.lst (as.map V.ref))) h' h1.objs.size (.lst (as.map V.ref)):=⟨by rw[Qe];exact hz,acc.toList,c,vr,by simpa using e⟩
 exact⟨.ref h1.objs.size,_,I3.adopt (t':=tk) fp (λb u _ e=>e) new,rfl,q H2 as _ ⟨sm,λa m=>nn a (ab a m),λj a ej=>by simpa using at_ j a ej⟩ (by rw[hl];simp;omega) n1 n2⟩
section
variable {K : Qa} {O : Ob}
def lzD(g:DA):DE:=λρ Q=>g ρ λvs=>∃ ds es,vs = [.tuple ds,.tuple es]/\flats ds=true/\flats es=true/\Q (.n (zipD ds es))
theorem ztq{H2:Hp}:∀ {as:List Addr} {xs ys:List V} {ds es:List PyData},IsAll K (unM O) H2 xs ds->IsAll K (unM O) H2 ys es->as.length=min xs.length ys.length->(∀ (j:Nat) a,as[j]? = some a->∃ x y,xs[j]? = some x/\ys[j]? = some y/\H2 a=some (.tup [x,y]))->IsAll K (unM O) H2 (as.map V.ref) (zipD ds es)
 | as,[],_,_,_,.nil,_,hl,_=>by
   have:as = []:=Jg (by rw[hl];simp)
   subst this
   exact .nil
 | as,_::_,[],_,_,.cons _ _,.nil,hl,_=>by
   have:as = []:=Jg (by rw[hl];simp)
   subst this
   exact .nil
 | [],_::_,_::_,_,_,.cons _ _,.cons _ _,hl,_=>by simp[qN] at hl
 | a::as,x::xs,y::ys,d::ds,e::es,.cons h1 t1,.cons h2 t2,hl,hp=>by
   obtain⟨x',y',e1,e2,q⟩:=hp 0 a rfl
   cases e1
   cases e2
   exact .cons (.tuple (.of q) (.cons h1 (.cons h2 .nil))) (ztq t1 t2 (by rw[Qy,Qy,Qy,qN] at hl;omega) λj b ej=>by
    obtain⟨x,y,g1,g2,g3⟩:=hp (j+1) b (by simpa using ej)
    exact⟨x,y,by simpa using g1,by simpa using g2,g3⟩)
theorem ztc{t:TA}{g:DA}(h:AD K O t g):ED K O (tLZ K t) (lzD g):=λσ H ρ Q Qd S hf k=>by
 refine h σ H ρ _ _ S hf λvs H1 ds st is ⟨es,fs,e,f1,f2,q⟩=>?_
 subst e
 cases is with
 | cons i1 is =>
   cases is with
   | cons i2 is =>
     cases is
     cases i1 with
     | @tuple a xs _ ha hs =>
       cases i2 with
       | @tuple b ys _ hb ht =>
         refine⟨a,b,xs,ys,rfl,ha,hb,λH2 as p N hl n1 n2=>?_⟩
         have st2:Stp O H1 H2 := .same S.ok N.same
         have nM:¬ O.M p:=λm=>by obtain⟨o,z⟩:=S.ok.here H1 p (st.p S.p) m;rw[n1] at z;cases z
         have st3:Stp O H2 (upd H2 p (.lst (as.map V.ref))) := .new S.ok n2 _
         have is2:=ztq (hs.stp st2 (λ_ f=>f) (λ_ f=>f)) (ht.stp st2 (λ_ f=>f) (λ_ f=>f)) hl N.at_
         exact k _ _ (.n (zipD es fs)) ((st.trans st2).trans st3) ⟨p,_,rfl,st.s.free nM n1,zap,is2.stp st3 (λ_ f=>f) (λ_ f=>f)⟩ q
end
section
variable {ι κ : Type} {P : Program} {w : World} {K : Qa} {mg : Str → Option Value} {base : Heap} {k : Nat} {X : ι → Cx} {O : κ → Ob} {a b : Expr} {ga : DA} {p1 p2 p3 p4 : Pos}
theorem zvu(C:Ctx3 P w K mg base k X)(B:Blt mg)(ha:A3 K X O [a,b] ga)(hg:∀ i,Gl (X i) "list" := by intro i;rfl)(hz:∀ i,Gl (X i) "zip" := by intro i;rfl)(s1:∀ i,starEach [.Call (.Name "zip" p2) [a,b] [] p3] (X i).env=(false,eval (.Call (.Name "zip" p2) [a,b] [] p3) (X i).env)::starEach [] (X i).env:=by intro i;rfl)
 (hs:∀ i,starEach [a,b] (X i).env=(false,eval a (X i).env)::starEach [b] (X i).env:=by intro i;rfl) (hp:∀ i,(backTo p3 (starEach [b] (X i).env)).any (·.1)=false:=by intro i;rfl):E3 K X O (.Call (.Name "list" p1) [.Call (.Name "zip" p2) [a,b] [] p3] [] p4) (lzD ga):=let ⟨_,q,d⟩:=ha;
 ⟨_,λi=>by have h:=zs6 (p1:=p1) (p2:=p2) (p3:=p3) (p4:=p4) (C.room i).hd (hg i) (by rw[C.hmg];exact B.list) (hz i) (by rw[C.hmg];exact B.zip) (q i) (s1 i) (hs i) (hp i);rw[C.hK] at h;exact h,λj=>ztc (d j)⟩
end
def zcn(i:Nat):List Nat:=([cds "letters", cds "lines", cds "flags"]:List (List Nat)).getD i []
def zbx(i:Nat)(ws:List (List Nat)):Bool:=decide (ws.length=2) && (decide (ws.getD 0 []=zcn i) && (if i=0 then !decide (ws.getD 1 [] = []) && zds (ws.getD 1 []) else zak (ws.getD 1 [])))
def zbf(ws:List (List Nat)):Bool:=decide (ws.length=2) && (decide (ws.getD 0 []=cds "hand") && zak (ws.getD 1 []))
def shC(w:List Nat):Nat:=if zak w=true then 48 else if(decide (w.length=1) && lowB w)=true then 97 else 63
def zay(w:List Nat):Option (List Nat) :=
 if w=cds "go" then some [48] else if w=cds "send" then some [48,97,48] else if w=cds "take" then some [48,97,48] else if w=cds "empty" then some [48,48] else if w=cds "set" then some [48,48,48] else if w=cds "if" then some [48,48,48] else none
def zbr(ws:List (List Nat)):Bool:=decide (2<=ws.length) && (zak (ws.getD 0 []) && decide (zay (ws.getD 1 [])=some ((ws.drop 2).map shC)))
def zf2(ws:List (List Nat)):PyData := .tuple [thD (ws.getD 0 []),.tuple (((ws.drop 1).dropLast).map thD),thD (ws.getD (ws.length - 1) [])]
abbrev HL:=List (Nat × List PyData)
def zg3(hs:HL)(x:PyData):HL:=match hs.getLast? with
 | some (n,rs)=>hs.dropLast ++ [(n,rs ++ [x])]
 | none=>hs
def za4:Nat->HL->List (List (List Nat))->Nat ⊕ HL
 | _,hs,[] => .inr hs
 | i,hs,ws::r=>if zbf ws=true then za4 (i+1) (hs ++ [(valW (ws.getD 1 []),[])]) r else if(!hs.isEmpty && zbr ws)=true then za4 (i+1) (zg3 hs (zf2 ws)) r else .inl i
def za5(rs:List (List (List Nat)))(i:Nat):Bool:=decide (i<rs.length) && zbx i (rs.getD i [])
def zcz(rs:List (List (List Nat))):Option Nat:=if za5 rs 0=true then if za5 rs 1=true then if za5 rs 2=true then none else some 2 else some 1 else some 0
def hlD(hs:HL):PyData := .tuple (hs.map λx => .tuple [.int (x.1:Nat),.tuple x.2])
def zcb(rs:List (List (List Nat))):Nat ⊕ PyData:=match zcz rs with
 | some i => .inl i
 | none=>match za4 3 [] (rs.drop 3) with
   | .inl i => .inl i
   | .inr hs => .inr (.tuple [.str (tx ((rs.getD 0 []).getD 1 [])),.int (valW ((rs.getD 1 []).getD 1 []):Nat),.int (valW ((rs.getD 2 []).getD 1 []):Nat),hlD hs])
def zas:Deed->List (List Nat)
 | .go => [cds "go"]
 | .send l c => [cds "send", numT l,[c]]
 | .take l c => [cds "take", numT l,[c]]
 | .empty l => [cds "empty", numT l]
 | .put f v => [cds "set", numT f,numT v]
 | .test f v => [cds "if", numT f,numT v]
def za3(r:Rul):List (List Nat):=numT r.p::(zas r.d ++ [numT r.q])
def zbc(x:Hnd):List (List (List Nat)) := [cds "hand", numT x.n]::x.rs.map za3
def zbn(h:Hou):List (List (List Nat)) := [[cds "letters", h.ls],[cds "lines", numT h.lines],[cds "flags", numT h.flags]]++(h.hands.map zbc).flatten
def za0(h:Hou):List (List Nat):=(zbn h).map (zat 32)
def zbp(h:Hou):List Nat:=zat 10 (za0 h)
def DeT:Deed->Prop
 | .go=>True
 | .send l c=>l<1000/\97<=c/\c<=122
 | .take l c=>l<1000/\97<=c/\c<=122
 | .empty l=>l<1000
 | .put f v=>f<1000/\v<1000
 | .test f v=>f<1000/\v<1000
structure RuT (r:Rul):Prop where
 p:r.p<1000
 d:DeT r.d
 q:r.q<1000
structure HT (h:Hou):Prop where
 ls:zds h.ls=true
 ne:h.ls ≠ []
 lines:h.lines<1000
 flags:h.flags<1000
 hands:∀ x ∈ h.hands,x.n<1000/\∀ r ∈ x.rs,RuT r
theorem zbg{n:Nat}(h:n<1000):thD (numT n) = .int (n:Nat):=by
 unfold thD
 rw[if_pos (zbw n h).1,zee h]
theorem zfv{s:String}(h:zak (cds s)=false):thD (cds s) = .str (Qi s):=by
 unfold thD
 rw[if_neg (by rw[h];exact Qc),<- zb3]
theorem zm4{c:Nat}(h:97<=c):zak [c]=false:=by
 unfold zak digB
 rw[zA,decide_eq_false (show ¬ c<=57 by omega),QI,QD,QD,QD]
theorem zr4{c:Nat}(h:97<=c):thD [c] = .str (tx [c]):=by
 unfold thD
 rw[if_neg (by rw[zm4 h];exact Qc)]
theorem zcd{n:Nat}(h:n<1000):shC (numT n)=48:=by
 unfold shC
 rw[if_pos (zbw n h).1]
theorem zxe{c:Nat}(h1:97<=c)(h2:c<=122):(decide (([c]:List Nat).length=1) && lowB [c])=true:=by
 unfold lowB
 simp[h1,h2]
theorem zqp{c:Nat}(h1:97<=c)(h2:c<=122):shC [c]=97:=by
 unfold shC
 rw[if_neg (by rw[zm4 h1];exact Qc),if_pos (zxe h1 h2)]
theorem zzr:zay (cds "go")=some [48]:=by decide +kernel
theorem zre:zay (cds "send")=some [48,97,48]:=by decide +kernel
theorem zr7:zay (cds "take")=some [48,97,48]:=by decide +kernel
theorem zpc:zay (cds "empty")=some [48,48]:=by decide +kernel
theorem zug:zay (cds "set")=some [48,48,48]:=by decide +kernel
theorem zzs:zay (cds "if")=some [48,48,48]:=by decide +kernel
theorem ybt:zak (cds "go")=false:=by decide +kernel
theorem z2x:zak (cds "send")=false:=by decide +kernel
theorem z3o:zak (cds "take")=false:=by decide +kernel
theorem zyf:zak (cds "empty")=false:=by decide +kernel
theorem yak:zak (cds "set")=false:=by decide +kernel
theorem ybw:zak (cds "if")=false:=by decide +kernel
theorem zon{r:Rul}(h:RuT r):zbr (za3 r)=true/\zf2 (za3 r)=zbm r/\zbf (za3 r)=false:=by
 obtain⟨p,d,q⟩:=r
 obtain⟨hp,hd,hq⟩:=h
 have np:=(zbw p hp).1
 unfold za3 zbr zf2 zbf zbm
 cases d with
 | go=>exact⟨by simp[zas,np,zzr,zcd hq],by simp[zas,zet,zbg hp,zbg hq,zfv ybt],by simp[zas]⟩
 | send l c =>
   obtain⟨h1,h2,h3⟩:=hd
   exact⟨by simp[zas,np,zre,zcd hq,zcd h1,zqp h2 h3],by simp[zas,zet,zbg hp,zbg hq,zbg h1,zr4 h2,zfv z2x],by simp[zas]⟩
 | take l c =>
   obtain⟨h1,h2,h3⟩:=hd
   exact⟨by simp[zas,np,zr7,zcd hq,zcd h1,zqp h2 h3],by simp[zas,zet,zbg hp,zbg hq,zbg h1,zr4 h2,zfv z3o],by simp[zas]⟩
 | empty l=>exact⟨by simp[zas,np,zpc,zcd hq,zcd (show l<1000 from hd)],by simp[zas,zet,zbg hp,zbg hq,zbg (show l<1000 from hd),zfv zyf],by simp[zas]⟩
 | put f v =>
   obtain⟨h1,h2⟩:=hd
   exact⟨by simp[zas,np,zug,zcd hq,zcd h1,zcd h2],by simp[zas,zet,zbg hp,zbg hq,zbg h1,zbg h2,zfv yak],by simp[zas]⟩
 | test f v =>
   obtain⟨h1,h2⟩:=hd
   exact⟨by simp[zas,np,zzs,zcd hq,zcd h1,zcd h2],by simp[zas,zet,zbg hp,zbg hq,zbg h1,zbg h2,zfv ybw],by simp[zas]⟩
theorem zts{n:Nat}(h:n<1000):zbf [cds "hand", numT n]=true:=by
 unfold zbf
 simp[(zbw n h).1]
theorem zeo(hs:HL)(n:Nat)(rs:List PyData)(x:PyData):zg3 (hs ++ [(n,rs)]) x=hs ++ [(n,rs ++ [x])]:=by
 unfold zg3
 rw[List.getLast?_append,List.getLast?_singleton,List.dropLast_concat]
 rfl
theorem zn9:∀ (rs:List Rul) (i:Nat) (hs:HL) (n:Nat) (ds:List PyData) (r:List (List (List Nat))),(∀ x ∈ rs,RuT x)->za4 i (hs ++ [(n,ds)]) (rs.map za3++r)=za4 (i+rs.length) (hs ++ [(n,ds++rs.map zbm)]) r
 | [],i,hs,n,ds,r,_=>by simp
 | x::rs,i,hs,n,ds,r,h=>by
   obtain⟨h1,h2,h3⟩:=zon (h x (by simp))
   rw[Q3,J8,za4,if_neg (by rw[h3];exact Qc),if_pos (by rw[h1,j5];simp),zeo,h2,zn9 rs (i+1) hs n _ r λy hy=>h y (Qj _ hy),Qw,Qy,Q3]
   congr 1
   omega
theorem zop:∀ (xs:List Hnd) (i:Nat) (hs:HL),(∀ x ∈ xs,x.n<1000/\∀ r ∈ x.rs,RuT r)->za4 i hs (xs.map zbc).flatten = .inr (hs++xs.map λx=>(x.n,x.rs.map zbm))
 | [],i,hs,_=>by simp[za4]
 | x::xs,i,hs,h=>by
   obtain⟨h1,h2⟩:=h x (by simp)
   rw[Q3,ZB]
   show za4 i hs ([cds "hand", numT x.n]::x.rs.map za3++_)=_
   rw[J8,za4,if_pos (zts h1),zn9 x.rs (i+1) hs _ [] _ h2,zop xs _ _ λy hy=>h y (Qj _ hy)]
   show Yi (hs ++ [(valW (numT x.n),[]++x.rs.map zbm)]++_)=_
   rw[zee h1,Yj,Qw]
   rfl
theorem zvo{h:Hou}(H:HT h):zcb (zbn h) = .inr (zda h):=by
 have b0:za5 (zbn h) 0=true:=by
  unfold za5 zbx
  simp[zbn,zcn,H.ls,H.ne]
 have b1:za5 (zbn h) 1=true:=by
  unfold za5 zbx
  simp[zbn,zcn,(zbw _ H.lines).1]
 have b2:za5 (zbn h) 2=true:=by
  unfold za5 zbx
  simp[zbn,zcn,(zbw _ H.flags).1]
 unfold zcb zcz
 rw[if_pos b0,if_pos b1,if_pos b2]
 show(match za4 3 [] (h.hands.map zbc).flatten with | .inl i=>_ | .inr hs=>_)=_
 rw[zop h.hands 3 [] H.hands]
 show Yi (JC [.str (tx h.ls),.int (valW (numT h.lines):Nat),.int (valW (numT h.flags):Nat),hlD ([]++h.hands.map λx=>(x.n,x.rs.map zbm))])=_
 rw[zee H.lines,zee H.flags,Yj]
 unfold hlD zda
 rw[Q5]
 rfl
def zn3:List PyData->(R->Prop)->Prop:=λds Q=>∃ w:List Nat,ds = [.str (tx w)]/\Lng w/\Q (.o (.bool (lowB w)))
def zvn:List PyData->(R->Prop)->Prop:=λds Q=>∃ w:List Nat,ds = [.str (tx w)]/\Lng w/\Q (.o (.bool (zds w)))
def zw0:List PyData->(R->Prop)->Prop:=λds Q=>∃ (ws:List (List Nat)) (i:Nat),ds = [.list (tsD ws),.int (i:Nat)]/\WsOk ws/\i<3/\Q (.o (.bool (zbx i ws)))
def ztj:List PyData->(R->Prop)->Prop:=λds Q=>∃ ws:List (List Nat),ds = [.list (tsD ws)]/\WsOk ws/\Q (.o (.bool (zbf ws)))
def z0l:List PyData->(R->Prop)->Prop:=λds Q=>∃ ws:List (List Nat),ds = [.list (tsD ws)]/\WsOk ws/\Q (.o (.bool (zbr ws)))
def zue:List PyData->(R->Prop)->Prop:=λds Q=>∃ ws:List (List Nat),ds = [.list (tsD ws)]/\WsOk ws/\zbr ws=true/\Q (.o (zf2 ws))
def z9h:Nat ⊕ HL->R
 | .inl i => .o (excD "NoText" ["at"] [.int (i:Nat)])
 | .inr hs => .o (hlD hs)
def zj2:List PyData->(R->Prop)->Prop:=λds Q=>∃ rs:List (List (List Nat)),ds = [.list (rs.map rwD)]/\(∀ ws ∈ rs,WsOk ws)/\rs.length<=100001/\3<=rs.length/\Q (z9h (za4 3 [] (rs.drop 3)))
def ztl:List PyData->(R->Prop)->Prop:=λds Q=>∃ t:List Nat,ds = [.str (tx t)]/\Lng t/\Q (yax (zcb (za6 t)))
def ze7:Nat ⊕ List Nat->PyData
 | .inl n => .int (n:Nat)
 | .inr w => .str (tx w)
def zcj:Nat ⊕ List Nat->List Nat
 | .inl n=>numT n
 | .inr w=>w
def zin:Nat ⊕ List Nat->Prop
 | .inl n=>n<1000
 | .inr w=>Lng w
def znx:List PyData->(R->Prop)->Prop:=λds Q=>∃ ps:List (Nat ⊕ List Nat),ds = [.tuple (ps.map ze7)]/\(∀ p ∈ ps,zin p)/\ps.length<=100/\Q (.o (.str (tx (zat 32 (ps.map zcj)))))
def zuy:List PyData->(R->Prop)->Prop:=λds Q=>∃ h:Hou,ds = [zda h]/\HT h/\Lng (zbp h)/\Q (.o (.str (tx (zbp h))))
def z0c:List PyData->(R->Prop)->Prop:=λds Q=>ds = []/\∀ n,n<1000->Q (.o (.int (n:Nat)))
structure HS (h:Hou):Prop where
 ls:h.ls.length<=26
 hands:h.hands.length<=3
 rules:∀ x ∈ h.hands,x.rs.length<=6
def zz6:List PyData->(R->Prop)->Prop:=λds Q=>ds = []/\∀ h,HT h->HS h->Q (.o (zda h))
def zpt:List PyData->(R->Prop)->Prop:=λds Q=>∃ r:Rul,ds = [zbm r]/\RuT r/\Q (.o (.str (tx (zat 32 (za3 r)))))
def zkg:List PyData->(R->Prop)->Prop:=λds Q=>∃ h:Hou,ds = [zda h]/\HT h/\HS h/\Q (.n (tsD (za0 h)))
theorem zmh{c:Nat}{ws:List (List Nat)}(h:ws ≠ [])(hf:∀ w ∈ ws,c ∉ w):cutW c (zat c ws)=ws:=by
 have h1:=zgt h hf
 rw[zm7] at h1
 exact jh (λ_ _ z=>zib z) |>.mp h1
abbrev Prt:=Nat ⊕ List Nat
def psD(ps:List Prt):PyData := .tuple (ps.map ze7)
def zcr:Deed->List Prt
 | .go => [.inr (cds "go")]
 | .send l c => [.inr (cds "send"),.inl l,.inr [c]]
 | .take l c => [.inr (cds "take"),.inl l,.inr [c]]
 | .empty l => [.inr (cds "empty"),.inl l]
 | .put f v => [.inr (cds "set"),.inl f,.inl v]
 | .test f v => [.inr (cds "if"),.inl f,.inl v]
def zd3(r:Rul):List Prt := .inl r.p::(zcr r.d ++ [.inl r.q])
def zcq(x:Hnd):List (List Prt) := [.inr (cds "hand"),.inl x.n]::x.rs.map zd3
def zgf(h:Hou):List (List Prt) := [[.inr (cds "letters"),.inr h.ls],[.inr (cds "lines"),.inl h.lines],[.inr (cds "flags"),.inl h.flags]]
def psH(h:Hou):List (List Prt):=zgf h++(h.hands.map zcq).flatten
theorem zll(d:Deed):(zcr d).map zcj=zas d:=by cases d <;> rfl
theorem z2q(r:Rul):(zd3 r).map zcj=za3 r:=by
 unfold zd3 za3
 rw[Q3,QA,zll]
 rfl
theorem z4e(x:Hnd):(zcq x).map (·.map zcj)=zbc x:=by
 unfold zcq zbc
 rw[Q3,Q5]
 congr 1
 exact Ji λr _=>z2q r
theorem zrx(h:Hou):(psH h).map (·.map zcj)=zbn h:=by
 unfold psH zbn
 rw[QA]
 congr 1
 rw[List.map_flatten,Q5]
 congr 1
 exact Ji λx _=>z4e x
theorem zzy(d:Deed):zet d=psD (zcr d):=by
 cases d <;> simp only[zet,psD,zcr,Q3,List.map_nil,ze7,<- zb3]
theorem zni(r:Rul):addF (.tuple [.int (r.p:Nat)]) (zet r.d)=some (.o (.tuple (.int (r.p:Nat)::(zcr r.d).map ze7)))/\addF (.tuple (.int (r.p:Nat)::(zcr r.d).map ze7)) (.tuple [.int (r.q:Nat)])=some (.o (psD (zd3 r))):=by
 rw[zzy]
 obtain⟨p,d,q⟩:=r
 cases d <;> exact⟨rfl,rfl⟩
theorem zd4{s:String}(h:(zco (cds s) && decide ((cds s).length<=1000))=true):Lng (cds s):=zce h
theorem zjp{r:Rul}(h:RuT r):(∀ p ∈ zd3 r,zin p)/\(zd3 r).length<=5:=by
 obtain⟨p,d,q⟩:=r
 obtain⟨hp,hd,hq⟩:=h
 have lc:∀ c:Nat,c<=122->Lng [c]:=λc hc=>lng1 c (by omega)
 unfold zd3
 cases d with
 | go=>simp only[zcr];refine⟨?_,Z9 rfl⟩;simp;exact⟨hp,zd4 (by decide +kernel),hq⟩
 | send l c=>simp only[zcr];refine⟨?_,Z9 rfl⟩;simp;exact⟨hp,zd4 (by decide +kernel),hd.1,lc c hd.2.2,hq⟩
 | take l c=>simp only[zcr];refine⟨?_,Z9 rfl⟩;simp;exact⟨hp,zd4 (by decide +kernel),hd.1,lc c hd.2.2,hq⟩
 | empty l=>simp only[zcr];refine⟨?_,Z9 rfl⟩;simp;exact⟨hp,zd4 (by decide +kernel),hd,hq⟩
 | put f v=>simp only[zcr];refine⟨?_,Z9 rfl⟩;simp;exact⟨hp,zd4 (by decide +kernel),hd.1,hd.2,hq⟩
 | test f v=>simp only[zcr];refine⟨?_,Z9 rfl⟩;simp;exact⟨hp,zd4 (by decide +kernel),hd.1,hd.2,hq⟩
theorem zlz{w:List Nat}(h:zds w=true):∀ c ∈ w,97<=c/\c<=122:=λc hc=>by
 unfold zds lowB at h
 obtain⟨a,_⟩:=QR.mp h
 have:=QK.mp a c hc
 simp only[Qp,decide_eq_true_eq] at this
 exact this
theorem zu8{h:Hou}(H:HT h)(hl:h.ls.length<=100000):∀ ps ∈ psH h,(∀ p ∈ ps,zin p)/\ps.length<=100:=λps hp=>by
 rcases Qx.mp hp with hp|hp
 ·have hls:Lng h.ls:=⟨hl,λc hc=>by have:=zlz H.ls c hc;omega⟩
  simp only[zgf,Ql,Qo,or_false] at hp
  rcases hp with rfl|rfl|rfl
  ·exact⟨by simp;exact⟨zd4 (by decide +kernel),hls⟩,by simp⟩
  ·exact⟨by simp;exact⟨zd4 (by decide +kernel),H.lines⟩,by simp⟩
  ·exact⟨by simp;exact⟨zd4 (by decide +kernel),H.flags⟩,by simp⟩
 ·obtain⟨l,hl,hp⟩:=JY.mp hp
  obtain⟨x,hx,rfl⟩:=Qz.mp hl
  obtain⟨hn,hr⟩:=H.hands x hx
  rcases Ql.mp hp with rfl|hp
  ·exact⟨by simp;exact⟨zd4 (by decide +kernel),hn⟩,by simp⟩
  ·obtain⟨r,hr',rfl⟩:=Qz.mp hp
   exact⟨(zjp (hr r hr')).1,Q2 (zjp (hr r hr')).2 (by decide)⟩
theorem z3b{h:Hou}:(psH h).length<=(zbp h).length+1:=by
 have e:(psH h).length=(za0 h).length:=by unfold za0;rw[<- zrx,Qe,Qe]
 rw[e]
 have:=zcm (c:=10) (ws:=za0 h) (by unfold za0 zbn;simp)
 have:=zql (za0 h)
 unfold zbp
 omega
theorem z6n{h:Hou}:h.ls.length<=(zbp h).length:=by
 have m:zat 32 [cds "letters", h.ls] ∈ za0 h:=Qz.mpr ⟨_,by unfold zbn;simp,rfl⟩
 have a:=zg9 m
 have b:=zcm (c:=10) (ws:=za0 h) (by unfold za0 zbn;simp)
 have c:(zat 32 [cds "letters", h.ls]).length+1=_:=zcm (by simp)
 rw[zb7,zft] at c
 unfold zbp
 omega
theorem zr3{ls:List Nat}(h:LowW ls)(hp:ls.Pairwise (· < ·)):zds ls=true:=by
 unfold zds lowB zew
 rw[Qp,QK,QK]
 refine⟨λc hc=>?_,λk hk=>?_⟩
 ·have z:97<=c/\c<123:=h c hc
  simp only[Qp,decide_eq_true_eq]
  exact⟨z.1,by omega⟩
 ·obtain⟨a,b⟩:=Y0.mp hk
  rw[decide_eq_true_eq]
  have h1:k - 1<ls.length:=by omega
  have h2:k<ls.length:=by omega
  rw[Q6,Q6,Qk h1,Qk h2]
  exact Ya.mp hp _ _ h1 h2 (by omega)
def Sgd(w:List Nat):Prop:=∀ c ∈ w,48<=c/\c<128
theorem zcl{n:Nat}(h:n<1000):Sgd (numT n):=λc hc=>by have:=(zbw n h).2.2 c hc;omega
theorem zd2{w:List Nat}(h:(w.all λc=>decide (48<=c) && decide (c<128))=true):Sgd w:=λc hc=>by
 have:=QK.mp h c hc
 simp only[Qp,decide_eq_true_eq] at this
 exact this
theorem zqx{c:Nat}(h1:97<=c)(h2:c<=122):Sgd [c]:=λd hd=>by rw[Qu.mp hd];omega
theorem zy4{d:Deed}(h:DeT d):∀ w ∈ zas d,Sgd w:=by
 cases d with
 | go=>simp only[zas,Ql,Qo,or_false];rintro w rfl;exact zd2 (by decide +kernel)
 | send l c=>simp only[zas,Ql,Qo,or_false];rintro w (rfl|rfl|rfl);exact zd2 (by decide +kernel);exact zcl h.1;exact zqx h.2.1 h.2.2
 | take l c=>simp only[zas,Ql,Qo,or_false];rintro w (rfl|rfl|rfl);exact zd2 (by decide +kernel);exact zcl h.1;exact zqx h.2.1 h.2.2
 | empty l=>simp only[zas,Ql,Qo,or_false];rintro w (rfl|rfl);exact zd2 (by decide +kernel);exact zcl h
 | put f v=>simp only[zas,Ql,Qo,or_false];rintro w (rfl|rfl|rfl);exact zd2 (by decide +kernel);exact zcl h.1;exact zcl h.2
 | test f v=>simp only[zas,Ql,Qo,or_false];rintro w (rfl|rfl|rfl);exact zd2 (by decide +kernel);exact zcl h.1;exact zcl h.2
theorem zx4{r:Rul}(h:RuT r):∀ w ∈ za3 r,Sgd w:=λw hw=>by
 rcases Ql.mp hw with rfl|hw
 ·exact zcl h.p
 rcases Qx.mp hw with hw|hw
 ·exact zy4 h.d w hw
 ·rw[Qu.mp hw];exact zcl h.q
theorem zn5{h:Hou}(H:HT h):∀ ws ∈ zbn h,ws ≠ []/\∀ w ∈ ws,Sgd w:=λws hw=>by
 rcases Qx.mp hw with hw|hw
 ·simp only[Ql,Qo,or_false] at hw
  rcases hw with rfl|rfl|rfl
  ·refine⟨by simp,λw hw=>?_⟩
   simp only[Ql,Qo,or_false] at hw
   rcases hw with rfl|rfl
   ·exact zd2 (by decide +kernel)
   ·exact λc hc=>by have:=zlz H.ls c hc;omega
  ·refine⟨by simp,λw hw=>?_⟩
   simp only[Ql,Qo,or_false] at hw
   rcases hw with rfl|rfl
   ·exact zd2 (by decide +kernel)
   ·exact zcl H.lines
  ·refine⟨by simp,λw hw=>?_⟩
   simp only[Ql,Qo,or_false] at hw
   rcases hw with rfl|rfl
   ·exact zd2 (by decide +kernel)
   ·exact zcl H.flags
 ·obtain⟨l,hl,hw⟩:=JY.mp hw
  obtain⟨x,hx,rfl⟩:=Qz.mp hl
  obtain⟨hn,hr⟩:=H.hands x hx
  rcases Ql.mp hw with rfl|hw
  ·refine⟨by simp,λw hw=>?_⟩
   simp only[Ql,Qo,or_false] at hw
   rcases hw with rfl|rfl
   ·exact zd2 (by decide +kernel)
   ·exact zcl hn
  ·obtain⟨r,hr',rfl⟩:=Qz.mp hw
   exact⟨by unfold za3;simp,zx4 (hr r hr')⟩
theorem ztk{h:Hou}(H:HT h):za6 (zbp h)=zbn h:=by
 have s:=zn5 H
 have c1:cutW 10 (zbp h)=za0 h:=zmh (by unfold za0 zbn;simp) λw hw hc=>by
  obtain⟨ws,hws,rfl⟩:=Qz.mp hw
  rcases zc4 hc with e|⟨v,hv,hx⟩
  ·exact absurd e (by decide)
  ·have:=(s ws hws).2 v hv 10 hx;omega
 unfold za6
 rw[c1]
 unfold za0
 rw[Q5]
 conv=>rhs;rw[<- zb (zbn h)]
 exact Ji λws hws=>zmh (s ws hws).1 λw hw hc=>by have:=(s ws hws).2 w hw 32 hc;omega
theorem zxl{h:Hou}(H:HT h):∀ c ∈ zbp h,c<128:=λc hc=>by
 rcases zc4 hc with rfl|⟨w,hw,hx⟩
 ·decide
 ·obtain⟨ws,hws,rfl⟩:=Qz.mp hw
  rcases zc4 hx with rfl|⟨v,hv,hy⟩
  ·decide
  ·exact((zn5 H ws hws).2 v hv c hy).2
theorem zdz{n:Nat}(h:n<1000):(numT n).length<=5:=Q2 (zeg h).1 (by decide)
theorem zmm(d:Deed)(h:DeT d):(zas d).length<=3/\∀ w ∈ zas d,w.length<=5:=by
 have l1:∀ s:String,(cds s).length<=5->(cds s).length<=5:=λ_ h=>h
 cases d with
 | go=>exact⟨by simp[zas],by simp only[zas,Ql,Qo,or_false];rintro w rfl;decide +kernel⟩
 | send l c=>exact⟨by simp[zas],by simp only[zas,Ql,Qo,or_false];rintro w (rfl|rfl|rfl);exact(by decide +kernel);exact zdz h.1;exact(by simp)⟩
 | take l c=>exact⟨by simp[zas],by simp only[zas,Ql,Qo,or_false];rintro w (rfl|rfl|rfl);exact(by decide +kernel);exact zdz h.1;exact(by simp)⟩
 | empty l=>exact⟨by simp[zas],by simp only[zas,Ql,Qo,or_false];rintro w (rfl|rfl);exact(by decide +kernel);exact zdz h⟩
 | put f v=>exact⟨by simp[zas],by simp only[zas,Ql,Qo,or_false];rintro w (rfl|rfl|rfl);exact(by decide +kernel);exact zdz h.1;exact zdz h.2⟩
 | test f v=>exact⟨by simp[zas],by simp only[zas,Ql,Qo,or_false];rintro w (rfl|rfl|rfl);exact(by decide +kernel);exact zdz h.1;exact zdz h.2⟩
theorem zjo{r:Rul}(h:RuT r):(za3 r).length<=5/\∀ w ∈ za3 r,w.length<=5:=by
 obtain⟨h1,h2⟩:=zmm r.d h.d
 unfold za3
 refine⟨by rw[Qy,Qf];show _+1+1<=5;omega,λw hw=>?_⟩
 rcases Ql.mp hw with rfl|hw
 ·exact zdz h.p
 rcases Qx.mp hw with hw|hw
 ·exact h2 w hw
 ·rw[Qu.mp hw]
  exact zdz h.q
def zcy(h:Hou)(j:Nat):List (List (List Nat)) := [[cds "letters", h.ls],[cds "lines", numT h.lines],[cds "flags", numT h.flags]]++((h.hands.take j).map zbc).flatten
theorem zjh{h:Hou}(hs:HS h)(j:Nat):(zcy h j).length<=24:=by
 unfold zcy
 rw[Qf,List.length_flatten,Q5]
 have:∀ l:List Hnd,(∀ x ∈ l,x ∈ h.hands)->(l.map (jT ∘ zbc)).sum<=l.length * 7:=by
  intro l
  induction l with
  | nil=>intro _;exact QO _
  | cons x l ih =>
    intro hm
    have a:=ih λy hy=>hm y (Qj _ hy)
    have b:=hs.rules x (hm x (by simp))
    rw[Q3,YD,Qy,qF]
    have c:(jT ∘ zbc) x=x.rs.length+1:=by show(zbc x).length=_;unfold zbc;rw[Qy,Qe]
    omega
 have a:=this (h.hands.take j) λx hx=>JR hx
 have b:(h.hands.take j).length<=3:=by rw[ZJ];have:=hs.hands;omega
 show 3+_<=24
 omega
theorem zo8{h:Hou}(H:HT h)(S:HS h):∀ ws ∈ zbn h,ws.length<=5/\∀ w ∈ ws,w.length<=26:=λws hw=>by
 have n26:∀ n,n<1000->(numT n).length<=26:=λn hn=>Q2 (zeg hn).1 (by decide)
 rcases Qx.mp hw with hw|hw
 ·simp only[Ql,Qo,or_false] at hw
  rcases hw with rfl|rfl|rfl
  ·refine⟨by simp,λw hw=>?_⟩
   simp only[Ql,Qo,or_false] at hw
   rcases hw with rfl|rfl
   ·decide +kernel
   ·exact S.ls
  ·refine⟨by simp,λw hw=>?_⟩
   simp only[Ql,Qo,or_false] at hw
   rcases hw with rfl|rfl
   ·decide +kernel
   ·exact n26 _ H.lines
  ·refine⟨by simp,λw hw=>?_⟩
   simp only[Ql,Qo,or_false] at hw
   rcases hw with rfl|rfl
   ·decide +kernel
   ·exact n26 _ H.flags
 ·obtain⟨l,hl,hw⟩:=JY.mp hw
  obtain⟨x,hx,rfl⟩:=Qz.mp hl
  obtain⟨hn,hr⟩:=H.hands x hx
  rcases Ql.mp hw with rfl|hw
  ·refine⟨by simp,λw hw=>?_⟩
   simp only[Ql,Qo,or_false] at hw
   rcases hw with rfl|rfl
   ·decide +kernel
   ·exact n26 _ hn
  ·obtain⟨r,hr',rfl⟩:=Qz.mp hw
   obtain⟨a,b⟩:=zjo (hr r hr')
   exact⟨a,λw hw=>Q2 (b w hw) (by decide)⟩
theorem zp6{h:Hou}(H:HT h)(S:HS h):(za0 h).length<=24/\∀ w ∈ za0 h,w.length<=135:=by
 have hl:(zbn h).length<=24:=by
  have:=zjh S h.hands.length
  unfold zcy at this
  rwa [YA] at this
 refine⟨by unfold za0;rw[Qe];exact hl,λw hw=>?_⟩
 obtain⟨ws,hws,rfl⟩:=Qz.mp hw
 obtain⟨a,b⟩:=zo8 H S ws hws
 have:=zfu b
 have:=Jx (26+1) a
 have:=zf7 (c:=32) ws
 omega
theorem zie{h:Hou}(H:HT h)(S:HS h):totW (za0 h)<=3264:=by
 obtain⟨a,b⟩:=zp6 H S
 have:=zfu b
 have:=Jx (135+1) a
 omega
theorem zia{h:Hou}(H:HT h)(S:HS h):Lng (zbp h):=⟨by
 have:=zie H S
 have:=zf7 (c:=10) (za0 h)
 unfold zbp
 omega,zxl H⟩
theorem ztm{h:Hou}(g:HouGood h):HT h/\HS h:=by
 have ok:=g.ok
 refine⟨⟨zr3 ok.low g.rise,ok.ne,by have:=g.lines;omega,by have:=g.flags;omega,λx hx=>?_⟩,⟨Q2 g.l3 (by decide),Q2 g.hands (by decide),λx hx=>Q2 (g.rooms x hx).2.2.1 (by decide)⟩⟩
 obtain⟨r1,r2,r3,r4⟩:=g.rooms x hx
 refine⟨by omega,λr hr=>?_⟩
 obtain⟨d,p,q⟩:=(ok.rules x hx).2 r hr
 refine⟨by omega,?_,by omega⟩
 have gl:=g.lines
 have gf:=g.flags
 cases hd:r.d with
 | go=>exact trivial
 | send l c=>rw[hd] at d;have z:97<=c/\c<123:=ok.low c d.2;exact⟨by have:=d.1;omega,by omega,by omega⟩
 | take l c=>rw[hd] at d;have z:97<=c/\c<123:=ok.low c d.2;exact⟨by have:=d.1;omega,by omega,by omega⟩
 | empty l=>rw[hd] at d;have:l<h.lines:=d;show l<1000;omega
 | put f v=>rw[hd] at d;have:f<h.flags/\_:=d;exact⟨by omega,by omega⟩
 | test f v=>rw[hd] at d;have:f<h.flags/\_:=d;exact⟨by omega,by omega⟩
theorem ze1:∀ {cs:List Nat} {us:List Value},Vals (cs.map λc=>V.str (sg c)) us->∀ (i:Nat) (v:Value),us[i]? = some v->∃ c t,cs[i]? = some c/\v=JS (sg c) t
 | [],_,r,i,v,e=>by cases r;simp at e
 | n::ns,_,r,i,v,e=>by
   rw[Q3] at r
   cases r with
   | cons h t =>
     obtain⟨tk,rfl⟩:=h
     cases i with
     | zero=>simp at e;exact⟨n,tk,rfl,e.symm⟩
     | succ i=>obtain⟨m,t',h1,h2⟩:=ze1 t i v (by simpa using e);exact⟨m,t',by simpa using h1,h2⟩
theorem zkw(c d:Nat):decide ((sg c).cps.toList<(sg d).cps.toList)=decide ((c:Int)<(d:Int)):=by
 refine decide_eq_decide.mpr ?_
 show([c]:List Nat) < [d]↔_
 rw[List.cons_lt_cons_iff]
 simp
section
variable {K : Qa} {O : Ob} {X : Cx}
def zzk:List V->Hp->VK->Prop:=λxs H Q=>∃ (p:Addr) (cs:List Nat),xs = [.ref p]/\H p=some (.lst (cs.map λc=>V.str (sg c)))/\cs ≠ []/\∀ c,c ∈ cs->(∀ m ∈ cs,c<=m)->Q (.str (sg c)) H
theorem zv8(hc:X.calm=true):CallR X (.builtin "min") zzk:=by
 intro pins s σ H xs us Q I r h
 obtain⟨p,ns,rfl,hH,hne0,q⟩:=h
 obtain⟨u,rfl,ru⟩:=Vals.one r
 cases ru
 obtain⟨z,its,n,rv,hl,e⟩:=I.lstM hH
 have pl:s.heap.IsList p its.toArray:=⟨_,e,rfl,_,rfl⟩
 have hne:p ≠ s.heap.objs.size:=Q9 (Qn e)
 have hlen:its.length=ns.length:=by rw[<- hl,Qe]
 have hpos:0<ns.length:=Yd.mpr hne0
 have plt:p<s.heap.objs.size:=Qn e
 refine call_min_walk (wpAny_pyIter_list pl ?_)
 refine⟨s.heap.objs.size,_,_,_,_,_,λi j=>decide ((ns[i]?.getD 0:Int)<(ns[j]?.getD 0:Int)),rfl,qw (A:=X.A.in1) (I.ok.hd hc) _ p hne its.toArray,⟨⟨_,Qq _ rfl,rfl,rfl⟩,_,Qb _ e,rfl,_,rfl⟩,λb hb=>?_,by rw[Qs,hlen];exact hpos,?_,λv h' tk hv kk=>?_⟩
 ·show b<(s.heap.push _).objs.size
  rw[Z2]
  rcases Ql.mp hb with rfl|hb
  ·exact ZK _
  ·have:b=p:=by simpa using hb
   subst this
   exact QY plt
 ·intro i j vi vj s' Q' E' hi hj hq
  have hi:its.toArray[i]? = some vi:=hi
  have hj:its.toArray[j]? = some vj:=hj
  obtain⟨a,ta,ea,rfl⟩:=ze1 rv i vi (by simpa using hi)
  obtain⟨b,tb,eb,rfl⟩:=ze1 rv j vj (by simpa using hj)
  have hq:Q' (.bool (decide ((ns[i]?.getD 0:Int)<(ns[j]?.getD 0:Int)))) s':=hq
  rw[ea,eb] at hq
  exact lt_str (by rw[zkw];exact hq)
 ·have hv:its.toArray[argBest (λi j=>decide ((ns[i]?.getD 0:Int)<(ns[j]?.getD 0:Int))) (its.toArray.size - 1)]? = some v:=hv
  obtain⟨a,ta,ea,rfl⟩:=ze1 rv _ v (by rw[Y5,Qs] at hv;exact hv)
  have I1:Inv X pins σ H { s with heap:=h',toks:=tk }:=I.kept λb o eb=>kk b o (by simp;exact Q9 (Qn eb)) (Qb _ eb)
  refine⟨.str (sg a),H,I1,⟨ta,rfl⟩,q a (Zl ea) λm hm=>?_⟩
  obtain⟨k,hk,ek⟩:=YG.mp hm
  have best:=(argBest_lt (λi=>(ns[i]?.getD 0:Int)) (its.toArray.size - 1)).2 k (by rw[Qs,hlen];omega)
  have best:(ns[argBest (λi j=>decide ((ns[i]?.getD 0:Int)<(ns[j]?.getD 0:Int))) (its.toArray.size - 1)]?.getD 0:Int)<=(ns[k]?.getD 0:Int):=best
  rw[Qs] at best
  rw[ea,Qk hk,ek] at best
  simpa using best
def zsf:List PyData->(R->Prop)->Prop:=λds Q=>∃ cs:List Nat,ds = [.list (cs.map λc => .str (sg c))]/\cs ≠ []/\∀ c,c ∈ cs->(∀ m ∈ cs,c<=m)->Q (.o (.str (sg c)))
theorem z2i:zes K O zzk zsf:=λH vs ds Q Qd ok p is ⟨ns,e,hl,q⟩ k=>by
 subst e
 obtain⟨v,rfl,iv⟩:=zbe is
 cases iv with
 | list f1 h1 s1 =>
   have e2:(ns.map λc=>QX (sg c))=(ns.map sg).map .str:=by rw[Q5];rfl
   rw[e2] at s1
   rw[zdu s1,Q5] at h1
   exact⟨_,ns,rfl,h1,hl,λn h2 h3=>k _ H (.o _) (.refl _ _) (Is.str _) (q n h2 h3)⟩
def z0y:List V->Hp->VK->Prop:=λxs H Q=>∃ (p:Addr) (cs:List Nat),xs = [.ref p]/\H p=some (.lst (cs.map λc=>V.str (sg c)))/\cs ≠ []/\∀ c,c ∈ cs->(∀ m ∈ cs,m<=c)->Q (.str (sg c)) H
theorem zvg(hc:X.calm=true):CallR X (.builtin "max") z0y:=by
 intro pins s σ H xs us Q I r h
 obtain⟨p,ns,rfl,hH,hne0,q⟩:=h
 obtain⟨u,rfl,ru⟩:=Vals.one r
 cases ru
 obtain⟨z,its,n,rv,hl,e⟩:=I.lstM hH
 have pl:s.heap.IsList p its.toArray:=⟨_,e,rfl,_,rfl⟩
 have hne:p ≠ s.heap.objs.size:=Q9 (Qn e)
 have hlen:its.length=ns.length:=by rw[<- hl,Qe]
 have hpos:0<ns.length:=Yd.mpr hne0
 have plt:p<s.heap.objs.size:=Qn e
 refine call_max_walk (wpAny_pyIter_list pl ?_)
 refine⟨s.heap.objs.size,_,_,_,_,_,λi j=>decide ((ns[i]?.getD 0:Int) > (ns[j]?.getD 0:Int)),rfl,qw (A:=X.A.in1) (I.ok.hd hc) _ p hne its.toArray,⟨⟨_,Qq _ rfl,rfl,rfl⟩,_,Qb _ e,rfl,_,rfl⟩,λb hb=>?_,by rw[Qs,hlen];exact hpos,?_,λv h' tk hv kk=>?_⟩
 ·show b<(s.heap.push _).objs.size
  rw[Z2]
  rcases Ql.mp hb with rfl|hb
  ·exact ZK _
  ·have:b=p:=by simpa using hb
   subst this
   exact QY plt
 ·intro i j vi vj s' Q' E' hi hj hq
  have hi:its.toArray[i]? = some vi:=hi
  have hj:its.toArray[j]? = some vj:=hj
  obtain⟨a,ta,ea,rfl⟩:=ze1 rv i vi (by simpa using hi)
  obtain⟨b,tb,eb,rfl⟩:=ze1 rv j vj (by simpa using hj)
  have hq:Q' (.bool (decide ((ns[i]?.getD 0:Int) > (ns[j]?.getD 0:Int)))) s':=hq
  rw[ea,eb] at hq
  exact PySem.P.gt_str (by rw[zkw];exact hq)
 ·have hv:its.toArray[argBest (λi j=>decide ((ns[i]?.getD 0:Int) > (ns[j]?.getD 0:Int))) (its.toArray.size - 1)]? = some v:=hv
  obtain⟨a,ta,ea,rfl⟩:=ze1 rv _ v (by rw[Y5,Qs] at hv;exact hv)
  have I1:Inv X pins σ H { s with heap:=h',toks:=tk }:=I.kept λb o eb=>kk b o (by simp;exact Q9 (Qn eb)) (Qb _ eb)
  refine⟨.str (sg a),H,I1,⟨ta,rfl⟩,q a (Zl ea) λm hm=>?_⟩
  obtain⟨k,hk,ek⟩:=YG.mp hm
  have best:=(argBest_gt (λi=>(ns[i]?.getD 0:Int)) (its.toArray.size - 1)).2 k (by rw[Qs,hlen];omega)
  have best:(ns[k]?.getD 0:Int)<=(ns[argBest (λi j=>decide ((ns[i]?.getD 0:Int) > (ns[j]?.getD 0:Int))) (its.toArray.size - 1)]?.getD 0:Int):=best
  rw[Qs] at best
  rw[ea,Qk hk,ek] at best
  simpa using best
def zsd:List PyData->(R->Prop)->Prop:=λds Q=>∃ cs:List Nat,ds = [.list (cs.map λc => .str (sg c))]/\cs ≠ []/\∀ c,c ∈ cs->(∀ m ∈ cs,m<=c)->Q (.o (.str (sg c)))
theorem z4h:zes K O z0y zsd:=λH vs ds Q Qd ok p is ⟨ns,e,hl,q⟩ k=>by
 subst e
 obtain⟨v,rfl,iv⟩:=zbe is
 cases iv with
 | list f1 h1 s1 =>
   have e2:(ns.map λc=>QX (sg c))=(ns.map sg).map .str:=by rw[Q5];rfl
   rw[e2] at s1
   rw[zdu s1,Q5] at h1
   exact⟨_,ns,rfl,h1,hl,λn h2 h3=>k _ H (.o _) (.refl _ _) (Is.str _) (q n h2 h3)⟩
def rGeS:R2:=λx y H Q=>∃ i j:Str,x = .str i/\y = .str j/\Q (.bl (!decide (i.cps.toList<j.cps.toList))) H
theorem zvi:OpR X (compareOp .GtE) rGeS:=by
 intro pins s σ H x y v u Q I rx ry h
 obtain⟨i,j,rfl,rfl,q⟩:=h
 obtain⟨t,rfl⟩:=rx
 obtain⟨t',rfl⟩:=ry
 exact PySem.P.ge_str ⟨.bl _,H,I,rfl,q⟩
def geSF:PyData->PyData->Option R:=λd e=>match d,e with
 | .str i,.str j=>some (.o (.bool (!decide (i.cps.toList<j.cps.toList))))
 | _,_=>none
theorem z1i:OpD K O rGeS (fn2 geSF):=λH x y d e Q Qd ok p ix iy ⟨r,hr,q⟩ k=>by
 unfold geSF at hr
 split at hr
 ·cases hr
  cases ix
  cases iy
  exact⟨_,_,rfl,rfl,k _ H (.o _) (.refl _ _) (Is.bool _) q⟩
 ·cases hr
end
section
variable {ι κ : Type} {P : Program} {w : World} {K : Qa} {mg : Str → Option Value} {base : Heap} {k : Nat} {X : ι → Cx} {O : κ → Ob} {a b : Expr} {fa fb : DE} {pos p : Pos} {es : List Expr} {ga : DA}
theorem z9r(C:Ctx3 P w K mg base k X)(B:Blt mg)(ha:A3 K X O [a] ga)(hg:∀ i,Gl (X i) "min" := by intro i;rfl)(he:∀ i,starEach [a] (X i).env=(false,eval a (X i).env)::starEach [] (X i).env:=by intro i;rfl):E3 K X O (.Call (.Name "min" p) [a] [] pos) (zci zsf ga) :=
 znu C (λi=>zv8 (C.calm i)) (λ_=>z2i) yae B.min ha hg (by decide) (by decide) he
theorem ya1(C:Ctx3 P w K mg base k X)(B:Blt mg)(ha:A3 K X O [a] ga)(hg:∀ i,Gl (X i) "max" := by intro i;rfl)(he:∀ i,starEach [a] (X i).env=(false,eval a (X i).env)::starEach [] (X i).env:=by intro i;rfl):E3 K X O (.Call (.Name "max" p) [a] [] pos) (zci zsd ga) :=
 znu C (λi=>zvg (C.calm i)) (λ_=>z4h) z6u B.max ha hg (by decide) (by decide) he
theorem yb2(ha:E3 K X O a fa)(hb:E3 K X O b fb):E3 K X O (.Compare a [.GtE] [b] pos) (opDE (fn2 geSF) fa fb):=zgm (r:=rGeS) (λi=>zvi) (λ_=>z1i) ha hb (zb1 b)
end
theorem zps{v:List Nat}(h:zew v=true):v.Pairwise (· < ·):=by
 unfold zew at h
 rw[QK] at h
 have step:∀ k,k+1<v.length->v.getD k 0<v.getD (k+1) 0:=λk hk=>by
  have:=h (k+1) (Y0.mpr ⟨by omega,by omega⟩)
  simpa using this
 rw[Ya]
 intro i j hi hj hij
 have key:∀ d,i+1+d<v.length->v.getD i 0<v.getD (i+1+d) 0:=by
  intro d
  induction d with
  | zero=>intro hd;exact step i hd
  | succ d ih =>
    intro hd
    have h1:=ih (by omega)
    have h2:=step (i+1+d) (by omega)
    exact Nat.lt_trans h1 h2
 have:=key (j - i - 1) (by omega)
 rw[show i+1+(j - i - 1)=j by omega] at this
 simpa[Q6,hi,hj] using this
theorem zul{v:List Nat}:zew v=true↔v.Pairwise (· < ·):=⟨zps,z1u⟩
theorem zwp{v:List Nat}(h:v.Pairwise (· < ·)):v.Nodup:=h.imp λh=>Q9 h
theorem zmr:∀ {l m:List Nat},l.Nodup->m.Nodup->(∀ x,x ∈ l↔x ∈ m)->l.Perm m
 | [],m,_,_,h=>by
   cases m with
   | nil=>exact .nil
   | cons y m=>exact absurd ((h y).mpr (by simp)) (by simp)
 | x::l,m,hl,hm,h=>by
   have hx:x ∈ m:=(h x).mp (by simp)
   have hl':=Zr.mp hl
   refine(zn x (zmr (m:=m.erase x) hl'.2 (hm.erase x) λy=>?_)).trans (List.perm_cons_erase hx).symm
   rw[hm.mem_erase_iff]
   constructor
   ·intro hy
    exact⟨λe=>hl'.1 (e ▸ hy),(h y).mp (Qj _ hy)⟩
   ·rintro⟨ne,hy⟩
    rcases Ql.mp ((h y).mpr hy) with e|hy
    ·exact absurd e ne
    ·exact hy
theorem zwi{v z:List Nat}(hn:z.Nodup)(hm:∀ c,c ∈ z↔c ∈ v)(hs:z.Pairwise (· < ·)):(v=z)↔zew v=true:=by
 rw[zul]
 constructor
 ·rintro rfl
  exact hs
 ·intro hv
  exact List.Perm.eq_of_pairwise (le:=λa b=>a<b) (λa b _ _ z1 z2=>absurd z1 (ZN.mpr (Jj z2))) hv hs (zmr (zwp hv) hn λc=>(hm c).symm)
theorem z3r{zs:List Str}{v:List Nat}(h:∀ k ∈ zs,k ∈ v.map sg):∃ z:List Nat,zs=z.map sg/\∀ c ∈ z,c ∈ v:=by
 induction zs with
 | nil=>exact⟨[],rfl,by simp⟩
 | cons k zs ih =>
   obtain⟨c,hc,rfl⟩:=Qz.mp (h k (by simp))
   obtain⟨z,rfl,hz⟩:=ih λk hk=>h k (Qj _ hk)
   exact⟨c::z,rfl,λd hd=>by
    rcases Ql.mp hd with rfl|hd
    ·exact hc
    ·exact hz d hd⟩
theorem z6d{v:List Nat}{zs:List Str}(hn:zs.Nodup)(hm:∀ k,k ∈ zs↔k ∈ v.map sg)(hs:sortedS zs=true):∃ z:List Nat,zs=z.map sg/\z.Nodup/\(∀ c,c ∈ z↔c ∈ v)/\z.Pairwise (· < ·):=by
 obtain⟨z,rfl,hz⟩:=z3r λk hk=>(hm k).mp hk
 have nd:z.Nodup:=qd sg (λa b h e=>h (by rw[e])) hn
 exact⟨z,rfl,nd,λc=>⟨hz c,λhc=>by
  obtain⟨d,hd,e⟩:=Qz.mp ((hm (sg c)).mpr (Qz.mpr ⟨c,hc,rfl⟩))
  rw[<- z8b e]
  exact hd⟩,zj7 hs nd⟩
def zev(w:List Nat):Bool:=decide (w.length=1) && lowB w
theorem shC_48{w:List Nat}:shC w=48↔zak w=true:=by
 unfold shC
 split
 ·simp[*]
 ·split <;> simp[*]
theorem yad{w:List Nat}:shC w=97↔zev w=true:=by
 unfold shC zev
 split
 ·rename_i h
  rw[zp1 h]
  simp
 ·split <;> simp_all
theorem zk9{b:List Nat}:zay b ≠ some []:=by
 unfold zay
 split
 ·simp
 split
 ·simp
 split
 ·simp
 split
 ·simp
 split
 ·simp
 split <;> simp
theorem shape_1{b:List Nat}{x:Nat}:zay b=some [x]↔b=cds "go" /\ x=48:=by
 constructor
 ·unfold zay
  split
  ·rename_i h;intro e;simp at e;exact⟨h,e.symm⟩
  split
  ·simp
  split
  ·simp
  split
  ·simp
  split
  ·simp
  split <;> simp
 ·rintro⟨rfl,rfl⟩
  exact zzr
theorem shape_2{b:List Nat}{x y:Nat}:zay b=some [x,y]↔b=cds "empty" /\ x=48/\y=48:=by
 constructor
 ·unfold zay
  split
  ·simp
  split
  ·simp
  split
  ·simp
  split
  ·rename_i h;intro e;simp at e;exact⟨h,e.1.symm,e.2.symm⟩
  split
  ·simp
  split <;> simp
 ·rintro⟨rfl,rfl,rfl⟩
  exact zpc
theorem shape_3{b:List Nat}{x y z:Nat}:zay b=some [x,y,z]↔((b=cds "send" \/ b=cds "take")/\x=48/\y=97/\z=48)\/((b=cds "set" \/ b=cds "if")/\x=48/\y=48/\z=48):=by
 constructor
 ·unfold zay
  split
  ·simp
  split
  ·rename_i h;intro e;simp at e;exact .inl ⟨.inl h,e.1.symm,e.2.1.symm,e.2.2.symm⟩
  split
  ·rename_i h;intro e;simp at e;exact .inl ⟨.inr h,e.1.symm,e.2.1.symm,e.2.2.symm⟩
  split
  ·simp
  split
  ·rename_i h;intro e;simp at e;exact .inr ⟨.inl h,e.1.symm,e.2.1.symm,e.2.2.symm⟩
  split
  ·rename_i h;intro e;simp at e;exact .inr ⟨.inr h,e.1.symm,e.2.1.symm,e.2.2.symm⟩
  ·simp
 ·rintro(⟨rfl|rfl,rfl,rfl,rfl⟩|⟨rfl|rfl,rfl,rfl,rfl⟩)
  ·exact zre
  ·exact zr7
  ·exact zug
  ·exact zzs
theorem zry{b:List Nat}{l:List Nat}(h:4<=l.length):zay b ≠ some l:=by
 unfold zay
 intro e
 split at e
 ·cases e;exact absurd h (by decide)
 split at e
 ·cases e;exact absurd h (by decide)
 split at e
 ·cases e;exact absurd h (by decide)
 split at e
 ·cases e;exact absurd h (by decide)
 split at e
 ·cases e;exact absurd h (by decide)
 split at e
 ·cases e;exact absurd h (by decide)
 ·cases e
def dsB:List (List Nat)->Bool
 | [b]=>decide (b=cds "go")
 | [b,c]=>decide (b=cds "empty") && zak c
 | [b,c,d]=>zak c && ((decide (b=cds "set") || decide (b=cds "if")) && zak d || (decide (b=cds "send") || decide (b=cds "take")) && zev d)
 | _=>false
theorem zq0{a z:List Nat}{ds:List (List Nat)}(ha:zak a=true)(hz:zak z=true):zbr (a::(ds ++ [z]))=dsB ds:=by
 have h48:shC z=48:=shC_48.mpr hz
 unfold zbr
 match ds with
 | [] =>
   show(true && (zak a && decide (zay z=some [])))=false
   rw[decide_eq_false zk9,QI,QI]
 | [b] =>
   show(true && (zak a && decide (zay b=some [shC z])))=decide (b=cds "go")
   rw[ha,Q7,Q7]
   exact decide_eq_decide.mpr (shape_1.trans ⟨λh=>h.1,λh=>⟨h,h48⟩⟩)
 | [b,c] =>
   show(true && (zak a && decide (zay b=some [shC c,shC z])))=(decide (b=cds "empty") && zak c)
   rw[ha,Q7,Q7]
   refine JD.mpr ?_
   rw[decide_eq_true_eq,shape_2,shC_48,Qp,decide_eq_true_eq]
   exact⟨λh=>⟨h.1,h.2.1⟩,λh=>⟨h.1,h.2,h48⟩⟩
 | [b,c,d] =>
   show(true && (zak a && decide (zay b=some [shC c,shC d,shC z])))=_
   rw[ha,Q7,Q7]
   refine JD.mpr ?_
   unfold dsB
   rw[decide_eq_true_eq,shape_3]
   simp only[Qp,JF,decide_eq_true_eq,shC_48,yad,hz,and_true]
   constructor
   ·rintro(⟨h1,h2,h3⟩|⟨h1,h2,h3⟩)
    ·exact⟨h2,.inr ⟨h1,h3⟩⟩
    ·exact⟨h2,.inl ⟨h1,h3⟩⟩
   ·rintro⟨h1,⟨h2,h3⟩|⟨h2,h3⟩⟩
    ·exact .inr ⟨h2,h1,h3⟩
    ·exact .inl ⟨h2,h1,h3⟩
 | b::c::d::e::r =>
   show(_ && (zak a && decide (zay b=some ((c::d::e::r ++ [z]).map shC))))=false
   rw[decide_eq_false (zry (by simp)),QI,QI]
theorem zm5{ws:List (List Nat)}(h:ws.length<3):zbr ws=false:=by
 unfold zbr
 match ws,h with
 | [],_=>rfl
 | [a],_=>rfl
 | [a,b],_ =>
   show(true && (zak a && decide (zay b=some [])))=false
   rw[decide_eq_false zk9,QI,QI]
theorem zm1{ws:List (List Nat)}(h:zak (ws.getD 0 [])=false):zbr ws=false:=by
 unfold zbr
 rw[h,QD,QI]
theorem zn4{a z:List Nat}{ds:List (List Nat)}(hz:zak z=false):zbr (a::(ds ++ [z]))=false:=by
 have h48:∀ {x:Nat},x=shC z->x ≠ 48:=λh e=>by
  rw[h,shC_48,hz] at e
  cases e
 unfold zbr
 match ds with
 | [] =>
   show(true && (zak a && decide (zay z=some [])))=false
   rw[decide_eq_false zk9,QI,QI]
 | [b] =>
   show(true && (zak a && decide (zay b=some [shC z])))=false
   rw[decide_eq_false (λe=>h48 rfl (shape_1.mp e).2),QI,QI]
 | [b,c] =>
   show(true && (zak a && decide (zay b=some [shC c,shC z])))=false
   rw[decide_eq_false (λe=>h48 rfl (shape_2.mp e).2.2),QI,QI]
 | [b,c,d] =>
   show(true && (zak a && decide (zay b=some [shC c,shC d,shC z])))=false
   rw[decide_eq_false (λe=>by rcases shape_3.mp e with ⟨_,_,_,h⟩|⟨_,_,_,h⟩ <;> exact h48 rfl h),QI,QI]
 | b::c::d::e::r =>
   show(_ && (zak a && decide (zay b=some ((c::d::e::r ++ [z]).map shC))))=false
   rw[decide_eq_false (zry (by simp)),QI,QI]
theorem zc7{w:List Nat}(h:zak w=true):∃ n,n<1000/\w=numT n:=⟨_,(zif h).2,(zif h).1.symm⟩
theorem zxi{w:List Nat}(h:zev w=true):∃ c,w = [c]/\97<=c/\c<=122:=by
 unfold zev lowB at h
 simp only[Qp,decide_eq_true_eq] at h
 match w,h with
 | [c],h=>exact⟨c,rfl,by simpa using h.2⟩
theorem z1x{ws:List (List Nat)}(h:2<=ws.length):∃ a ds z,ws=a::(ds ++ [z]):=by
 match ws,h with
 | a::b::r,_=>exact⟨a,(b::r).dropLast,(b::r).getLast (by simp),by rw[JG]⟩
theorem zjy{ws:List (List Nat)}(h:zbr ws=true):∃ r,RuT r/\ws=za3 r:=by
 have h2:2<=ws.length:=by
  unfold zbr at h
  simp only[Qp,decide_eq_true_eq] at h
  exact h.1
 obtain⟨a,ds,z,rfl⟩:=z1x h2
 have ha:zak a=true:=by
  cases e:zak a with
  | true=>rfl
  | false=>rw[zm1 (ws:=a::(ds ++ [z])) e] at h;cases h
 have hz:zak z=true:=by
  cases e:zak z with
  | true=>rfl
  | false=>rw[zn4 e] at h;cases h
 rw[zq0 ha hz] at h
 obtain⟨p,hp,rfl⟩:=zc7 ha
 obtain⟨q,hq,rfl⟩:=zc7 hz
 match ds,h with
 | [b],h =>
   cases of_decide_eq_true h
   exact⟨⟨p,.go,q⟩,⟨hp,trivial,hq⟩,rfl⟩
 | [b,c],h =>
   unfold dsB at h
   simp only[Qp,decide_eq_true_eq] at h
   obtain⟨rfl,h⟩:=h
   obtain⟨l,hl,rfl⟩:=zc7 h
   exact⟨⟨p,.empty l,q⟩,⟨hp,hl,hq⟩,rfl⟩
 | [b,c,d],h =>
   unfold dsB at h
   simp only[Qp,JF,decide_eq_true_eq] at h
   obtain⟨hc,⟨hb,hd⟩|⟨hb,hd⟩⟩:=h
   ·obtain⟨l,hl,rfl⟩:=zc7 hc
    obtain⟨v,hv,rfl⟩:=zc7 hd
    rcases hb with rfl|rfl
    ·exact⟨⟨p,.put l v,q⟩,⟨hp,⟨hl,hv⟩,hq⟩,rfl⟩
    ·exact⟨⟨p,.test l v,q⟩,⟨hp,⟨hl,hv⟩,hq⟩,rfl⟩
   ·obtain⟨l,hl,rfl⟩:=zc7 hc
    obtain⟨x,rfl,hx⟩:=zxi hd
    rcases hb with rfl|rfl
    ·exact⟨⟨p,.send l x,q⟩,⟨hp,⟨hl,hx⟩,hq⟩,rfl⟩
    ·exact⟨⟨p,.take l x,q⟩,⟨hp,⟨hl,hx⟩,hq⟩,rfl⟩
theorem zm3{ws:List (List Nat)}(h:zbf ws=true):∃ n,n<1000/\ws = [cds "hand", numT n]:=by
 unfold zbf at h
 simp only[Qp,decide_eq_true_eq] at h
 match ws,h with
 | [a,b],⟨_,ha,hb⟩ =>
   obtain⟨n,hn,e⟩:=zc7 (w:=b) hb
   exact⟨n,hn,by rw[<- e,<- show a=cds "hand" from ha]⟩
def zhk(x:Hnd):Nat × List PyData:=(x.n,x.rs.map zbm)
def HnT(x:Hnd):Prop:=x.n<1000/\∀ r ∈ x.rs,RuT r
theorem zlq:∀ (rs:List (List (List Nat))) (i:Nat) (acc:List Hnd) (hs:HL),(∀ x ∈ acc,HnT x)->za4 i (acc.map zhk) rs = .inr hs->∃ xs:List Hnd,(∀ x ∈ xs,HnT x)/\hs=xs.map zhk/\(acc.map zbc).flatten++rs=(xs.map zbc).flatten
 | [],i,acc,hs,ha,h=>by
   rw[za4] at h
   cases h
   exact⟨acc,ha,rfl,QU _⟩
 | ws::rs,i,acc,hs,ha,h=>by
   rw[za4] at h
   split at h
   ·rename_i hh
    obtain⟨n,hn,rfl⟩:=zm3 hh
    have e:acc.map zhk ++ [(valW (([cds "hand", numT n]:List (List Nat)).getD 1 []),[])]=(acc ++ [Hnd.mk n []]).map zhk:=by
     rw[QA]
     show _ ++ [(valW (numT n),[])]=_
     rw[zee hn]
     rfl
    rw[e] at h
    obtain⟨xs,h1,h2,h3⟩:=zlq rs (i+1) _ hs (λx hx=>by
     rcases Qx.mp hx with hx|hx
     ·exact ha x hx
     ·rw[Qu.mp hx]
      exact⟨hn,λr hr=>by cases hr⟩) h
    refine⟨xs,h1,h2,?_⟩
    rw[<- h3,QA,Jb,Qw]
    rfl
   ·split at h
    ·rename_i hh
     obtain⟨h1,h2⟩:=QR.mp hh
     obtain⟨r,hr,rfl⟩:=zjy h2
     have hne:acc ≠ []:=by
      rintro rfl
      cases h1
     obtain⟨pre,x,rfl⟩:∃ pre x,acc=pre ++ [x]:=⟨acc.dropLast,acc.getLast hne,(JG hne).symm⟩
     have e:zg3 ((pre ++ [x]).map zhk) (zf2 (za3 r))=(pre ++ [Hnd.mk x.n (x.rs ++ [r])]).map zhk:=by
      rw[QA,QA,(zon hr).2.1]
      show zg3 (_ ++ [(x.n,x.rs.map zbm)]) _=_ ++ [(x.n,(x.rs ++ [r]).map zbm)]
      rw[zeo,QA]
      rfl
     rw[e] at h
     have hx:=ha x (by simp)
     obtain⟨xs,g1,g2,g3⟩:=zlq rs (i+1) _ hs (λy hy=>by
      rcases Qx.mp hy with hy|hy
      ·exact ha y (by simp[hy])
      ·rw[Qu.mp hy]
       exact⟨hx.1,λr' hr'=>by
        rcases Qx.mp hr' with h|h
        ·exact hx.2 r' h
        ·rw[Qu.mp h];exact hr⟩) h
     refine⟨xs,g1,g2,?_⟩
     rw[<- g3,QA,QA,Jb,Jb,Qw,Qw]
     congr 1
     show(zbc x ++ [])++za3 r::rs=(zbc ⟨x.n,x.rs ++ [r]⟩ ++ [])++rs
     rw[QU,QU]
     unfold zbc
     rw[QA,J8,J8,Qw]
     rfl
    ·cases h
theorem zig{rs:List (List (List Nat))}{i:Nat}(h:za5 rs i=true):i<rs.length/\∃ w,rs.getD i [] = [zcn i,w]/\(if i=0 then w ≠ []/\zds w=true else zak w=true):=by
 unfold za5 zbx at h
 simp only[Qp,decide_eq_true_eq] at h
 obtain⟨h0,h1,h2,h3⟩:=h
 generalize rs.getD i []=ws at h1 h2 h3
 match ws,h1 with
 | [a,b],_ =>
   refine⟨h0,b,by rw[<- show a=zcn i from h2],?_⟩
   split at h3
   ·rename_i e
    rw[if_pos e]
    simp only[Qp,JJ,decide_eq_false_iff_not] at h3
    exact h3
   ·rename_i e
    rw[if_neg e]
    exact h3
theorem ztw{rs:List (List (List Nat))}{d:PyData}(h:zcb rs = .inr d):∃ g:Hou,HT g/\d=zda g/\rs=zbn g:=by
 unfold zcb zcz at h
 split at h
 ·cases h
 rename_i hb
 split at hb
 ·rename_i b0
  split at hb
  ·rename_i b1
   split at hb
   ·rename_i b2
    obtain⟨l0,w0,e0,p0⟩:=zig b0
    obtain⟨l1,w1,e1,p1⟩:=zig b1
    obtain⟨l2,w2,e2,p2⟩:=zig b2
    match rs,l2,e0,e1,e2 with
    | r0::r1::r2::r,_,e0,e1,e2 =>
      split at h
      ·cases h
      ·rename_i hs hg
       obtain⟨xs,g1,g2,g3⟩:=zlq r 3 [] hs (λx hx=>by cases hx) hg
       have e0:r0 = [cds "letters", w0]:=e0
       have e1:r1 = [cds "lines", w1]:=e1
       have e2:r2 = [cds "flags", w2]:=e2
       obtain⟨n1,hn1,rfl⟩:=zc7 p1
       obtain⟨n2,hn2,rfl⟩:=zc7 p2
       subst e0 e1 e2 g2
       refine⟨⟨w0,n1,n2,xs⟩,⟨p0.2,p0.1,hn1,hn2,g1⟩,?_,?_⟩
       ·cases h
        show JC [.str (tx w0),.int (valW (numT n1):Nat),.int (valW (numT n2):Nat),hlD (xs.map zhk)]=_
        rw[zee hn1,zee hn2]
        unfold hlD zda
        rw[Q5]
        rfl
       ·show _ = [[cds "letters", w0],[cds "lines", numT n1],[cds "flags", numT n2]]++(xs.map zbc).flatten
        rw[<- g3]
        rfl
   ·cases hb
  ·cases hb
 ·cases hb
theorem zvr{t:List Nat}{d:PyData}(h:zcb (za6 t) = .inr d):∃ g:Hou,HT g/\d=zda g/\zbp g=t:=by
 obtain⟨g,h1,h2,h3⟩:=ztw h
 refine⟨g,h1,h2,?_⟩
 unfold zbp za0
 rw[<- h3]
 unfold za6
 rw[Q5,show((zat 32) ∘ cutW 32)=id from funext λr=>zfa 32 r,zb,zfa]
def base38:List Nat := [10,32] ++ [48,49,50,51,52,53,54,55,56,57]++abc
def FewS(k:Nat)(w:List Nat):Prop:=∃ zs:List Nat,zs.length<=k/\∀ c ∈ w,c ∈ base38\/c ∈ zs
theorem FewS.sub{k:Nat}{v w:List Nat}(h:FewS k w)(s:∀ c ∈ v,c ∈ w):FewS k v:=let ⟨zs,a,b⟩:=h; ⟨zs,a,λc hc=>b c (s c hc)⟩
theorem FewS.more{k l:Nat}{w:List Nat}(h:FewS k w)(e:k<=l):FewS l w:=let ⟨zs,a,b⟩:=h; ⟨zs,Q2 a e,b⟩
theorem FewS.mix{k l:Nat}{u v w:List Nat}(h:FewS k u)(h':FewS l v)(s:∀ c ∈ w,c ∈ base38\/c ∈ u\/c ∈ v):FewS (k+l) w:=by
 obtain⟨zs,a,b⟩:=h
 obtain⟨ys,a',b'⟩:=h'
 refine⟨zs++ys,by rw[Qf];omega,λc hc=>?_⟩
 rcases s c hc with z|z|z
 ·exact .inl z
 ·exact(b c z).imp id λh=>Qx.mpr (.inl h)
 ·exact(b' c z).imp id λh=>Qx.mpr (.inr h)
def fewB(k:Nat)(w:List Nat):Bool:=decide ((w.filter λc=>!decide (c ∈ base38)).length<=k)
theorem zk8{k:Nat}{w:List Nat}(h:fewB k w=true):FewS k w:=⟨_,of_decide_eq_true h,λc hc=>by
 by_cases e:c ∈ base38
 ·exact .inl e
 ·exact .inr (jM.mpr ⟨hc,by rw[decide_eq_false e];rfl⟩)⟩
def zpg:List PyData->(R->Prop)->Prop:=λds Q=>∃ w:List Nat,ds = [.str (tx w)]/\Lng w/\Q (.o (.bool (zbr (cutW 32 w))))
def ze5(ws:List (List Nat))(i n:Nat):Bool:=if i<3 then zbx i ws else if ws.getD 0 []=cds "hand" then zbf ws else decide (0<n) && zbr ws
def zr6:List PyData->(R->Prop)->Prop:=λds Q=>∃ (w:List Nat) (i n:Nat),ds = [.str (tx w),.int (i:Nat),.int (n:Nat)]/\Lng w/\w.length<=4090/\FewS 25 w/\Q (.o (.bool (ze5 (cutW 32 w) i n)))
def optH:Nat ⊕ PyData->PyData
 | .inl i => .int (i:Nat)
 | .inr _ => .none
structure TxH (t:List Nat):Prop where
 lng:Lng t
 len:t.length<=4090
 few:FewS 25 t
def zla:List PyData->(R->Prop)->Prop:=λds Q=>∃ t:List Nat,ds = [.str (tx t)]/\TxH t/\Q (.o (optH (zcb (za6 t))))
def zja(m:Nat):List PyData->(R->Prop)->Prop:=λds Q=>ds = []/\∀ w:List Nat,w.length<=m->(∀ c ∈ w,c<128)->FewS 3 w->Q (.o (.str (tx w)))
def zqh:List PyData->(R->Prop)->Prop:=λds Q=>∃ (t:List Nat) (b k:Nat),ds = [.str (tx t)]/\Lng t/\t.length<=b/\100<=b/\b<=2100/\FewS k t/\∀ t',Lng t'->t'.length<=2 * b+1->FewS (k+3) t'->Q (.o (.str (tx t')))
def z8j(t:List Nat):Nat ⊕ PyData->PyData
 | .inl i => .tuple [.str (Qi "refused"),.int (i:Nat)]
 | .inr _ => .tuple [.str (Qi "read"),.str (tx t)]
def zoc:List PyData->(R->Prop)->Prop:=λds Q=>∃ t:List Nat,ds = [.str (tx t)]/\Lng t/\Q (.o (z8j t (zcb (za6 t))))
def zr5:List PyData->(R->Prop)->Prop:=λds Q=>∃ t:List Nat,ds = [.str (tx t)]/\TxH t/\Q (.o (.bool true))
theorem zxp{α:Type}(a:α)(ds:List α)(z:α):cutL (a::(ds ++ [z])) (some 1) (some (-1))=ds:=by
 have h1:=zeb (a::(ds ++ [z])).length 0 1
 have h2:=zeb (a::(ds ++ [z])).length (a::(ds ++ [z])).length (-1)
 have hl:(a::(ds ++ [z])).length=ds.length+2:=by simp
 rw[if_neg (by decide)] at h1
 rw[if_pos (by decide)] at h2
 have e1:HT.sIx (a::(ds ++ [z])).length 0 (some 1)=1:=by omega
 have e2:HT.sIx (a::(ds ++ [z])).length (a::(ds ++ [z])).length (some (-1))=ds.length+1:=by omega
 unfold cutL
 rw[e1,e2]
 simp
theorem mem_ts{w:List Nat}{vs:List (List Nat)}:QX (tx w) ∈ tsD vs↔w ∈ vs:=by
 refine⟨λh=>?_,λh=>Qz.mpr ⟨w,h,rfl⟩⟩
 obtain⟨v,hv,e⟩:=Qz.mp h
 rw[qW] at e
 rw[<- zib e]
 exact hv
theorem zui{neg:Bool}{w:List Nat}{vs:List (List Nat)}(h:Lng w)(hv:∀ v ∈ vs,Lng v):inF neg (.str (tx w)) (.list (tsD vs))=some (.o (.bool (if neg then !decide (w ∈ vs) else decide (w ∈ vs)))):=ybk (zcs h.ok) (znf hv) (q:=decide (w ∈ vs)) (hq:=by rw[decide_eq_true_eq];exact mem_ts.symm)
theorem z6x{neg:Bool}{w:List Nat}{vs:List (List Nat)}(h:Lng w)(hv:∀ v ∈ vs,Lng v):inF neg (.str (tx w)) (.tuple (tsD vs))=some (.o (.bool (if neg then !decide (w ∈ vs) else decide (w ∈ vs)))):=zo0 (zcs h.ok) (znf hv) (q:=decide (w ∈ vs)) (hq:=by rw[decide_eq_true_eq];exact mem_ts.symm)
theorem z5x{w:List Nat}:w ∈ abc.map (λc => [c])↔zev w=true:=by
 rw[Qz]
 unfold zev
 constructor
 ·rintro⟨c,hc,rfl⟩
  obtain⟨c',e,h⟩:=zr1 (v := [c]) rfl
  cases e
  rw[h,decide_eq_true hc]
  rfl
 ·intro h
  obtain⟨h1,h2⟩:=QR.mp h
  obtain⟨c,rfl,e⟩:=zr1 (of_decide_eq_true h1)
  rw[e] at h2
  exact⟨c,of_decide_eq_true h2,rfl⟩
theorem z5b{a b:String}(h:(zco (cds a) && decide ((cds a).length<=1000))=true)(h':(zco (cds b) && decide ((cds b).length<=1000))=true):∀ v ∈ [cds a,cds b],Lng v:=λv hv=>by
 rcases Ql.mp hv with rfl|hv
 ·exact zce h
 ·rw[Qu.mp hv];exact zce h'
theorem zrb:∀ v ∈ abc.map (λc => [c]),Lng v:=λv hv=>by
 obtain⟨c,hc,rfl⟩:=Qz.mp hv
 exact lng1 c ((by decide:∀ c ∈ abc,c<128) c hc)
theorem zoq:zkq [.str (Qi "abcdefghijklmnopqrstuvwxyz")]=some (.n (tsD (abc.map λc => [c]))):=by
 rw[zvp]
 rfl
theorem zep{w:List Nat}{neg:Bool}{s:String}(h:Lng w)(p:(zco (cds s) && decide ((cds s).length<=1000))=true):eqF neg (.str (tx w)) (.str (Qi s))=some (.o (.bool (if neg then !decide (w=cds s) else decide (w=cds s)))):=zch (zb3 s) h (zce p)
theorem zuz{ws:List (List Nat)}{neg:Bool}{s:String}(h:∀ w ∈ ws,Lng w)(p:(zco (cds s) && decide ((cds s).length<=1000))=true):eqF neg (.list (tsD ws)) (.list [QX (Qi s)])=some (.o (.bool (if neg then !decide (ws = [cds s]) else decide (ws = [cds s])))):=by
 rw[zb3 s]
 exact z0b (b := [cds s]) h λw hw=>by rw[Qu.mp hw];exact zce p
theorem z7u{w:List Nat}(h:FewS 25 w):∀ zs:List Str,zs.Nodup->(∀ k ∈ zs,k ∈ w.map sg)->zs.length<64:=λzs nd hz=>by
 obtain⟨ys,hl,hy⟩:=h
 have:=zmg (ys:=(base38++ys).map sg) nd λk hk=>by
  obtain⟨c,hc,rfl⟩:=Qz.mp (hz k hk)
  exact Qz.mpr ⟨c,Qx.mpr (hy c hc),rfl⟩
 rw[Qe,Qf] at this
 have b:base38.length=38:=by decide
 omega
theorem z6i(u:List Nat):sgs (tx u)=u.map λc => .str (sg c):=by unfold sgs;rw[zbd]
theorem zy8{u:List Nat}(hr:u.Pairwise (· < ·)){a z:Nat}(ha:a ∈ u)(ha':∀ m ∈ u,a<=m)(hz:z ∈ u)(hz':∀ m ∈ u,m<=z):lowB u=(decide (97<=a) && decide (z<=122)):=by
 unfold lowB
 refine JD.mpr ?_
 rw[QK,Qp,decide_eq_true_eq,decide_eq_true_eq]
 constructor
 ·intro h
  have h1:=h a ha
  have h2:=h z hz
  simp only[Qp,decide_eq_true_eq] at h1 h2
  exact⟨h1.1,h2.2⟩
 ·rintro⟨h1,h2⟩ c hc
  have:=ha' c hc
  have:=hz' c hc
  simp only[Qp,decide_eq_true_eq]
  omega
theorem ya7(c d:Nat):geSF (.str (sg c)) (.str (sg d))=some (.o (.bool (decide (d<=c)))):=by
 show some (R.o (YH (!decide _)))=_
 rw[zkw]
 by_cases h:d<=c
 ·rw[decide_eq_true h,decide_eq_false (by omega)];rfl
 ·rw[decide_eq_false h,decide_eq_true (by omega)];rfl
theorem yb5(c d:Nat):leSF (.str (sg c)) (.str (sg d))=some (.o (.bool (decide (c<=d)))):=by
 show some (R.o (YH (!decide _)))=_
 rw[zkw]
 by_cases h:c<=d
 ·rw[decide_eq_true h,decide_eq_false (by omega)];rfl
 ·rw[decide_eq_false h,decide_eq_true (by omega)];rfl
theorem zra{u:List Nat}(h:u.length<=16777216):zkq [.str (tx u)]=some (.n (u.map λc => .str (sg c))):=by
 show(if(tx u).length<=sizeLine then some (R.n (sgs (tx u))) else none)=_
 rw[if_pos (by rw[zb5,sizeLine_eq];exact h),z6i]
structure InvF (rs:List (List (List Nat))) (j n:Nat):Prop where
 heads:∀ i,i<j->i<3->za5 rs i=true
 hands:∃ hs:HL,za4 3 [] (rs.drop 3)=za4 (max j 3) hs (rs.drop (max j 3))/\(0<n↔hs ≠ [])/\(j<=3->n=0)
theorem z8h(rs:List (List (List Nat))):InvF rs 0 0:=⟨λi h=>absurd h (YN _),[],rfl,by simp,λ_=>rfl⟩
theorem zqs{rs:List (List (List Nat))}{j:Nat}(hj:j<rs.length):za5 rs j=zbx j (rs.getD j []):=by
 unfold za5
 rw[decide_eq_true hj,Q7]
theorem zmp{ws:List (List Nat)}(h:zbf ws=true):ws.getD 0 []=cds "hand" := by
 unfold zbf at h
 simp only[Qp,decide_eq_true_eq] at h
 exact h.2.1
def incF(j:Nat)(ws:List (List Nat)):Nat:=if(decide (2<j) && zbf ws)=true then 1 else 0
theorem zvx{rs:List (List (List Nat))}{j n:Nat}(hj:j<rs.length)(h:InvF rs j n)(ok:ze5 (rs.getD j []) j n=true):InvF rs (j+1) (n+incF j (rs.getD j [])):=by
 obtain⟨h1,hs,h2,h3,h4⟩:=h
 unfold ze5 at ok
 by_cases j3:j<3
 ·rw[if_pos j3] at ok
  have e0:incF j (rs.getD j [])=0:=by unfold incF;rw[decide_eq_false (by omega),QD,if_neg Qc]
  rw[e0,Nat.add_zero]
  refine⟨λi hi i3=>?_,hs,?_,h3,λ_=>h4 (by omega)⟩
  ·rcases j6.mp hi with z|rfl
   ·exact h1 i z i3
   ·rw[zqs hj];exact ok
  ·rw[show max (j+1) 3=3 by omega]
   rw[show max j 3=3 by omega] at h2
   exact h2
 ·rw[if_neg j3] at ok
  have hd:rs.drop j=rs.getD j []::rs.drop (j+1):=zjb (zdw (z := []) hj)
  rw[show max j 3=j by omega,hd,za4] at h2
  refine⟨λi hi i3=>h1 i (by omega) i3,?_⟩
  rw[show max (j+1) 3=j+1 by omega]
  by_cases hh:zbf (rs.getD j [])=true
  ·rw[if_pos hh] at h2
   have e1:incF j (rs.getD j [])=1:=by unfold incF;rw[decide_eq_true (by omega),hh,Q7,if_pos rfl]
   rw[e1]
   exact⟨_,h2,⟨λ_=>by simp,λ_=>by omega⟩,λz=>by omega⟩
  ·rw[if_neg hh] at h2
   have e1:incF j (rs.getD j [])=0:=by unfold incF;rw[Jw.mpr hh,QI,if_neg Qc]
   rw[e1,Nat.add_zero]
   by_cases hw:(rs.getD j []).getD 0 []=cds "hand"
   ·rw[if_pos hw] at ok;exact absurd ok hh
   rw[if_neg hw] at ok
   obtain⟨o1,o2⟩:=QR.mp ok
   have ne:hs ≠ []:=h3.mp (of_decide_eq_true o1)
   have hb:(!hs.isEmpty && zbr (rs.getD j []))=true:=by
    rw[o2,j5]
    cases hs with
    | nil=>exact absurd rfl ne
    | cons x xs=>rfl
   rw[if_pos hb] at h2
   refine⟨_,h2,⟨λ_=>?_,λ_=>h3.mpr ne⟩,λz=>by omega⟩
   obtain⟨pre,x,rfl⟩:∃ pre x,hs=pre ++ [x]:=⟨hs.dropLast,hs.getLast ne,(JG ne).symm⟩
   obtain⟨m,ds⟩:=x
   rw[zeo]
   simp
theorem zxx{rs:List (List (List Nat))}{j n:Nat}(hj:j<rs.length)(h:InvF rs j n)(bad:ze5 (rs.getD j []) j n=false):zcb rs = .inl j:=by
 obtain⟨h1,hs,h2,h3,h4⟩:=h
 unfold ze5 at bad
 unfold zcb
 by_cases j3:j<3
 ·rw[if_pos j3] at bad
  rw[<- zqs hj] at bad
  have:zcz rs=some j:=by
   unfold zcz
   have c:j=0\/j=1\/j=2:=by omega
   rcases c with rfl|rfl|rfl
   ·rw[bad,if_neg Qc]
   ·rw[h1 0 (by decide) (by decide),bad,if_pos rfl,if_neg Qc]
   ·rw[h1 0 (by decide) (by decide),h1 1 (by decide) (by decide),bad,if_pos rfl,if_pos rfl,if_neg Qc]
  rw[this]
 ·rw[if_neg j3] at bad
  have hb:zcz rs=none:=by
   unfold zcz
   rw[h1 0 (by omega) (by decide),h1 1 (by omega) (by decide),h1 2 (by omega) (by decide),if_pos rfl,if_pos rfl,if_pos rfl]
  have hd:rs.drop j=rs.getD j []::rs.drop (j+1):=zjb (zdw (z := []) hj)
  rw[show max j 3=j by omega,hd,za4] at h2
  have hh:zbf (rs.getD j [])=false:=by
   by_cases hw:(rs.getD j []).getD 0 []=cds "hand"
   ·rw[if_pos hw] at bad;exact bad
   ·exact Jw.mpr λz=>hw (zmp z)
  rw[hh,if_neg Qc] at h2
  have hn:(!hs.isEmpty && zbr (rs.getD j []))=false:=by
   refine Jw.mpr λz=>?_
   obtain⟨z1,z2⟩:=QR.mp z
   have ne:hs ≠ []:=by rintro rfl;cases z1
   have hw:¬ (rs.getD j []).getD 0 []=cds "hand" := λe=>by
    obtain⟨r,hr,er⟩:=zjy z2
    rw[er] at e
    have:numT r.p=cds "hand" := e
    have:=(zbw r.p hr.p).1
    rw[‹numT r.p=cds "hand"›] at this
    exact absurd this (by decide +kernel)
   rw[if_neg hw,z2,decide_eq_true (h3.mpr ne)] at bad
   cases bad
  rw[hn,if_neg Qc] at h2
  rw[hb]
  show(match za4 3 [] (rs.drop 3) with | .inl i=>_ | .inr hs=>_)=_
  rw[h2]
theorem zzb{rs:List (List (List Nat))}{n:Nat}(h:InvF rs rs.length n):if rs.length<3 then zcb rs = .inl rs.length else ∃ d,zcb rs = .inr d:=by
 obtain⟨h1,hs,h2,h3,h4⟩:=h
 unfold zcb zcz
 have no:za5 rs rs.length=false:=by unfold za5;rw[decide_eq_false (ZI _),QD]
 split
 ·rename_i hl
  have c:rs.length=0\/rs.length=1\/rs.length=2:=by omega
  rcases c with e|e|e
  ·rw[e] at no ⊢; rw[no,if_neg Qc]
  ·rw[e] at no ⊢; rw[h1 0 (by omega) (by decide),no,if_pos rfl,if_neg Qc]
  ·rw[e] at no ⊢; rw[h1 0 (by omega) (by decide),h1 1 (by omega) (by decide),no,if_pos rfl,if_pos rfl,if_neg Qc]
 ·rename_i hl
  rw[h1 0 (by omega) (by decide),h1 1 (by omega) (by decide),h1 2 (by omega) (by decide),if_pos rfl,if_pos rfl,if_pos rfl]
  rw[show max rs.length 3=rs.length by omega,JT,za4] at h2
  rw[h2]
  exact⟨_,rfl⟩
theorem z8u{r:List Nat}{j n:Nat}(h3:2<j)(ok:ze5 (cutW 32 r) j n=true):decide (r.take 4=cds "hand")=zbf (cutW 32 r):=by
 have hr:=zfa 32 r
 unfold ze5 at ok
 rw[if_neg (by omega)] at ok
 generalize cutW 32 r=ws at hr ok
 subst hr
 split at ok
 ·rw[ok]
  obtain⟨m,hm,rfl⟩:=zm3 ok
  have:zat 32 [cds "hand", numT m]=cds "hand" ++ 32::numT m:=rfl
  rw[this,List.take_append_of_le_length (by decide +kernel)]
  decide +kernel
 ·rename_i hw
  obtain⟨_,o2⟩:=QR.mp ok
  have hn:zbf ws=false:=Jw.mpr λz=>hw (zmp z)
  rw[hn]
  obtain⟨r,hr,rfl⟩:=zjy o2
  refine decide_eq_false λe=>?_
  obtain⟨x,xs,ex⟩:∃ x xs,numT r.p=x::xs:=by
   cases en:numT r.p with
   | nil=>have:=(zbw r.p hr.p).1;rw[en] at this;exact absurd this (by decide)
   | cons x xs=>exact⟨x,xs,rfl⟩
  have dx:x<58:=((zbw r.p hr.p).2.2 x (by rw[ex];simp)).2
  obtain⟨y,ys,ey⟩:∃ y ys,zas r.d ++ [numT r.q]=y::ys:=by
   cases r.d <;> exact⟨_,_,rfl⟩
  have:zat 32 (za3 r)=numT r.p++32::zat 32 (y::ys):=by
   unfold za3
   rw[ey]
   rfl
  rw[this,ex] at e
  have e2:cds "hand" = 104 :: [97,110,100]:=by decide +kernel
  rw[e2,J8,List.take_succ_cons] at e
  have:=(qo e).1
  omega
def zkv(m:Nat)(L:List Str):Bool:=decide (0<L.length) && (decide (L.length<1000) && L.all λx=>zco x.cps.toList && (decide (x.cps.toList.length<=m) && fewB 3 x.cps.toList))
theorem zyw{m:Nat}{L:List Str}(p:zkv m L=true):0<L.length/\L.length<1000:=by
 unfold zkv at p
 simp only[Qp,decide_eq_true_eq] at p
 exact⟨p.1,p.2.1⟩
theorem z1o{m:Nat}{L:List Str}(p:zkv m L=true){k:Nat}(h:k<L.length):∃ w:List Nat,idxF (.list (L.map .str)) (.int (k:Nat))=some (.o (.str (tx w)))/\w.length<=m/\(∀ c ∈ w,c<128)/\FewS 3 w:=by
 unfold zkv at p
 simp only[Qp,decide_eq_true_eq] at p
 have:=QK.mp p.2.2 L[k] (QQ h)
 simp only[Qp,decide_eq_true_eq] at this
 refine⟨L[k].cps.toList,?_,this.2.1,zex this.1,zk8 this.2.2⟩
 rw[zow]
 exact zlr (by rw[Q4,Qk h];rfl)
def badRows:List (List Nat):=(["", " ", "letters", "letters ", "letters ba", "letters aa", "letters aB", "letters a b", "letters 1", "lines", "lines ", "lines 01", "lines 1000", "lines -1", "lines +1", "lines 1 1", "flags", "flags 00", "flags 1_0", "flag 1", "hand", "hand ", "lines a", "hand 1 1", "hands 1", "Hand 1", "hand  1", "0", "0 go", "0 go ", "0 go 1 1", "0 go a", " 0 go 1", "0  go 1", "00 go 1", "hand 01", "0 send 0 1", "0 send 0 ab 1", "0 send a 0 1", "0 send 0 A 1", "0 send 0 0 1", "0 take 0 1", "0 take 0  1", "hand a", "0 empty 1", "0 empty 0 a 1", "0 empty a 1", "0 set 0 1", "0 set 0 a 1", "0 if 0 01 1", "0 if 0 1 1 1", "0 goes 1", "1000 go 0", "0 go 1000", "0 set 0 1000 1", "0 Go 1", "go 0 1", "0 send 01 a 1", "0 send 0 a 1 ", "-1 go 0", "0 go +1", "0 if a 1 1", "0 take 0 a"]:List String).map cds
theorem zv4:(badRows.all λw=>!decide (64 ∈ w) && (zco w && (decide (w.length<=26) && fewB 3 w)))=true:=by decide +kernel
theorem zlw:badRows.length=63:=by decide +kernel
theorem zvj{s:Str}(h:s=tx (zat 64 badRows)):(JX s (Qi "@")).map QX=tsD badRows:=by
 rw[h,show Qi "@" = ⟨#[64]⟩ by decide +kernel,zgt (by intro e;have:=zlw;rw[e] at this;cases this) (λw hw hc=>by
  have:=QK.mp zv4 w hw
  simp only[Qp,JJ,decide_eq_false_iff_not] at this
  exact this.1 hc),Q5]
 rfl
theorem z8i{k:Nat}(h:k<63):∃ w:List Nat,idxF (.list (tsD badRows)) (.int (k:Nat))=some (.o (.str (tx w)))/\w.length<=26/\(∀ c ∈ w,c<128)/\FewS 3 w:=by
 have hk:k<badRows.length:=by rw[zlw];exact h
 have:=QK.mp zv4 (badRows.getD k []) (zdl hk)
 simp only[Qp,decide_eq_true_eq] at this
 exact⟨_,zal hk,this.2.2.1,zex this.2.1,zk8 this.2.2.2⟩
section
variable {ι κ : Type} {P : Program} {w : World} {K : Qa} {mg : Str → Option Value} {base : Heap} {k : Nat} {X : ι → Cx} {O : κ → Ob} {a b c : Expr} {fa fb fc : DE} {pos : Pos}
def zvl(fa fb fc fi:DE):DE:=λρ Q=>fa ρ λr0=>fb ρ λr1=>fc ρ λr2=>fi ρ λri=>∃ r,((ri.d = .int 0/\r=r0)\/(ri.d = .int 1/\r=r1)\/(ri.d = .int 2/\r=r2))/\Q r
theorem zvc{O:Ob}{ta tb tc ti:TE}{fa fb fc fi:DE}(ha:ED K O ta fa)(hb:ED K O tb fb)(hc:ED K O tc fc)(hi:ED K O ti fi):ED K O (tOp (rIx K) (tLst (zbb ta (zbb tb (zbb tc tNil)))) ti) (zvl fa fb fc fi):=λσ H ρ Q Qd S hf k=>by
 refine ha σ H ρ _ _ S hf λv H1 r0 s1 o1 q1=>?_
 refine hb σ H1 ρ _ _ (S.stp s1) q1 λu H2 r1 s2 o2 q2=>?_
 have p1:=s1.p S.p
 have p2:=s2.p p1
 refine hc σ H2 ρ _ _ ((S.stp s1).stp s2) q2 λx H3 r2 s3 o3 q3=>?_
 have p3:=s3.p p2
 refine⟨by rw[sizeLine_eq];simp,λl hl=>?_⟩
 have s4:Stp O H3 (upd H3 l (.lst [v,u,x])) := .new S.ok hl _
 refine hi σ _ ρ _ _ ((((S.stp s1).stp s2).stp s3).stp s4) q3 λz H4 ri s5 o4 q4=>?_
 have iz:=o4.is S.ok (s4.p p3)
 have m:¬ O.M l:=λm=>by obtain⟨o,z⟩:=S.ok.here H3 l p3 m;rw[hl] at z;cases z
 have hl4:H4 l=some (.lst [v,u,x]):=s5.s l _ zap m
 have st:=(((s1.trans s2).trans s3).trans s4).trans s5
 obtain⟨r,q4,q⟩:=q4
 rcases q4 with ⟨e,rfl⟩|⟨e,rfl⟩|⟨e,rfl⟩
 ·rw[e] at iz
  cases iz
  refine .inl ⟨_,_,_,v,rfl,rfl,.of hl4,rfl,k v H4 _ st ?_ q⟩
  exact Out.stp S.ok S.p s1 (((s2.trans s3).trans s4).trans s5) o1
 ·rw[e] at iz
  cases iz
  refine .inl ⟨_,_,_,u,rfl,rfl,.of hl4,rfl,k u H4 _ st ?_ q⟩
  exact(Out.stp S.ok p1 s2 ((s3.trans s4).trans s5) o2).ahead S.ok S.p s1
 ·rw[e] at iz
  cases iz
  refine .inl ⟨_,_,_,x,rfl,rfl,.of hl4,rfl,k x H4 _ st ?_ q⟩
  exact((Out.stp S.ok p2 s3 (s4.trans s5) o3).ahead S.ok p1 s2).ahead S.ok S.p s1
theorem zph{i:Expr}{fi:DE}{lp:Pos}(C:Ctx3 P w K mg base k X)(ha:E3 K X O a fa)(hb:E3 K X O b fb)(hc:E3 K X O c fc)(hi:E3 K X O i fi)(hs:zha i:=by intro _ _;rfl)(h1:∀ i,starEach [a,b,c] (X i).env=(false,eval a (X i).env)::starEach [b,c] (X i).env:=by intro i;rfl)(h2:∀ i,starEach [b,c] (X i).env=(false,eval b (X i).env)::starEach [c] (X i).env:=by intro i;rfl)(h3:∀ i,starEach [c] (X i).env=(false,eval c (X i).env)::starEach [] (X i).env:=by intro i;rfl) :
 E3 K X O (.Subscript (.List [a,b,c] lp) i pos) (zvl fa fb fc fi) :=
 let ⟨_,p1,d1⟩:=ha;let ⟨_,p2,d2⟩:=hb;let ⟨_,p3,d3⟩:=hc;let ⟨_,p4,d4⟩:=hi
 ⟨tOp (rIx K) _ _,λi=>by have h:=zby (pos:=pos) (zkh (X:=X i)) (zj0 (pos:=lp) (za7 (p1 i) (za7 (p2 i) (za7 (p3 i) zb9 (h3 i)) (h2 i)) (h1 i))) (p4 i) hs;rw[C.hK] at h;exact h,λj=>zvc (d1 j) (d2 j) (d3 j) (d4 j)⟩
end
def Ald(w:List Nat):Prop:=∀ c ∈ w,(48<=c/\c<=57)\/(97<=c/\c<=122)
theorem zck{n:Nat}(h:n<1000):Ald (numT n):=λc hc=>by have:=(zbw n h).2.2 c hc;omega
theorem zd1{w:List Nat}(h:(w.all λc=>(decide (48<=c) && decide (c<=57)) || (decide (97<=c) && decide (c<=122)))=true):Ald w:=λc hc=>by
 have:=QK.mp h c hc
 simp only[Qp,JF,decide_eq_true_eq] at this
 exact this
theorem zrg{c:Nat}(h1:97<=c)(h2:c<=122):Ald [c]:=λd hd=>by rw[Qu.mp hd];omega
theorem zxn{d:Deed}(h:DeT d):∀ w ∈ zas d,Ald w:=by
 cases d with
 | go=>simp only[zas,Ql,Qo,or_false];rintro w rfl;exact zd1 (by decide +kernel)
 | send l c=>simp only[zas,Ql,Qo,or_false];rintro w (rfl|rfl|rfl);exact zd1 (by decide +kernel);exact zck h.1;exact zrg h.2.1 h.2.2
 | take l c=>simp only[zas,Ql,Qo,or_false];rintro w (rfl|rfl|rfl);exact zd1 (by decide +kernel);exact zck h.1;exact zrg h.2.1 h.2.2
 | empty l=>simp only[zas,Ql,Qo,or_false];rintro w (rfl|rfl);exact zd1 (by decide +kernel);exact zck h
 | put f v=>simp only[zas,Ql,Qo,or_false];rintro w (rfl|rfl|rfl);exact zd1 (by decide +kernel);exact zck h.1;exact zck h.2
 | test f v=>simp only[zas,Ql,Qo,or_false];rintro w (rfl|rfl|rfl);exact zd1 (by decide +kernel);exact zck h.1;exact zck h.2
theorem zw5{r:Rul}(h:RuT r):∀ w ∈ za3 r,Ald w:=λw hw=>by
 rcases Ql.mp hw with rfl|hw
 ·exact zck h.p
 rcases Qx.mp hw with hw|hw
 ·exact zxn h.d w hw
 ·rw[Qu.mp hw];exact zck h.q
theorem zxd{h:Hou}(H:HT h):∀ ws ∈ zbn h,ws ≠ []/\∀ w ∈ ws,Ald w:=λws hw=>by
 rcases Qx.mp hw with hw|hw
 ·simp only[Ql,Qo,or_false] at hw
  rcases hw with rfl|rfl|rfl
  ·refine⟨by simp,λw hw=>?_⟩
   simp only[Ql,Qo,or_false] at hw
   rcases hw with rfl|rfl
   ·exact zd1 (by decide +kernel)
   ·exact λc hc=>by have:=zlz H.ls c hc;omega
  ·refine⟨by simp,λw hw=>?_⟩
   simp only[Ql,Qo,or_false] at hw
   rcases hw with rfl|rfl
   ·exact zd1 (by decide +kernel)
   ·exact zck H.lines
  ·refine⟨by simp,λw hw=>?_⟩
   simp only[Ql,Qo,or_false] at hw
   rcases hw with rfl|rfl
   ·exact zd1 (by decide +kernel)
   ·exact zck H.flags
 ·obtain⟨l,hl,hw⟩:=JY.mp hw
  obtain⟨x,hx,rfl⟩:=Qz.mp hl
  obtain⟨hn,hr⟩:=H.hands x hx
  rcases Ql.mp hw with rfl|hw
  ·refine⟨by simp,λw hw=>?_⟩
   simp only[Ql,Qo,or_false] at hw
   rcases hw with rfl|rfl
   ·exact zd1 (by decide +kernel)
   ·exact zck hn
  ·obtain⟨r,hr',rfl⟩:=Qz.mp hw
   exact⟨by unfold za3;simp,zw5 (hr r hr')⟩
theorem zxh:∀ c:Fin 128,(48<=c.val/\c.val<=57)\/(97<=c.val/\c.val<=122)->c.val ∈ base38:=by decide
theorem zmt{h:Hou}(H:HT h):FewS 0 (zbp h):=⟨[],Qt _,λc hc => .inl (by
 rcases zc4 hc with rfl|⟨w,hw,hx⟩
 ·decide
 ·obtain⟨ws,hws,rfl⟩:=Qz.mp hw
  rcases zc4 hx with rfl|⟨v,hv,hy⟩
  ·decide
  ·have a:=(zxd H ws hws).2 v hv c hy
   exact zxh ⟨c,by omega⟩ a)⟩
def cut4(h:Hou):Hou:=⟨h.ls,h.lines,h.flags,(h.hands.take 1).map λx=>⟨x.n,[]⟩⟩
theorem zlh{h:Hou}(H:HT h):HT (cut4 h):=⟨H.ls,H.ne,H.lines,H.flags,λx hx=>by
 obtain⟨y,hy,rfl⟩:=Qz.mp hx
 exact⟨(H.hands y (JR hy)).1,λr hr=>by cases hr⟩⟩
theorem zld{h:Hou}(S:HS h):HS (cut4 h):=⟨S.ls,by show(Y4 _ _).length<=3;rw[Qe,ZJ];omega,λx hx=>by
 obtain⟨y,hy,rfl⟩:=Qz.mp hx
 exact QO _⟩
theorem zj3(h:Hou):(za0 h).take 4=za0 (cut4 h):=by
 obtain⟨ls,li,fl,hs⟩:=h
 cases hs with
 | nil=>rfl
 | cons x xs=>rfl
theorem zw7{h:Hou}(H:HT h)(S:HS h):(zbp (cut4 h)).length<=500:=by
 have fw:=zo8 (zlh H) (zld S)
 have two:∀ ws ∈ zbn (cut4 h),ws.length=2:=λws hw=>by
  rcases Qx.mp hw with hw|hw
  ·simp only[Ql,Qo,or_false] at hw
   rcases hw with rfl|rfl|rfl <;> rfl
  ·obtain⟨l,hl,hw⟩:=JY.mp hw
   obtain⟨x,hx,rfl⟩:=Qz.mp hl
   obtain⟨y,hy,rfl⟩:=Qz.mp hx
   rw[Qu.mp hw]
   rfl
 have each:∀ w ∈ za0 (cut4 h),w.length<=54:=λw hw=>by
  obtain⟨ws,hws,rfl⟩:=Qz.mp hw
  have t:=zfu (fw ws hws).2
  rw[two ws hws] at t
  have:=zf7 (c:=32) ws
  omega
 have t:=zfu each
 have l4:(za0 (cut4 h)).length<=4:=by rw[<- zj3,ZJ];omega
 have:=Jx (54+1) l4
 have:=zf7 (c:=10) (za0 (cut4 h))
 unfold zbp
 omega
theorem zsp{h:Hou}(H:HT h)(S:HS h)(l:(zbp h).length<=500):TxH (zbp h)/\zcb (za6 (zbp h)) = .inr (zda h):=⟨⟨zia H S,by omega,(zmt H).more (by decide)⟩,by rw[ztk H];exact zvo H⟩
theorem zjc{t:List Nat}(h:Lng t){neg:Bool}:eqF neg (.tuple [.str (Qi "read"),.str (tx t)]) (.tuple [.str (Qi "read"),.str (tx t)])=some (.o (.bool (if neg then false else true))):=by
 have:=znj (neg:=neg) (d := .tuple [.str (Qi "read"),.str (tx t)]) (e := .tuple [.str (Qi "read"),.str (tx t)]) (zdt (zcs (by decide +kernel)) (zdt (zcs h.ok) (zh4 0))) (zdt (zcs (by decide +kernel)) (zdt (zcs h.ok) (zh4 0))) (q:=true) (hq:=by simp)
 exact this
theorem z7p(i:Nat){neg:Bool}:eqF neg (.tuple [.str (Qi "refused"),.int (i:Nat)]) (.tuple [.str (Qi "refused"),.int (i:Nat)])=some (.o (.bool (if neg then false else true))):=by
 have:=znj (neg:=neg) (d := .tuple [.str (Qi "refused"),.int (i:Nat)]) (e := .tuple [.str (Qi "refused"),.int (i:Nat)]) (zdt (zcs (by decide +kernel)) (zdt (zwt _) (zh4 0))) (zdt (zcs (by decide +kernel)) (zdt (zwt _) (zh4 0))) (q:=true) (hq:=by simp)
 exact this
theorem z5q:TxH []:=⟨⟨by decide,by simp⟩,by decide,zk8 (by decide)⟩
theorem zyt{t:List Nat}(h:TxH t)(l:t.length<=500):TxH (t ++ [10]):=⟨⟨by rw[Qf];show _+1<=_;omega,λc hc=>by
 rcases Qx.mp hc with z|z
 ·exact h.lng.sgn c z
 ·rw[Qu.mp z];decide⟩,by rw[Qf];show _+1<=_;omega,by
 obtain⟨zs,a,b⟩:=h.few
 refine⟨zs,a,λc hc=>?_⟩
 rcases Qx.mp hc with z|z
 ·exact b c z
 ·rw[Qu.mp z];exact .inl (by decide)⟩
section
variable {X : Cx} {pins : List (Addr × Obj)} {σ : St} {e : Expr} {es : List Expr} {te : TE} {t : TA} {pos p : Pos} {k : Nat} {f : Addr} {fd : FuncData} {ps : List Str} {sp : Sp} {E : XK} {x : Str}
theorem z5d(F:FnOk X.prog X.w X.K X.mg X.base CX0 k f fd ps sp)(hr:Room k X.A)(hg:Gl X x)(hm:X.mg x=some (.ref f))(hk:Z5 X.K (.ref f)=true)(hb:L2.Binds X.K fd ps [])
 (ha:PAf X pins σ (e::es) t) (hdb:(x == ("__debug__" : Str))=false:=by decide) (he:starEach (e::es) X.env=(false,eval e X.env)::starEach es X.env:=by rfl) (hpl:(backTo pos (starEach es X.env)).any (·.1)=false:=by rfl) :
 PEf X pins σ (.Call (.Name x p) (e::es) [] pos) (zd6 sp [] E0 t):=by
 intro s H Q I h
 refine wpAny_Call_Name_kw (zdg I hg hm ?_ hdb)
 refine Ym (h₀:=X.base) I.ok.mod.kin hk (thn (ha pos s H _ I h) λus s1 ⟨vs,H1,I1,r,q⟩=>⟨I1.kIn,?_⟩) he hpl
 exact zu3 F hr hb .nil zsz I1 r q
end
def calF(n:Nat)(F:List PyData->(R->Prop)->Prop)(g:DAf):DEf:=λρ N X=>g ρ (λds=>ds.length=n/\F ds N) X
section
variable {K : Qa} {mg : Str → Option Value} {O : Ob}
theorem z1c{φ:Ob->Prop}{n:Nat}{F:List PyData->(R->Prop)->Prop}{u:XK->TA}{g:DAf}(hφ:φ O)(h:ADf K mg O u g):EDf K mg O (λE=>zd6 (spO K φ n F) [] E0 (u E)) (calF n F g):=λE σ H ρ Q N X S q k kx=>by
 refine h E σ H ρ _ _ _ S q (λvs H1 ds s1 is ⟨hn,q1⟩=>?_) kx
 rw[QU]
 exact⟨O,ds,N,S.ok,hφ,s1.p S.p,hn,is,q1,λr qr v H' s2 o2=>k v H' r (s1.trans s2) (o2.ahead S.ok S.p s1) qr⟩
end
section
variable {ι κ : Type} {P : Program} {w : World} {K : Qa} {mg : Str → Option Value} {base : Heap} {k : Nat} {X : ι → Cx} {O : κ → Ob} {a b c : Expr} {fa : DE} {ff : DEf} {gf : DAf} {ga : DA} {pos p : Pos} {es : List Expr}
theorem yaa{k' n:Nat}{x:Str}{ps:List Str}{φ:Ob->Prop}{F:List PyData->(R->Prop)->Prop}(C:Ctx3 P w K mg base k X)(D:Def3 P w K mg base k' x ps (spO K φ n F))(hφ:∀ j,φ (O j))(ha:Af3 K mg X O (a::es) gf)(hk:k'<=k:=by decide)(hg:∀ i,Gl (X i) x:=by intro i;rfl)
 (hdb:(x == ("__debug__" : Str))=false:=by decide) (he:∀ i,starEach (a::es) (X i).env=(false,eval a (X i).env)::starEach es (X i).env:=by intro i;rfl) (hpl:∀ i,(backTo pos (starEach es (X i).env)).any (·.1)=false:=by intro i;rfl):Ef3 K mg X O (.Call (.Name x p) (a::es) [] pos) (calF n F gf):=by
 obtain⟨f,fd,G,m,kp,bn⟩:=D.ex
 obtain⟨t,q,d⟩:=ha
 refine⟨λE=>zd6 (spO K φ n F) [] E0 (t E),λi W pins σ E hp=>?_,λj=>z1c (hφ j) (d j)⟩
 have G':FnOk ((X i).wish W).prog ((X i).wish W).w ((X i).wish W).K ((X i).wish W).mg ((X i).wish W).base CX0 k f fd ps (spO K φ n F):=by
  show FnOk (X i).prog (X i).w (X i).K (X i).mg (X i).base CX0 k f fd ps _
  rw[C.hP,C.hw,C.hK,C.hmg,C.hb];exact G.mono hk
 exact z5d G' (C.room i) (hg i) (show(X i).mg x=_ by rw[C.hmg];exact m) (show Z5 (X i).K _=_ by rw[C.hK];exact kp) (show L2.Binds (X i).K fd ps [] by rw[C.hK];exact bn) (q i W pins σ E hp) hdb (he i) (hpl i)
end
def z8x(K:Qa):List V->Hp->VK->Prop:=λxs H Q=>∃ p ys,xs = [.ref p]/\(SqL K H p ys\/SqT K H p ys)/\∀ l,H l=none->Q (.ref l) (upd H l (.lst ys))
def zu1(K:Qa):TE:=tLst (zbb (tCB (z8x K) (zbb (tVar 0) tNil)) (zbb (tC (.int 0)) (zbb (tC (.int 0)) (zbb (tC (.int 0)) tNil))))
theorem z4g{P:Program}{w:World}{K:Qa}{mg:Str->Option Value}{base:Heap}{k:Nat}{st st0:Stmt}{rest:List Stmt}{N:List Str}{f₁:Addr}{fd₁:FuncData}(Fu:Fun K "law" "law" st f₁ fd₁)(S:FnScope ("_law_script" :: "_law_state" :: N) ["_law_script"] (zah st))
 (hs:zbu st=st0::rest)
 (first:∀ (f:Addr) (cdv:Value) (A:Around) (outer:List Env) (s:Shared) (H:Hp) (E:XK),Ctx3 P w K mg base k (zfk P w K mg base ("_law_script" :: "_law_state" :: N) "law" (zah st) f cdv A outer s H E) ->
  PS (zfk P w K mg base ("_law_script" :: "_law_state" :: N) "law" (zah st) f cdv A outer s H E ()) st0 (tAsg (zu1 K) (zbs 1)))
 (body:∀ (f:Addr) (cdv:Value) (A:Around) (outer:List Env) (s:Shared) (H:Hp) (E:XK),Ctx3 P w K mg base k (zfk P w K mg base ("_law_script" :: "_law_state" :: N) "law" (zah st) f cdv A outer s H E) ->
  ∃ g,Ss3 K (zfk P w K mg base ("_law_script" :: "_law_state" :: N) "law" (zah st) f cdv A outer s H E) (λj:Addr × Addr=>stOb j.1 j.2) rest g/\g { nx:=λ_=>False,rt:=λr=>r = .o (.bool true) } (none::some .ob::Qm N.length none)) :
 FnOk P w K mg base CX0 (k+1) f₁ fd₁ ["_law_script"] (zkm K):=by
 refine Fu.ok S (λvs H Q E h=>by obtain⟨a,ns,rfl,_⟩:=h;rfl) (λcdv A outer s H vs Q E hr h=>?_)
 obtain⟨a,ns,rfl,hS,hl,q⟩:=h
 have C:=zjv (P:=P) (w:=w) (K:=K) (mg:=mg) (base:=base) (N := "_law_script" :: "_law_state" :: N) (x := "law") (sc:=zah st) (f:=f₁) (cdv:=cdv) (A:=A) (outer:=outer) (s:=s) (H:=H) (E:=E) hr
 obtain⟨g,⟨t,h1,h2⟩,h3⟩:=body f₁ cdv A outer s H E C
 have sz:=sizeLine_eq
 refine⟨tSeq (tAsg (zu1 K) (zbs 1)) t,?_,?_⟩
 ·rw[hs]
  exact zbo (first f₁ cdv A outer s H E C) (h1 ())
 ·refine⟨_,rfl,a,_,rfl,.inl hS,λl hln=>⟨by show 4<=sizeLine;omega,λp hp=>?_⟩⟩
  have pl:p ≠ l:=λe=>by rw[e,zap] at hp;cases hp
  have pa:StAt (upd (upd H l (.lst (ns.map V.int))) p (.lst [V.ref l,V.int 0,V.int 0,V.int 0])) p l 0 0 0 ns:=⟨pl,zap,by rw[zaf (ZY pl),zap],by decide,by decide⟩
  refine h2 (p,l) _ (λ_ _=>False) _ _ _ _ _ ⟨z3w p l,⟨0,0,0,ns,pa⟩,⟨0,0,0,ns,pa⟩,.refl _ _,λ_ _ _ z=>z.elim,λ_ _ z=>z.elim,λi r e=>?_,?_⟩ h3 ⟨λ_ _ _ _ _ _ z=>z.elim,λ_ _ _ _ _ _ z=>z.elim,λ_ _ _ _ _ _ z=>z.elim,λH' v r _ o e=>?_⟩
  ·match i with
   | 0=>cases e
   | 1=>cases e;exact⟨_,rfl,rfl⟩
   | i+2 =>
     rw[J4,J4,ZD] at e
     split at e <;> cases e
  ·rw[Zj]
   simp[L2.start]
  ·subst e
   cases o
   exact q H'
end L3
namespace L32
open PySem PySem.Spec
open PyProof.Rows hiding St
open L2 L3
local macro_rules | `(tactic| infer_instance) => `(tactic| first|refine⟨_, _, rfl, rfl, ?_⟩|refine⟨_, eqI, ?_⟩|refine⟨_, neI, ?_⟩|refine⟨_, rfl, ?_⟩|refine⟨rfl, ?_⟩|refine⟨(by show _ ≤ sizeLine; rw[sizeLine_eq]; exact Z9 rfl), ?_⟩|refine⟨_, _, rfl, ?_⟩|refine⟨_, _, _, rfl, ?_⟩|refine iteT ?_|refine iteF ?_|refine Or.inl ⟨rfl, ?_⟩|refine Or.inr ⟨rfl, ?_⟩|refine⟨_, yca (by decide +kernel), ?_⟩|refine⟨_, ya5 (by decide +kernel) (by decide +kernel), ?_⟩|refine⟨_, ybs (by decide +kernel), ?_⟩|refine⟨_, ybv (by decide +kernel), ?_⟩)
section
variable {P : Program} {w : World} {K : Qa} {mg : Str → Option Value} {base : Heap} {k : Nat}
abbrev zlx:Stmt:=top 10
theorem zxf:FnScope ["text"] ["text"] (zah zlx):=⟨rfl,rfl,rfl,by decide +kernel,rfl,by decide +kernel,by decide +kernel⟩
theorem zfc(B:Blt mg)(T:Top3 K mg "is_word" zlx):Def3 P w K mg base 1 "is_word" ["text"] (spO K (λ_=>True) 1 zn3):=by
 refine mk_O T zxf (λ_ _ _ _ _ _ us hl=>len1 hl λ_=>rfl) rfl λf cdv A outer s H E O hφ C=>⟨_,(zai (zar (znm C B (zaa (zcp 1 ["sign", "text"] C (λ_ => .of rfl (by kernel_rfl)) (zsa (zab 0)) (zbh 0) zdh (zzc zag (zab 0) zag)) zac)))),λds Qr hn q=>?_⟩
 obtain⟨v,rfl,hv,q⟩:=q
 have sz:=sizeLine_eq
 have hl:=hv.len
 have es:sgs (tx v)=v.map λc => .str (sg c):=by unfold sgs;rw[zbd]
 (repeat infer_instance)
 rw[es]
 refine zc0 (α:=Nat) (enc:=λc => .str (sg c)) (e:=λc => .bool (decide (97<=c) && decide (c<=122))) (λc hc P hP=>?_) (by omega) ?_
 ·exact z0a (lo:=97) (hi:=122) rfl (hP _ rfl)
 refine⟨_,zo1 v _,?_⟩
 rw[zof]
 exact q
end
section
variable {P : Program} {w : World} {K : Qa} {mg : Str → Option Value} {base : Heap} {k : Nat}
abbrev ziq:Stmt:=top 11
theorem zsn:FnScope ["text"] ["text"] (zah ziq):=⟨rfl,rfl,rfl,by decide +kernel,rfl,by decide +kernel,by decide +kernel⟩
theorem zgu(B:Blt mg)(zfc:Def3 P w K mg base 1 "is_word" ["text"] (spO K (λ_=>True) 1 zn3))(T:Top3 K mg "is_letter" ziq):Def3 P w K mg base 2 "is_letter" ["text"] (spO K (λ_=>True) 1 zpm):=by
 refine mk_O T zsn (λ_ _ _ _ _ _ us hl=>len1 hl λ_=>rfl) rfl λf cdv A outer s H E O hφ C=>⟨_,(zai (zar (zb6 (e_eq C (za9 C B (zaa (zab 0) zac)) zae) (zc8 (za1 C zfc (λ_=>trivial) (zaa (zab 0) zac)))))),λds Qr hn q=>?_⟩
 obtain⟨v,rfl,hv,q⟩:=q
 (repeat first|refine⟨_,zde hv,?_⟩|refine⟨zde hv,?_⟩|infer_instance)
 rw[show decide ((v.length:Int)=1)=decide (v.length=1) from decide_eq_decide.mpr ⟨λh=>by omega,λh=>by omega⟩]
 refine iteB (λa=>?_) λa=>?_
 ·rw[a,Q7] at q
  (repeat infer_instance)
  exact⟨hv,q⟩
 ·rw[a] at q
  exact q
end
section
variable {P : Program} {w : World} {K : Qa} {mg : Str → Option Value} {base : Heap} {k : Nat}
abbrev zgw:Stmt:=top 12
theorem zpj:FnScope ["text", "rising"] ["text"] (zah zgw):=⟨rfl,rfl,rfl,by decide +kernel,rfl,by decide +kernel,by decide +kernel⟩
theorem zfg(B:Blt mg)(zfc:Def3 P w K mg base 1 "is_word" ["text"] (spO K (λ_=>True) 1 zn3))(T:Top3 K mg "is_alphabet" zgw):Def3 P w K mg base 2 "is_alphabet" ["text"] (spO K (λ_=>True) 1 zvn):=by
 refine mk_O T zpj (λ_ _ _ _ _ _ us hl=>len1 hl λ_=>rfl) rfl λf cdv A outer s H E O hφ C=>⟨_,(zad (zao 1 (znm C B (zaa (zcp 1 ["k", "text", "rising"] C (λ_ => .of rfl (by kernel_rfl)) (i_r2 C B (zaa zae (zaa (za9 C B (zaa (zab 0) zac)) zac))) (zbh 0) zdh (yb9 (zan (C.comp _ _) (zab 1) (zk5 (zab 0) zae)) (zan (C.comp _ _) (zab 1) (zab 0)))) zac))) (zai (zar (zb6 (za1 C zfc (λ_=>trivial) (zaa (zab 0) zac)) (zc8 (zab 1)))))),λds Qr hn q=>?_⟩
 obtain⟨v,rfl,hv,q⟩:=q
 have sz:=sizeLine_eq
 have hl:=hv.len
 refine⟨_,_,rfl,rfl,_,zgc (by omega),1,_,rfl,⟨by omega,by omega,by omega,by omega⟩,?_⟩
 have en:ze6 1 ((v.length:Int) - 1).toNat=(jq 1 (v.length - 1)).map λk => .int (k:Nat):=by
  unfold ze6
  rw[List.range'_eq_map_range,Q5,show((v.length:Int) - 1).toNat=v.length - 1 by omega]
  refine Ji λk _=>?_
  show ZO (1+(k:Nat))=ZO ((1+k:Nat):Int)
  congr 1
 rw[en]
 refine zc0 (α:=Nat) (enc:=λk => .int (k:Nat)) (e:=λk => .bool (decide (v.getD (k - 1) 0<v.getD k 0))) (λk hk P hP=>?_) (by rw[List.length_range'];omega) ?_
 ·obtain⟨h1,h2⟩:=Y0.mp hk
  have hk2:k<v.length:=by omega
  have hx:idxF (tS v) (.int (((k:Nat):Int) - 1))=some (.o (tS [v[k - 1]])):=by
   rw[show((k:Nat):Int) - 1=((k - 1:Nat):Int) by omega]
   exact zdc (w:=v) (k:=k - 1) (by omega) (by omega)
  refine⟨_,_,rfl,rfl,_,_,rfl,rfl,_,rfl,_,hx,_,_,rfl,rfl,_,_,rfl,rfl,_,zdc (w:=v) (k:=k) hk2 (by omega),_,rfl,hP _ ?_⟩
  show YH (decide (([v[k - 1]]:List Nat) < [v[k]]))=_
  rw[ztv,Q6,Q6,Qk hk2,Qk (show k - 1<v.length by omega)]
  rfl
 refine⟨(jq 1 (v.length - 1)).map (λk=>decide (v.getD (k - 1) 0<v.getD k 0)),congrArg (λx => [Zo x]) z7j,rfl,?_⟩
 have ed:(if false=true then List.any ((jq 1 (v.length - 1)).map λk=>decide (v.getD (k - 1) 0<v.getD k 0)) id else List.all ((jq 1 (v.length - 1)).map λk=>decide (v.getD (k - 1) 0<v.getD k 0)) id)=zew v:=by
  rw[if_neg Qc,List.all_map]
  rfl
 rw[ed]
 refine⟨_,_,rfl,rfl,rfl,v,rfl,hv,_,rfl,?_⟩
 unfold zds at q
 cases h0:lowB v with
 | false=>rw[h0,QD] at q;exact iteF q
 | true=>rw[h0,Q7] at q;exact iteT ⟨_,_,rfl,rfl,q⟩
end
section
variable {P : Program} {w : World} {K : Qa} {mg : Str → Option Value} {base : Heap} {k : Nat}
abbrev zil:Stmt:=top 16
theorem zs5:FnScope ["word", "figures"] ["word"] (zah zil):=⟨rfl,rfl,rfl,by decide +kernel,rfl,by decide +kernel,by decide +kernel⟩
theorem zbj(B:Blt mg)(T:Top3 K mg "is_number" zil):Def3 P w K mg base 1 "is_number" ["word"] (spO K (λ_=>True) 1 zcu):=by
 refine mk_O T zs5 (λ_ _ _ _ _ _ us hl=>len1 hl λ_=>rfl) rfl λf cdv A outer s H E O hφ C=>⟨_,(zad (zao 1 (znm C B (zaa (zcp 1 ["sign", "word", "figures"] C (λ_ => .of rfl (by kernel_rfl)) (zsa (zab 0)) (zbh 0) zdh (zzc zag (zab 0) zag)) zac))) (zai (zar (zb6 (zab 1) (zb6 (yb0 zae (za9 C B (zaa (zab 0) zac)) zae) (zc8 (e_or (e_eq C (zab 0) zag) (zc8 (e_ne C (zan C (zab 0) zae) zag))))))))),λds Qr hn q=>?_⟩
 obtain⟨v,rfl,hv,q⟩:=q
 have sz:=sizeLine_eq
 have hl:=hv.len
 have es:sgs (tx v)=v.map λc => .str (sg c):=by unfold sgs;rw[zbd]
 (repeat infer_instance)
 rw[es]
 refine zc0 (α:=Nat) (enc:=λc => .str (sg c)) (e:=λc => .bool (decide (48<=c) && decide (c<=57))) (λc hc P hP=>?_) (by omega) ?_
 ·exact z0a (lo:=48) (hi:=57) rfl (hP _ rfl)
 refine⟨_,zo1 v _,?_⟩
 rw[zof]
 (repeat infer_instance)
 unfold zak at q
 refine iteB (λa1=>?_) λa1=>?_
 rotate_left
 ·rw[show digB v=false from a1] at q
  exact q
 rw[show digB v=true from a1,Q7] at q
 (repeat first|refine⟨_,zde hv,?_⟩|refine⟨zde hv,?_⟩|infer_instance)
 refine iteB (λa2=>?_) λa2=>?_
 rotate_left
 ·rw[show decide (1<=v.length)=false from decide_eq_false (by have:=of_decide_eq_false a2;omega)] at q
  (repeat infer_instance)
  exact q
 rw[show decide (1<=v.length)=true from decide_eq_true (by have:=of_decide_eq_true a2;omega),Q7] at q
 (repeat infer_instance)
 refine iteB (λa3=>?_) λa3=>?_
 rotate_left
 ·rw[show decide (v.length<=3)=false from decide_eq_false (by have:=of_decide_eq_false a3;omega)] at q
  (repeat infer_instance)
  exact q
 rw[show decide (v.length<=3)=true from decide_eq_true (by have:=of_decide_eq_true a3;omega),Q7] at q
 have h0:0<v.length:=by have:=of_decide_eq_true a2;omega
 have e0:Qi "0" = tx [48]:=by decide +kernel
 have hx:idxF (.str (tx v)) (.int 0)=some (.o (.str (tx [v[0]]))):=zdc (k:=0) h0 (by omega)
 (repeat first|refine⟨_,zch e0 hv (lng1 48),?_⟩|refine⟨zch e0 hv (lng1 48),?_⟩|infer_instance)
 rw[if_neg Qc]
 refine iteB (λa4=>?_) λa4=>?_
 ·rw[a4,Bool.true_or] at q
  exact q
 rw[a4,qp] at q
 (repeat first|refine⟨_,hx,?_⟩|refine⟨hx,?_⟩|refine⟨_,zch e0 (lng1 v[0] (hv.sgn _ (QQ h0))) (lng1 48),?_⟩|refine⟨zch e0 (lng1 v[0] (hv.sgn _ (QQ h0))) (lng1 48),?_⟩|infer_instance)
 rw[if_pos rfl]
 have e5:decide ([v[0]] = [48])=decide (v.head? = some 48):=by
  rw[jK,Qk h0]
  exact decide_eq_decide.mpr (by simp)
 rw[e5]
 exact q
end
section
variable {P : Program} {w : World} {K : Qa} {mg : Str → Option Value} {base : Heap} {k : Nat}
abbrev zju:Stmt:=top 17
theorem zwu:FnScope ["word"] ["word"] (zah zju):=⟨rfl,rfl,rfl,by decide +kernel,rfl,by decide +kernel,by decide +kernel⟩
theorem zhd(B:Blt mg)(zgu:Def3 P w K mg base 2 "is_letter" ["text"] (spO K (λ_=>True) 1 zpm))(zbj:Def3 P w K mg base 1 "is_number" ["word"] (spO K (λ_=>True) 1 zcu))(T:Top3 K mg "shape_of" zju):Def3 P w K mg base 3 "shape_of" ["word"] (spO K (λ_=>True) 1 zrk):=by
 refine mk_O T zwu (λ_ _ _ _ _ _ us hl=>len1 hl λ_=>rfl) rfl λf cdv A outer s H E O hφ C=>⟨_,(zad (s_if (zcv (za1 C zbj (λ_=>trivial) (zaa (zab 0) zac))) (zai (zar zag)) za2) (zai (zar (e_if (zcv (za1 C zgu (λ_=>trivial) (zaa (zab 0) zac))) zag zag)))),λds Qr hn q=>?_⟩
 obtain⟨v,rfl,hv,q⟩:=q
 (repeat infer_instance)
 refine⟨hv,?_⟩
 (repeat infer_instance)
 refine iteB (λa=>?_) λa=>?_
 ·rw[if_pos a] at q
  exact q
 rw[if_neg (by rw[a];exact Qc)] at q
 (repeat infer_instance)
 refine⟨hv,?_⟩
 (repeat infer_instance)
 refine iteB (λb=>?_) λb=>?_
 ·rw[if_pos b] at q
  exact q
 ·rw[if_neg (by rw[b];exact Qc)] at q
  exact q
end
section
variable {P : Program} {w : World} {K : Qa} {mg : Str → Option Value} {base : Heap} {k : Nat}
abbrev zjr:Stmt:=top 18
theorem zv7:FnScope ["word"] ["word"] (zah zjr):=⟨rfl,rfl,rfl,by decide +kernel,rfl,by decide +kernel,by decide +kernel⟩
theorem zht(B:Blt mg)(zbj:Def3 P w K mg base 1 "is_number" ["word"] (spO K (λ_=>True) 1 zcu))(T:Top3 K mg "value_of" zjr):Def3 P w K mg base 2 "value_of" ["word"] (spO K (λ_=>True) 1 zqw):=by
 refine mk_O T zv7 (λ_ _ _ _ _ _ us hl=>len1 hl λ_=>rfl) rfl λf cdv A outer s H E O hφ C=>⟨_,(zai (zar (e_if (zcv (za1 C zbj (λ_=>trivial) (zaa (zab 0) zac))) (zf5 C B (zaa (zab 0) zac)) (zab 0)))),λds Qr hn q=>?_⟩
 obtain⟨v,rfl,hv,q⟩:=q
 unfold thD at q
 (repeat infer_instance)
 refine⟨hv,?_⟩
 (repeat infer_instance)
 refine iteB (λa=>?_) λa=>?_
 ·rw[if_pos a] at q
  (repeat first|refine⟨_,zdr a,?_⟩|refine⟨zdr a,?_⟩|infer_instance)
  exact q
 ·rw[if_neg (by rw[a];exact Qc)] at q
  (repeat infer_instance)
  exact q
end
theorem zor{p:Nat ⊕ List Nat}(h:zin p):strF [ze7 p]=some (.o (.str (tx (zcj p)))):=by
 cases p with
 | inl n=>exact zc2 h
 | inr w=>rfl
theorem zyv{p:Nat ⊕ List Nat}(h:zin p):(zcj p).length<=100000:=by
 cases p with
 | inl n=>exact Q2 (zeg h).1 (by decide)
 | inr w=>exact h.len
section
variable {P : Program} {w : World} {K : Qa} {mg : Str → Option Value} {base : Heap} {k : Nat}
abbrev zjx:Stmt:=top 19
theorem ztu:FnScope ["parts"] ["parts"] (zah zjx):=⟨rfl,rfl,rfl,by decide +kernel,rfl,by decide +kernel,by decide +kernel⟩
theorem zhq(B:Blt mg)(T:Top3 K mg "show_row" zjx):Def3 P w K mg base 1 "show_row" ["parts"] (spO K (λ_=>True) 1 znx):=by
 refine mk_O T ztu (λ_ _ _ _ _ _ us hl=>len1 hl λ_=>rfl) rfl λf cdv A outer s H E O hφ C=>⟨_,(zai (zar (zdb C zag (zcp 1 ["part", "parts"] C (λ_ => .of rfl (by kernel_rfl)) (zi8 C (zab 0)) (zbh 0) zdh (zf1 (C.comp _ _) B (zaa (zab 0) zac)))))),λds Qr hn q=>?_⟩
 obtain⟨ps,rfl,ok,hl,q⟩:=q
 have sz:=sizeLine_eq
 (repeat infer_instance)
 refine zc0 (α:=Nat ⊕ List Nat) (enc:=ze7) (e:=λp => .str (tx (zcj p))) (λp hp P hP=>?_) (by omega) ?_
 ·(repeat infer_instance)
  refine⟨_,zor (ok p hp),hP _ rfl⟩
 rw[zez]
 have hb:∀ w ∈ ps.map zcj,w.length<=100000:=λw hw=>by
  obtain⟨p,hp,rfl⟩:=Qz.mp hw
  exact zyv (ok p hp)
 have ht:=zfu hb
 rw[Qe] at ht
 have:=Jx (100000+1) hl
 obtain⟨ys,y1,y2,y3⟩:=zfw (c:=32) (ws:=ps.map zcj) (by omega)
 rw[show tsD (ps.map zcj)=ps.map λp=>QX (tx (zcj p)) from Q5 ..] at y1
 refine⟨ys,y1,y2,?_⟩
 rw[y3]
 exact q
end
theorem z3l(ps:List Prt):flat (psD ps)=true:=by
 show flats (ps.map ze7)=true
 exact zav (λp=>by cases p <;> rfl) _
section
variable {P : Program} {w : World} {K : Qa} {mg : Str → Option Value} {base : Heap} {k : Nat}
abbrev zhz:Stmt:=top 20
theorem zpy:FnScope ["house", "rows", "rooms", "rules"] ["house"] (zah zhz):=⟨rfl,rfl,rfl,by decide +kernel,rfl,by decide +kernel,by decide +kernel⟩
theorem zgi(B:Blt mg)(gHEADS:Glo K mg "HEADS" (.tuple (((["letters", "lines", "flags"]:List Str)).map .str)))(zhq:Def3 P w K mg base 1 "show_row" ["parts"] (spO K (λ_=>True) 1 znx))(T:Top3 K mg "show_house" zhz):Def3 P w K mg base 2 "show_house" ["house"] (spO K (λ_=>True) 1 zuy):=by
 refine mk_O T zpy (λ_ _ _ _ _ _ us hl=>len1 hl λ_=>rfl) rfl λf cdv A outer s H E O hφ C=>⟨_,(zad (zao 1 (zvu C B (zaa (zne C gHEADS) (zaa (zbi C (zab 0) zcg (zbk zae)) zac)))) (zad (zfp C (zel (zi8 C (zan C (zab 0) zae))) (znh (h:=1000) C (zdp 2 (zdp 3 zkl))) (zad (zkp 1 C (zba (zaa zag (zaa (zab 2) zac)))) (zai (yb1 1 C (zcp 3 ["p", "deed", "q", "house", "rows", "rooms", "rules"] C (λ_ => .of rfl (by kernel_rfl)) (zi8 C (zab 3)) (znh (C.comp _ _) (zdp 0 (zdp 1 (zdp 2 zkl)))) zdh (zaw (C.comp _ _) (zaw (C.comp _ _) (zba (zaa (zab 0) zac)) (zab 1)) (zba (zaa (zab 2) zac)))))))) (zai (zar (zdb C zag (zcp 1 ["row", "house", "rows", "rooms", "rules"] C (λ_ => .of rfl (by kernel_rfl)) (zg5 C (zab 1)) (zbh 0) zdh (za1 (C.comp _ _) zhq (λ_=>trivial) (zaa (zab 0) zac)))))))),λds Qr hn q=>?_⟩
 obtain⟨h,rfl,ok,hl,q⟩:=q
 have sz:=sizeLine_eq
 have pk:=zu8 ok (Q2 z6n hl.len)
 have pl:=z3b (h:=h)
 have hl':=hl.len
 have pre:∀ j,j<=h.hands.length->(zgf h++((h.hands.take j).map zcq).flatten).length<=(psH h).length:=λj _=>by
  unfold psH
  rw[Qf,Qf]
  have:(h.hands.map zcq).flatten=((h.hands.take j).map zcq).flatten++((h.hands.drop j).map zcq).flatten:=by
   rw[<- Jb,<- QA,jR]
  rw[this,Qf]
  omega
 (repeat infer_instance)
 refine zb4 (λj ρ=>∃ (o2 o3:Option DV),ρ = [some (.im (zda h)),some (.own ((zgf h++((h.hands.take j).map zcq).flatten).map psD)),o2,o3]) ⟨none,none,?_⟩ (λρ zz=>?_) λj d ρ N hd hN zz=>?_
 ·show[some (DV.im (zda h)),some (DV.own [.tuple [.str (Qi "letters"),.str (tx h.ls)],.tuple [.str (Qi "lines"),.int (h.lines:Nat)],.tuple [.str (Qi "flags"),.int (h.flags:Nat)]]),none,none]=_
  rw[zb3 "letters", zb3 "lines", zb3 "flags"]
  rfl
 ·obtain⟨o2,o3,e⟩:=zz
  subst e
  rw[Qe,YA]
  refine⟨_,rfl,_,_,rfl,rfl,_,rfl,?_⟩
  refine zc0 (α:=List Prt) (enc:=psD) (e:=λps => .str (tx (zat 32 (ps.map zcj)))) (λps hp P hP=>?_) (by show(psH h).length<=_;omega) ?_
  ·(repeat infer_instance)
   exact⟨(pk ps hp).1,(pk ps hp).2,hP _ rfl⟩
  rw[zgy]
  have el:(psH h).map (λps=>zat 32 (ps.map zcj))=za0 h:=by
   unfold za0
   rw[<- zrx,Q5]
   rfl
  have tot:totW (za0 h)<=16777216:=by
   have:=zcm (c:=10) (ws:=za0 h) (by unfold za0 zbn;simp)
   have:(zbp h).length+1=totW (za0 h):=this
   omega
  obtain⟨ys,y1,y2,y3⟩:=zfw (c:=10) (ws:=za0 h) tot
  rw[<- el,show tsD ((psH h).map λps=>zat 32 (ps.map zcj))=(psH h).map λps=>QX (tx (zat 32 (ps.map zcj))) from Q5 ..] at y1
  refine⟨ys,y1,y2,?_⟩
  rw[y3]
  exact q
 ·obtain⟨o2,o3,e⟩:=zz
  subst e
  rw[Q4] at hd
  obtain⟨x,hx,rfl⟩:=QV.mp hd
  obtain⟨hj,ex⟩:=QE.mp hx
  have hxm:x ∈ h.hands:=Zl hx
  have p1:=pre j (Jj hj)
  have p2:=pre (j+1) hj
  have tk:h.hands.take (j+1)=h.hands.take j ++ [x]:=by rw[zo,hx];rfl
  rw[tk,QA,Jb,<- Qw] at p2
  have e2:(([x]:List Hnd).map zcq).flatten = [.inr (cds "hand"),.inl x.n]::x.rs.map zd3:=by
   show zcq x ++ []=_
   rw[QU]
   rfl
  rw[e2,Qf,Qy,Qe] at p2
  refine⟨zgx x,?_⟩
  (repeat infer_instance)
  refine⟨by rw[Qe];omega,?_⟩
  (repeat infer_instance)
  refine zo4 (α:=Rul) (as:=x.rs) (enc:=zbm) (e:=λr=>psD (zd3 r)) (λr hr P hP=>?_) zrj (by omega) ?_
  ·(repeat first|refine⟨_,(zni r).1,?_⟩|refine⟨(zni r).1,?_⟩|refine⟨_,(zni r).2,?_⟩|refine⟨(zni r).2,?_⟩|infer_instance)
   exact hP _ rfl
  have fin:(zgf h++((h.hands.take j).map zcq).flatten).map psD ++ [JC [.str (Qi "hand"),.int (x.n:Nat)]]++x.rs.map (λr=>psD (zd3 r))=(zgf h++((h.hands.take (j+1)).map zcq).flatten).map psD:=by
   rw[tk,QA (f:=zcq),Jb,<- Qw,e2,QA (f:=psD) (l₁:=zgf h++((h.hands.take j).map zcq).flatten),Q3,Q5,Qw _ [JC _],zb3 "hand"]
   rfl
  refine⟨_,rfl,zav (λr=>z3l _) _,?_,hN _ ⟨some (.im (.int (x.n:Nat))),some (.im (.tuple (x.rs.map zbm))),?_⟩⟩
  ·rw[Qf,Qe,Qe]
   show _+1+_<=_
   omega
  ·rw[<- fin]
   rfl
end
theorem zoi{i:Nat}(h:i<3):idxF (.tuple ((["letters", "lines", "flags"]:List Str).map .str)) (.int (i:Nat))=some (.o (.str (tx (zcn i)))):=by
 match i,h with
 | 0,_=>exact(by decide +kernel:Qi "letters" = tx (zcn 0)) ▸ rfl
 | 1,_=>exact(by decide +kernel:Qi "lines" = tx (zcn 1)) ▸ rfl
 | 2,_=>exact(by decide +kernel:Qi "flags" = tx (zcn 2)) ▸ rfl
theorem zog{i:Nat}(h:i<3):Lng (zcn i):=by
 match i,h with
 | 0,_=>exact zce (by decide +kernel)
 | 1,_=>exact zce (by decide +kernel)
 | 2,_=>exact zce (by decide +kernel)
theorem zou:Qi "" = tx []:=by decide +kernel
theorem zrl:Lng []:=⟨by decide,λc h=>(Qo h).elim⟩
section
variable {P : Program} {w : World} {K : Qa} {mg : Str → Option Value} {base : Heap} {k : Nat}
abbrev zlu:Stmt:=top 21
theorem zw8:FnScope ["words", "at"] ["words", "at"] (zah zlu):=⟨rfl,rfl,rfl,by decide +kernel,rfl,by decide +kernel,by decide +kernel⟩
theorem zh7(B:Blt mg)(gHEADS:Glo K mg "HEADS" (.tuple (((["letters", "lines", "flags"]:List Str)).map .str)))(zfg:Def3 P w K mg base 2 "is_alphabet" ["text"] (spO K (λ_=>True) 1 zvn))(zbj:Def3 P w K mg base 1 "is_number" ["word"] (spO K (λ_=>True) 1 zcu))(T:Top3 K mg "is_head" zlu):Def3 P w K mg base 3 "is_head" ["words", "at"] (spO K (λ_=>True) 2 zw0):=by
 refine mk_O T zw8 (λ_ _ _ _ _ _ us hl=>len2 hl λ_ _=>rfl) rfl λf cdv A outer s H E O hφ C=>⟨_,(zad (s_if (t_w (w_or (t_ne C (za9 C B (zaa (zab 0) zac)) zae) (zfs (t_ne C (zan C (zab 0) zae) (zan C (zne C gHEADS) (zab 1)))))) (zai (zar e_bl)) za2) (zad (s_if (t_eq C (zab 1) zae) (zai (zar (zb6 (e_ne C (zan C (zab 0) zae) zag) (zc8 (za1 C zfg (λ_=>trivial) (zaa (zan C (zab 0) zae) zac)))))) za2) (zai (zar (za1 C zbj (λ_=>trivial) (zaa (zan C (zab 0) zae) zac)))))),λds Qr hn q=>?_⟩
 obtain⟨ws,i,rfl,⟨h0,hl,hw⟩,hi,q⟩:=q
 unfold zbx at q
 (repeat first|refine⟨_,zaz ws,?_⟩|refine⟨zaz ws,?_⟩|infer_instance)
 rw[show(!decide ((ws.length:Int)=2)) = !decide (ws.length=2) from congrArg _ (decide_eq_decide.mpr ⟨λh=>by omega,λh=>by omega⟩)]
 refine iteB (λa1=>?_) λa1=>?_
 ·rw[zgo a1] at q
  (repeat infer_instance)
  exact q
 rw[zfj a1,Q7] at q
 have l2:=of_decide_eq_true (zfj a1)
 (repeat first|refine⟨_,zal (i:=0) h0,?_⟩|refine⟨zal (i:=0) h0,?_⟩|refine⟨_,zoi hi,?_⟩|refine⟨zoi hi,?_⟩|refine⟨_,znr (zbv hw 0) (zog hi),?_⟩|refine⟨znr (zbv hw 0) (zog hi),?_⟩|infer_instance)
 rw[if_pos rfl]
 refine iteB (λa2=>?_) λa2=>?_
 ·rw[zgo a2] at q
  (repeat infer_instance)
  exact q
 rw[zfj a2,Q7] at q
 (repeat infer_instance)
 rw[show decide ((i:Int)=0)=decide (i=0) from decide_eq_decide.mpr ⟨λh=>by omega,λh=>by omega⟩]
 refine iteB (λa3=>?_) λa3=>?_
 ·rw[if_pos (of_decide_eq_true a3)] at q
  (repeat first|refine⟨_,zal (i:=1) (show 1<ws.length by omega),?_⟩|refine⟨zal (i:=1) (show 1<ws.length by omega),?_⟩|refine⟨_,zch zou (zbv hw 1) zrl,?_⟩|refine⟨zch zou (zbv hw 1) zrl,?_⟩|infer_instance)
  rw[if_pos rfl]
  refine iteB (λa4=>?_) λa4=>?_
  ·rw[a4,Q7] at q
   (repeat first|refine⟨_,zal (i:=1) (show 1<ws.length by omega),?_⟩|refine⟨zal (i:=1) (show 1<ws.length by omega),?_⟩|infer_instance)
   exact⟨zbv hw 1,q⟩
  ·rw[a4] at q
   exact q
 ·rw[if_neg (of_decide_eq_false a3)] at q
  (repeat first|refine⟨_,zal (i:=1) (show 1<ws.length by omega),?_⟩|refine⟨zal (i:=1) (show 1<ws.length by omega),?_⟩|infer_instance)
  exact⟨zbv hw 1,q⟩
end
theorem zr2:Qi "hand" = tx (cds "hand"):=zb3 _
theorem zmv:Lng (cds "hand"):=zce (by decide +kernel)
section
variable {P : Program} {w : World} {K : Qa} {mg : Str → Option Value} {base : Heap} {k : Nat}
abbrev zl4:Stmt:=top 22
theorem zxz:FnScope ["words"] ["words"] (zah zl4):=⟨rfl,rfl,rfl,by decide +kernel,rfl,by decide +kernel,by decide +kernel⟩
theorem zim(B:Blt mg)(zbj:Def3 P w K mg base 1 "is_number" ["word"] (spO K (λ_=>True) 1 zcu))(T:Top3 K mg "is_hand" zl4):Def3 P w K mg base 2 "is_hand" ["words"] (spO K (λ_=>True) 1 ztj):=by
 refine mk_O T zxz (λ_ _ _ _ _ _ us hl=>len1 hl λ_=>rfl) rfl λf cdv A outer s H E O hφ C=>⟨_,(zai (zar (zb6 (e_eq C (za9 C B (zaa (zab 0) zac)) zae) (zb6 (e_eq C (zan C (zab 0) zae) zag) (zc8 (za1 C zbj (λ_=>trivial) (zaa (zan C (zab 0) zae) zac))))))),λds Qr hn q=>?_⟩
 obtain⟨ws,rfl,⟨h0,hl,hw⟩,q⟩:=q
 unfold zbf at q
 (repeat first|refine⟨_,zaz ws,?_⟩|refine⟨zaz ws,?_⟩|infer_instance)
 rw[show decide ((ws.length:Int)=2)=decide (ws.length=2) from decide_eq_decide.mpr ⟨λh=>by omega,λh=>by omega⟩]
 refine iteB (λa1=>?_) λa1=>?_
 rotate_left
 ·rw[a1] at q
  exact q
 rw[a1,Q7] at q
 have l2:=of_decide_eq_true a1
 (repeat first|refine⟨_,zal (i:=0) h0,?_⟩|refine⟨zal (i:=0) h0,?_⟩|refine⟨_,zch zr2 (zbv hw 0) zmv,?_⟩|refine⟨zch zr2 (zbv hw 0) zmv,?_⟩|infer_instance)
 rw[if_neg Qc]
 refine iteB (λa2=>?_) λa2=>?_
 rotate_left
 ·rw[a2] at q
  exact q
 rw[a2,Q7] at q
 (repeat first|refine⟨_,zal (i:=1) (show 1<ws.length by omega),?_⟩|refine⟨zal (i:=1) (show 1<ws.length by omega),?_⟩|infer_instance)
 exact⟨zbv hw 1,q⟩
end
theorem z9e{w:List Nat}{s:String}:(tx w == (Qi s))=decide (w=cds s):=by
 rw[zb3 s]
 by_cases h:w=cds s
 ·subst h;rw[beq_self_eq_true,decide_eq_true rfl]
 ·rw[decide_eq_false h]
  exact beq_eq_false_iff_ne.mpr λz=>h (zib z)
theorem ztx(w:List Nat):([("go", "0"),("send", "0a0"),("take", "0a0"),("empty", "00"),("set", "000"),("if", "000")]:List (Str × Str)).lookup (tx w)=(zay w).map tx:=by
 unfold zay
 have step:∀ (s:String) (v:Str) (l:List (Str × Str)),((Qi s,v)::l).lookup (tx w)=if w=cds s then some v else l.lookup (tx w):=by
  intro s v l
  rw[Jl,z9e]
  by_cases h:w=cds s
  ·rw[if_pos h,decide_eq_true h]
  ·rw[if_neg h,decide_eq_false h]
 rw[step,step,step,step,step,step]
 have e1:(Qi "0")=tx [48]:=by decide +kernel
 have e2:(Qi "0a0")=tx [48,97,48]:=by decide +kernel
 have e3:(Qi "00")=tx [48,48]:=by decide +kernel
 have e4:(Qi "000")=tx [48,48,48]:=by decide +kernel
 rw[e1,e2,e3,e4]
 split
 ·rfl
 split
 ·rfl
 split
 ·rfl
 split
 ·rfl
 split
 ·rfl
 split
 ·rfl
 ·rfl
theorem zxt(w:List Nat):(if zak w=true then Qi "0" else if(decide (w.length=1) && lowB w)=true then Qi "a" else Qi "?")=tx [shC w]:=by
 unfold shC
 split
 ·decide +kernel
 ·split
  ·decide +kernel
  ·decide +kernel
theorem zmd(ws:List (List Nat)):(ws.map λw => [shC w]).flatten=ws.map shC:=by
 induction ws with
 | nil=>rfl
 | cons w ws ih=>rw[Q3,ZB,ih];rfl
theorem yat(w:List Nat):shC w<128:=by
 unfold shC
 split
 ·decide
 ·split <;> decide
theorem zs7{w s:List Nat}(h:zay w=some s):s.length<=3/\Lng s:=by
 unfold zay at h
 split at h
 ·cases h;exact⟨by decide,zce (by decide +kernel)⟩
 split at h
 ·cases h;exact⟨by decide,zce (by decide +kernel)⟩
 split at h
 ·cases h;exact⟨by decide,zce (by decide +kernel)⟩
 split at h
 ·cases h;exact⟨by decide,zce (by decide +kernel)⟩
 split at h
 ·cases h;exact⟨by decide,zce (by decide +kernel)⟩
 split at h
 ·cases h;exact⟨by decide,zce (by decide +kernel)⟩
 ·cases h
section
variable {P : Program} {w : World} {K : Qa} {mg : Str → Option Value} {base : Heap} {k : Nat}
abbrev zgb:Stmt:=top 23
theorem zna:FnScope ["words"] ["words"] (zah zgb):=⟨rfl,rfl,rfl,by decide +kernel,rfl,by decide +kernel,by decide +kernel⟩
theorem zed(B:Blt mg)(gSHAPES:GDct K w mg "SHAPES" [("go", "0"),("send", "0a0"),("take", "0a0"),("empty", "00"),("set", "000"),("if", "000")])(zbj:Def3 P w K mg base 1 "is_number" ["word"] (spO K (λ_=>True) 1 zcu))(zhd:Def3 P w K mg base 3 "shape_of" ["word"] (spO K (λ_=>True) 1 zrk))(T:Top3 K mg "is_row_of_rule" zgb):Def3 P w K mg base 4 "is_row_of_rule" ["words"] (spO K (λ_=>True) 1 z0l):=by
 refine mk_O T zna (λ_ _ _ _ _ _ us hl=>len1 hl λ_=>rfl) rfl λf cdv A outer s H E O hφ C=>⟨_,(zad (s_if (t_w (w_or (t_lt (za9 C B (zaa (zab 0) zac)) zae) (w_or (zfi (zcv (za1 C zbj (λ_=>trivial) (zaa (zan C (zab 0) zae) zac)))) (zfs (z7e C gSHAPES (zan C (zab 0) zae)))))) (zai (zar e_bl)) za2) (zai (zar (e_eq C (zdb C zag (zcp 1 ["word", "words"] C (λ_ => .of rfl (by kernel_rfl)) (zg5 C (zbi C (zab 0) (zbk zae) zcg)) (zbh 0) zdh (za1 (C.comp _ _) zhd (λ_=>trivial) (zaa (zab 0) zac)))) (z7s C gSHAPES (zan C (zab 0) zae)))))),λds Qr hn q=>?_⟩
 obtain⟨ws,rfl,⟨h0,hl,hw⟩,q⟩:=q
 have sz:=sizeLine_eq
 unfold zbr at q
 (repeat first|refine⟨_,zaz ws,?_⟩|refine⟨zaz ws,?_⟩|infer_instance)
 refine iteB (λa1=>?_) λa1=>?_
 ·rw[show decide (2<=ws.length)=false from decide_eq_false (by have:=of_decide_eq_true a1;omega)] at q
  (repeat infer_instance)
  exact q
 have l2:2<=ws.length:=by have:=of_decide_eq_false a1;omega
 rw[decide_eq_true l2,Q7] at q
 (repeat first|refine⟨_,zal (i:=0) h0,?_⟩|refine⟨zal (i:=0) h0,?_⟩|infer_instance)
 refine⟨zbv hw 0,?_⟩
 (repeat infer_instance)
 refine iteB (λa2=>?_) λa2=>?_
 ·rw[zgo a2] at q
  (repeat infer_instance)
  exact q
 rw[zfj a2,Q7] at q
 (repeat first|refine⟨_,zal (i:=1) (show 1<ws.length by omega),?_⟩|refine⟨zal (i:=1) (show 1<ws.length by omega),?_⟩|infer_instance)
 rw[ztx,qL]
 refine iteB (λa3=>?_) λa3=>?_
 ·have hn:zay (ws.getD 1 [])=none:=by
   cases h:zay (ws.getD 1 []) with
   | none=>rfl
   | some s=>rw[h] at a3;cases a3
  rw[hn,show decide ((none:Option (List Nat))=some ((ws.drop 2).map shC))=false from decide_eq_false (λz=>by cases z)] at q
  (repeat infer_instance)
  exact q
 obtain⟨s,hs⟩:∃ s,zay (ws.getD 1 [])=some s:=by
  cases h:zay (ws.getD 1 []) with
  | none=>rw[h] at a3;cases a3
  | some s=>exact⟨s,rfl⟩
 obtain⟨hs1,hs2⟩:=zs7 hs
 have hd:∀ w ∈ ws.drop 2,Lng w:=λw h=>hw w (YI h)
 (repeat first|refine⟨_,cut2 ws,?_⟩|refine⟨cut2 ws,?_⟩|infer_instance)
 refine zc0 (α:=List Nat) (enc:=λw => .str (tx w)) (e:=λw => .str (tx [shC w])) (λw h1 P hP=>?_) (by rw[Z1];omega) ?_
 ·(repeat infer_instance)
  refine⟨hd w h1,?_⟩
  rw[zxt]
  exact hP _ rfl
 obtain⟨ys,y1,y2,y3⟩:=z4w ((ws.drop 2).map λw => [shC w]) (by rw[zmd,Qe,Z1];omega)
 rw[Q5] at y1
 refine⟨ys,y1,y2,?_⟩
 rw[y3,zmd]
 (repeat first|refine⟨_,zal (i:=1) (show 1<ws.length by omega),?_⟩|refine⟨zal (i:=1) (show 1<ws.length by omega),?_⟩|infer_instance)
 refine⟨_,tx s,rfl,by rw[ztx,hs];rfl,_,znr ⟨by rw[Qe,Z1];omega,λc hc=>by obtain⟨w,_,rfl⟩:=Qz.mp hc;exact yat w⟩ hs2,?_⟩
 rw[if_neg Qc]
 rw[hs] at q
 rw[show decide ((ws.drop 2).map shC=s)=decide (some s=some ((ws.drop 2).map shC)) from decide_eq_decide.mpr ⟨λh=>by rw[h],λh=>(Zy h).symm⟩]
 exact q
end
theorem zys{ws:List (List Nat)}(h:zbr ws=true):3<=ws.length/\ws.length<=5:=by
 unfold zbr at h
 simp only[Qp,decide_eq_true_eq] at h
 obtain⟨h1,_,h3⟩:=h
 have key:∀ s,zay (ws.getD 1 [])=some s->1<=s.length/\s.length<=3:=by
  intro s hs
  unfold zay at hs
  repeat (split at hs; · cases hs;exact⟨by decide,by decide⟩)
  cases hs
 have:=key _ h3
 rw[Qe,Z1] at this
 omega
theorem z2w{α:Type}(xs:List α)(h:2<=xs.length):cutL xs (some 1) (some (-1))=(xs.drop 1).dropLast:=by
 have a:=zeb xs.length 0 1
 have b:=zeb xs.length xs.length (-1)
 rw[if_neg (by omega)] at a
 rw[if_pos (by omega)] at b
 have a':HT.sIx xs.length 0 (some 1)=1:=by omega
 have b':HT.sIx xs.length xs.length (some (-1))=xs.length - 1:=by omega
 unfold cutL
 rw[a',b',List.dropLast_eq_take,Z1]
section
variable {P : Program} {w : World} {K : Qa} {mg : Str → Option Value} {base : Heap} {k : Nat}
abbrev zlp:Stmt:=top 24
theorem zyj:FnScope ["words", "values"] ["words"] (zah zlp):=⟨rfl,rfl,rfl,by decide +kernel,rfl,by decide +kernel,by decide +kernel⟩
theorem ziu(B:Blt mg)(zht:Def3 P w K mg base 2 "value_of" ["word"] (spO K (λ_=>True) 1 zqw))(T:Top3 K mg "rule_of" zlp):Def3 P w K mg base 3 "rule_of" ["words"] (spO K (λ_=>True) 1 zue):=by
 refine mk_O T zyj (λ_ _ _ _ _ _ us hl=>len1 hl λ_=>rfl) rfl λf cdv A outer s H E O hφ C=>⟨_,(zad (zao 1 (zd7 C B (zaa (zcp 1 ["word", "words", "values"] C (λ_ => .of rfl (by kernel_rfl)) (zg5 C (zab 0)) (zbh 0) zdh (za1 (C.comp _ _) zht (λ_=>trivial) (zaa (zab 0) zac))) zac))) (zai (zar (zba (zaa (zan C (zab 1) zae) (zaa (zbi C (zab 1) (zbk zae) (zbk zfm)) (zaa (zan C (zab 1) zfm) zac))))))),λds Qr hn q=>?_⟩
 obtain⟨ws,rfl,⟨h0,hl,hw⟩,ok,q⟩:=q
 obtain⟨l3,l5⟩:=zys ok
 have sz:=sizeLine_eq
 have ti:∀ i,i<ws.length->idxF (.tuple (ws.map thD)) (.int (i:Nat))=some (.o (thD (ws.getD i []))):=λi hi=>z4m (by rw[Q4,zdw (z := []) hi];rfl)
 (repeat infer_instance)
 refine zc0 (α:=List Nat) (enc:=λw => .str (tx w)) (e:=thD) (λw h1 P hP=>?_) (by omega) ?_
 ·(repeat infer_instance)
  exact⟨hw w h1,hP _ rfl⟩
 have fl:flats (ws.map thD)=true:=zav (λw=>by unfold thD;split <;> rfl) _
 have e1:slcF (some 1) (some (-1)) (.tuple (ws.map thD))=some (.o (.tuple (((ws.drop 1).dropLast).map thD))):=by
  show some (R.o (.tuple (cutL (ws.map thD) (some 1) (some (-1)))))=_
  rw[z2w _ (by rw[Qe];omega),<- ql,List.map_dropLast]
 have e2:idxF (.tuple (ws.map thD)) (.int (-1))=some (.o (thD (ws.getD (ws.length - 1) []))):=by
  show(atI (ws.map thD) (-1)).map R.o=_
  unfold atI ixN
  rw[if_neg (by omega),Qe,if_pos (by omega)]
  show Option.map R.o ((ws.map thD)[((-1:Int)+ws.length).toNat]?)=_
  rw[show((-1:Int)+ws.length).toNat=ws.length - 1 by omega,Q4,zdw (z := []) (show ws.length - 1<ws.length by omega)]
  rfl
 refine⟨_,rfl,fl,?_⟩
 (repeat first|refine⟨_,ti 0 (by omega),?_⟩|refine⟨ti 0 (by omega),?_⟩|refine⟨_,e1,?_⟩|refine⟨e1,?_⟩|refine⟨_,e2,?_⟩|refine⟨e2,?_⟩|infer_instance)
 exact q
end
abbrev htD(hs:HL):PyData := .list (hs.map λx => .tuple [.int (x.1:Nat),.list x.2])
theorem zvv(ks:HL)(n:Nat)(ds:List PyData):((ks ++ [(n,ds)]).map λx=>JC [.int (x.1:Nat),.list x.2])[ks.length]? = some (.tuple [.int (n:Nat),.list ds]):=by
 rw[Q4,ZF (Qt _),Nat.sub_self]
 rfl
theorem zvs(ks:HL)(n:Nat)(ds:List PyData)(x:PyData):dset (htD (ks ++ [(n,ds)])) ([] ++ [ks.length] ++ [1]) (.list (ds ++ [x]))=htD (ks ++ [(n,ds ++ [x])]):=by
 show dset (.list _) (ks.length :: [1]) _=_
 rw[dset,zvv]
 show Zo (List.set _ ks.length (.tuple [.int (n:Nat),.list (ds ++ [x])]))=_
 unfold htD
 rw[QA,QA,List.set_append_right _ _ (by rw[Qe];exact Qt _),Qe,Nat.sub_self]
 rfl
theorem zqc(ws:List (List Nat)):flat (zf2 ws)=true:=by
 have ft:∀ w,flat (thD w)=true:=λw=>by unfold thD;split <;> rfl
 show(flat (thD _) && (flats (((ws.drop 1).dropLast).map thD) && (flat (thD _) && true)))=true
 rw[ft,ft,zav ft]
 rfl
section
variable {P : Program} {w : World} {K : Qa} {mg : Str → Option Value} {base : Heap} {k : Nat}
abbrev zhu:Stmt:=top 25
theorem zpx:FnScope ["rows", "hands", "at"] ["rows"] (zah zhu):=⟨rfl,rfl,rfl,by decide +kernel,rfl,by decide +kernel,by decide +kernel⟩
theorem zgg(B:Blt mg){ea:EA}(EC:ErrC K mg ea)(rNoText:zi2 K ea)(gHEADS:Glo K mg "HEADS" (.tuple (((["letters", "lines", "flags"]:List Str)).map .str)))(zim:Def3 P w K mg base 2 "is_hand" ["words"] (spO K (λ_=>True) 1 ztj))(zed:Def3 P w K mg base 4 "is_row_of_rule" ["words"] (spO K (λ_=>True) 1 z0l))(ziu:Def3 P w K mg base 3 "rule_of" ["words"] (spO K (λ_=>True) 1 zue))(T:Top3 K mg "read_hands" zhu):Def3x P w K mg base 5 "read_hands" ["rows"] (spX K mg (λ_=>True) 1 zj2):=by
 obtain⟨fNoText,mNoText,iNoText⟩:=rNoText.init
 obtain⟨fdNoText,psNoText,FNoText,BNoText⟩:=znz (P:=P) (w:=w) (mg:=mg) (base:=base) iNoText
 refine z0x T zpx (λ_ _ _ _ _ _ us hl=>len1 hl λ_=>rfl) rfl λf cdv A outer s H E O hφ Bd C=>⟨_,(zi5 (x_of (ya3 1 (zk1 (zbz zac)))) (zi5 (z0u Bd rfl (zel (i_r2 C B (zaa (za9 C B (zaa (zne C gHEADS) zac)) (zaa (za9 C B (zaa (zab 0) zac)) zac)))) (zbh (h:=1000) 2) (zg7 (x_if (zcv (za1 C zim (λ_=>trivial) (zaa (zan C (zab 0) (zab 2)) zac))) (znn (zai (zu4 1 C (zz1 1) (yby (zqv (zk1 (zf5 C B (zaa (zan C (zan C (zab 0) (zab 2)) zae) zac))) (zqv (zk1 (zbz zac)) yav)))))) (zg7 (x_if (t_w (z0g (ybb C (zuc 1)) (zvd (zcv (za1 C zed (λ_=>trivial) (zaa (zan C (zab 0) (zab 2)) zac)))))) (znn (zai (zu4 1 C (l_ix C (l_ix C (zz1 1) zfm) zae) (zk1 (za1 C ziu (λ_=>trivial) (zaa (zan C (zab 0) (zab 2)) zac)))))) (zg7 (zro Bd rfl rfl rfl rfl rfl rfl mNoText FNoText ((C.room ()).mono (by decide)) BNoText (by decide) EC.nt (zaa (zab 2) zac)))))))) (znn (zai (zar (zd7 C B (zaa (zcp 2 ["rooms", "rules", "rows", "hands", "at"] C (λ_ => .of rfl (by kernel_rfl)) (zg5 C (zuc 1)) (znh (C.comp _ _) (zdp 0 (zdp 1 zkl))) zdh (zba (zaa (zab 0) (zaa (zd7 (C.comp _ _) B (zaa (zab 1) zac)) zac)))) zac))))))),λds Qr hn q=>?_⟩
 obtain⟨rs,rfl,ok,hl,h3,q⟩:=q
 have sz:=sizeLine_eq
 have lr:(rs.map rwD).length=rs.length:=Qe ..
 (repeat infer_instance)
 refine⟨⟨by decide,by decide,by omega,by omega⟩,rfl,?_⟩
 rw[lr,show((rs.length:Int) - ((["letters", "lines", "flags"]:List Str).map QX).length).toNat=rs.length - 3 by show((rs.length:Int) - (3:Nat)).toNat=_;omega]
 refine zb4 (λj ρ=>∃ (o2:Option DV) (hs:HL),ρ = [some (.im (.list (rs.map rwD))),some (.thg (OwnT (htD hs))),o2]/\hs.length<=j/\(∀ x ∈ hs,x.2.length<=j)/\za4 (3+j) hs (rs.drop (3+j))=za4 3 [] (rs.drop 3)) ⟨none,[],rfl,QO _,λx h=>(Qo h).elim,rfl⟩ (λρ zz=>?_) λj d ρ N hd hN zz=>?_
 ·obtain⟨o2,hs,e,h1,h2,g⟩:=zz
  subst e
  rw[zc3] at h1 h2 g
  rw[show 3+(rs.length - 3)=rs.length by omega,JT] at g
  have g:Yi hs=za4 3 [] (rs.drop 3):=g
  rw[<- g] at q
  (repeat infer_instance)
  refine zo4 (α:=Nat × List PyData) (as:=hs) (enc:=λx => .tuple [.int (x.1:Nat),.list x.2]) (e:=λx => .tuple [.int (x.1:Nat),.tuple x.2]) (λx hx P hP=>?_) zrj (by omega) ?_
  ·(repeat infer_instance)
   exact hP _ rfl
  ·(repeat infer_instance)
   exact q
 ·obtain⟨o2,hs,e,h1,h2,g⟩:=zz
  subst e
  obtain⟨hj,rfl⟩:=zcc hd
  have hj2:3+j<rs.length:=by omega
  refine⟨rfl,?_⟩
  have ix:=zeq hj2
  have wo:=ok _ (zdl (z := []) hj2)
  rw[zjb (zdw (z := []) hj2),za4] at g
  (repeat first|refine⟨_,ix,?_⟩|refine⟨ix,?_⟩|infer_instance)
  refine⟨wo,?_⟩
  (repeat infer_instance)
  refine iteB (λa1=>?_) λa1=>?_
  ·rw[if_pos a1] at g
   have l2:1<(rs.getD (3+j) []).length:=by
    unfold zbf at a1
    simp only[Qp,decide_eq_true_eq] at a1
    omega
   have hn:zak ((rs.getD (3+j) []).getD 1 [])=true:=by
    unfold zbf at a1
    simp only[Qp] at a1
    exact a1.2.2
   (repeat first|refine⟨_,ix,?_⟩|refine⟨ix,?_⟩|refine⟨_,zal (i:=1) l2,?_⟩|refine⟨zal (i:=1) l2,?_⟩|refine⟨_,zdr hn,?_⟩|refine⟨zdr hn,?_⟩|infer_instance)
   refine⟨by rw[Qe];omega,hN _ ⟨some (.im (.int ((3+j:Nat):Int))),hs ++ [(valW ((rs.getD (3+j) []).getD 1 []),[])],?_,by rw[Qf];exact za h1,λx hx=>?_,g⟩⟩
   ·show[some (DV.im (.list (rs.map rwD))),some (DV.thg (OwnT (.list ((hs.map λx=>JC [.int (x.1:Nat),.list x.2]) ++ [_])))),_]=_
    rw[show htD (hs ++ [(valW ((rs.getD (3+j) []).getD 1 []),[])]) = .list ((hs.map λx=>JC [.int (x.1:Nat),.list x.2]) ++ [.tuple [.int (valW ((rs.getD (3+j) []).getD 1 []):Nat),.list []]]) by unfold htD;rw[QA];rfl]
    rfl
   ·rcases Qx.mp hx with hx|hx
    ·exact jv (h2 x hx)
    ·rw[Qu.mp hx];exact QO _
  ·rw[if_neg (by rw[a1];exact Qc)] at g
   (repeat infer_instance)
   rw[show(!(hs.map λx=>JC [.int (x.1:Nat),.list x.2]).isEmpty) = !hs.isEmpty by cases hs <;> rfl]
   refine iteB (λa2=>?_) λa2=>?_
   rotate_left
   ·rw[a2,QD,if_neg Qc] at g
    rw[<- g] at q
    (repeat infer_instance)
    exact q
   rw[a2,Q7] at g
   (repeat first|refine⟨_,ix,?_⟩|refine⟨ix,?_⟩|infer_instance)
   refine⟨wo,?_⟩
   (repeat infer_instance)
   refine iteB (λa3=>?_) λa3=>?_
   rotate_left
   ·rw[if_neg (by rw[a3];exact Qc)] at g
    rw[<- g] at q
    (repeat infer_instance)
    exact q
   rw[if_pos a3] at g
   obtain⟨ks,⟨n,ds⟩,rfl⟩:∃ ks x,hs=ks ++ [x]:=by
    rcases jS hs with rfl|⟨l,x,rfl⟩
    ·cases a2
    ·exact⟨l,x,by rw[List.concat_eq_append]⟩
   rw[zeo] at g
   have hd:ds.length<=j:=h2 (n,ds) (by simp)
   have lk:(ks ++ [(n,ds)]).length=ks.length+1:=by rw[Qf];rfl
   refine⟨_,rfl,?_⟩
   refine⟨-1,_,ks.length,.tuple [.int (n:Nat),.list ds],by simp[flat],rfl,rfl,?_,zvv ks n ds,?_⟩
   ·unfold ixN
    rw[Qe,lk,if_neg (by omega),if_pos (by omega)]
    congr 1
    omega
   refine⟨1,_,1,.list ds,by simp[flat,flats],rfl,rfl,rfl,rfl,?_⟩
   (repeat first|refine⟨_,ix,?_⟩|refine⟨ix,?_⟩|infer_instance)
   refine⟨wo,a3,zqc _,by omega,hN _ ⟨some (.im (.int ((3+j:Nat):Int))),ks ++ [(n,ds ++ [zf2 (rs.getD (3+j) [])])],?_,?_,λx hx=>?_,g⟩⟩
   ·show[some (DV.im (.list (rs.map rwD))),some (DV.thg (OwnT (dset _ _ _))),_]=_
    rw[zvs]
    rfl
   ·rw[Qf]
    rw[lk] at h1
    exact jv h1
   ·rcases Qx.mp hx with hx|hx
    ·exact jv (h2 x (QW _ hx))
    ·rw[Qu.mp hx,Qf]
     exact za hd
end
theorem zhj{rs:List (List (List Nat))}{i:Nat}(h:za5 rs i=true):1<(rs.getD i []).length:=by
 unfold za5 zbx at h
 simp only[Qp,decide_eq_true_eq] at h
 omega
theorem zpl{rs:List (List (List Nat))}{j:Nat}(g:∀ i,i<j->za5 rs i=true)(h:za5 rs j=false)(hj:j<3):zcz rs=some j:=by
 unfold zcz
 match j,hj with
 | 0,_=>rw[if_neg (by rw[h];exact Qc)]
 | 1,_=>rw[if_pos (g 0 (by decide)),if_neg (by rw[h];exact Qc)]
 | 2,_=>rw[if_pos (g 0 (by decide)),if_pos (g 1 (by decide)),if_neg (by rw[h];exact Qc)]
theorem zmj{rs:List (List (List Nat))}{i:Nat}(h:za5 rs i=true)(hi:i ≠ 0):zak ((rs.getD i []).getD 1 [])=true:=by
 unfold za5 zbx at h
 rw[if_neg hi] at h
 simp only[Qp] at h
 exact h.2.2.2
section
variable {P : Program} {w : World} {K : Qa} {mg : Str → Option Value} {base : Heap} {k : Nat}
abbrev zhf:Stmt:=top 26
theorem zp7:FnScope ["text", "rows", "at"] ["text"] (zah zhf):=⟨rfl,rfl,rfl,by decide +kernel,rfl,by decide +kernel,by decide +kernel⟩
theorem zga(B:Blt mg){ea:EA}(EC:ErrC K mg ea)(rNoText:zi2 K ea)(gHEADS:Glo K mg "HEADS" (.tuple (((["letters", "lines", "flags"]:List Str)).map .str)))(zh7:Def3 P w K mg base 3 "is_head" ["words", "at"] (spO K (λ_=>True) 2 zw0))(zgg:Def3x P w K mg base 5 "read_hands" ["rows"] (spX K mg (λ_=>True) 1 zj2))(T:Top3 K mg "read_house" zhf):Def3x P w K mg base 6 "read_house" ["text"] (spX K mg (λ_=>True) 1 ztl):=by
 obtain⟨fNoText,mNoText,iNoText⟩:=rNoText.init
 obtain⟨fdNoText,psNoText,FNoText,BNoText⟩:=znz (P:=P) (w:=w) (mg:=mg) (base:=base) iNoText
 refine z0x T zp7 (λ_ _ _ _ _ _ us hl=>len1 hl λ_=>rfl) rfl λf cdv A outer s H E O hφ Bd C=>⟨_,(zi5 (x_of (z4j 1 1 ["row", "text", "rows", "at"] C (λ_ => .of rfl (by kernel_rfl)) (zg5 C (zdv C (zab 0) zag)) (zbh 0) zdh (zdv (C.comp _ _) (zab 0) zag))) (zi5 (z0u Bd rfl (zel (i_r1 C B (zaa (za9 C B (zaa (zne C gHEADS) zac)) zac))) (zbh (h:=1000) 2) (zg7 (x_if (t_w (w_or (t_eq C (zab 2) (za9 C B (zaa (zab 1) zac))) (zfs (zfi (zcv (za1 C zh7 (λ_=>trivial) (zaa (zan C (zab 1) (zab 2)) (zaa (zab 2) zac)))))))) (zg7 (zro Bd rfl rfl rfl rfl rfl rfl mNoText FNoText ((C.room ()).mono (by decide)) BNoText (by decide) EC.nt (zaa (zab 2) zac))) (znn za2)))) (zg7 (ybm (z9i (zi6 (zsq (zan C (zan C (zab 1) zae) zae)) (zi6 (zsq (zf5 C B (zaa (zan C (zan C (zab 1) zae) zae) zac))) (zi6 (zsq (zf5 C B (zaa (zan C (zan C (zab 1) zae) zae) zac))) (zi6 (z6a Bd C zgg (zaa (zab 1) zac)) yaj))))))))),λds Qr hn q=>?_⟩
 obtain⟨t,rfl,ht,q⟩:=q
 have sz:=sizeLine_eq
 have hl:=ht.len
 have rl:=zy5 t
 have rp:=zxa t
 have ro:=z1r ht
 refine⟨zx0 ⟨rfl,rfl,rfl,trivial⟩,?_⟩
 (repeat infer_instance)
 refine⟨by rw[zb5];omega,_,rfl,?_⟩
 rw[zgy,zdm]
 refine zc0 (α:=List Nat) (enc:=λw => .str (tx w)) (e:=λr=>rwD (cutW 32 r)) (λr hr P hP=>?_) (by have:=zdj 10 t;omega) ?_
 ·have:=(zd9 ht hr).len
  (repeat infer_instance)
  refine⟨by rw[zb5];omega,hP _ ?_⟩
  rw[zez,zdm]
  rfl
 rw[zy7]
 (repeat infer_instance)
 refine⟨by decide,by decide,rfl,?_⟩
 have lr:((za6 t).map rwD).length=(za6 t).length:=Qe ..
 refine zb4 (λj ρ=>∃ (o2:Option DV),ρ = [some (.im (.str (tx t))),some (.im (.list ((za6 t).map rwD))),o2]/\(∀ i,i<j->za5 (za6 t) i=true)/\j<=(za6 t).length) ⟨none,rfl,λi h=>absurd h (YN _),QO _⟩ (λρ zz=>?_) λj d ρ N hd hN zz=>?_
 ·obtain⟨o2,e,g,hj⟩:=zz
  subst e
  rw[zc3] at g hj
  have g0:=g 0 (by decide)
  have g1:=g 1 (by decide)
  have g2:=g 2 (by decide)
  have h3:3<=(za6 t).length:=hj
  unfold zcb zcz at q
  rw[if_pos g0,if_pos g1,if_pos g2] at q
  have p0:=zhj g0
  have p1:=zhj g1
  have p2:=zhj g2
  have n1:=zmj g1 (by decide)
  have n2:=zmj g2 (by decide)
  (repeat first|refine⟨_,zeq (i:=0) (show 0<_ by omega),?_⟩|refine⟨zeq (i:=0) (show 0<_ by omega),?_⟩|refine⟨_,zeq (i:=1) (show 1<_ by omega),?_⟩|refine⟨zeq (i:=1) (show 1<_ by omega),?_⟩|refine⟨_,zeq (i:=2) (show 2<_ by omega),?_⟩|refine⟨zeq (i:=2) (show 2<_ by omega),?_⟩|refine⟨_,zal (i:=1) p0,?_⟩|refine⟨zal (i:=1) p0,?_⟩|refine⟨_,zal (i:=1) p1,?_⟩|refine⟨zal (i:=1) p1,?_⟩|refine⟨_,zal (i:=1) p2,?_⟩|refine⟨zal (i:=1) p2,?_⟩|refine⟨_,zdr n1,?_⟩|refine⟨zdr n1,?_⟩|refine⟨_,zdr n2,?_⟩|refine⟨zdr n2,?_⟩|infer_instance)
  refine⟨ro,by omega,h3,?_⟩
  cases hg:za4 3 [] ((za6 t).drop 3) with
  | inl i =>
    rw[hg] at q
    exact q
  | inr hs =>
    rw[hg] at q
    exact⟨by show 4<=sizeLine;omega,q⟩
 ·obtain⟨o2,e,g,hj⟩:=zz
  subst e
  obtain⟨hj3,ed⟩:=zcc hd
  rw[Int.zero_add] at ed
  subst ed
  have hj3:j<3:=hj3
  refine⟨rfl,?_⟩
  (repeat first|refine⟨_,zvk (za6 t),?_⟩|refine⟨zvk (za6 t),?_⟩|infer_instance)
  rw[show decide ((j:Int)=((za6 t).length:Nat))=decide (j=(za6 t).length) from decide_eq_decide.mpr ⟨λh=>by omega,λh=>by omega⟩]
  refine iteB (λa1=>?_) λa1=>?_
  ·have hb:za5 (za6 t) j=false:=by
    unfold za5
    rw[show decide (j<(za6 t).length)=false from decide_eq_false (by have:=of_decide_eq_true a1;omega),QD]
   unfold zcb at q
   rw[zpl g hb hj3] at q
   (repeat infer_instance)
   exact q
  have hlt:j<(za6 t).length:=by have:=of_decide_eq_false a1;omega
  (repeat first|refine⟨_,zeq hlt,?_⟩|refine⟨zeq hlt,?_⟩|infer_instance)
  refine⟨ro _ (zdl hlt),hj3,?_⟩
  (repeat infer_instance)
  refine iteB (λa2=>?_) λa2=>?_
  ·have hb:za5 (za6 t) j=false:=by
    unfold za5
    rw[zgo a2,QI]
   unfold zcb at q
   rw[zpl g hb hj3] at q
   (repeat infer_instance)
   exact q
  ·refine hN _ ⟨_,rfl,λi hi=>?_,hlt⟩
   rcases j6.mp hi with h|rfl
   ·exact g i h
   ·unfold za5
    rw[decide_eq_true hlt,zfj a2]
    rfl
end
section
variable {P : Program} {w : World} {K : Qa} {mg : Str → Option Value} {base : Heap} {k : Nat}
abbrev zhi:Stmt:=top 29
theorem zp9:FnScope ["_law_state", "_law_most", "_law_letters"] ["_law_state", "_law_most"] (zah zhi):=⟨rfl,rfl,rfl,by decide +kernel,rfl,by decide +kernel,by decide +kernel⟩
theorem zcw(B:Blt mg)(zaj:ze8 P w K mg base)(T:Top3 K mg "_law_alphabet" zhi):Def3 P w K mg base 2 "_law_alphabet" ["_law_state", "_law_most"] (spD K IsState 1 zle):=by
 refine mk_D T zp9 (λ_ _ _ _ _ _ us hl=>len2 hl λ_ _=>rfl) rfl λf cdv A outer s H E O hφ C=>?_
 have hO:∀ j:Unit,IsState ((λ_:Unit=>O) j):=λ_=>hφ
 refine⟨_,(zad (zao 2 zag) (zai (zar (zdb C zag (zuo C B (zcp 1 ["_law_k", "_law_state", "_law_most", "_law_letters"] C (λ_ => .of rfl (by kernel_rfl)) (i_r1 C B (zaa (zaw C zae (zam 0 C zaj hO (zaa (zab 1) zac))) zac)) (zbh 0) zdh (zan (C.comp _ _) (zab 3) (zam 1 (C.comp _ _) zaj (upS hO) (zaa zae zac))))))))),λds Qr hn q=>?_⟩
 obtain⟨n,rfl,n0,hn3,q⟩:=q
 have sz:=sizeLine_eq
 rw[zvp]
 refine⟨rfl,_,rfl,rfl,_,_,rfl,rfl,rfl,_,rfl,by omega,by omega,λk k0 k1=>?_⟩
 obtain⟨m,rfl⟩:=Zn k0
 refine⟨_,rfl,_,rfl,by omega,by omega,?_⟩
 refine zt4 (enc2:=λc => .str (tx [c])) (good:=λc=>c ∈ abc) (λc hc Py hPy=>?_) (by rw[Yx];omega) λws hs hlp=>?_
 ·exact⟨_,_,rfl,rfl,zf0 rfl (by decide) (by decide) λk hk=>⟨_,zdc (zf8 (by omega)) (by decide),hPy _ (QQ _)⟩⟩
 ·rw[Yx] at hlp
  refine⟨ws.map λc=>tx [c],.inr (by rw[Q5];rfl),by rw[Qe];omega,λzs nd hm so=>?_⟩
  obtain⟨ls,rfl,hls⟩:=zrt (zs:=zs) (cs:=ws) λz hz=>by
   obtain⟨c,hc,e⟩:=Qz.mp ((hm z).mp hz)
   exact⟨c,hc,e.symm⟩
  have hl:=zr9 nd λk hk=>(hm k).mp hk
  rw[Qe,Qe] at hl
  obtain⟨ys,e1,e2,e3⟩:=z4q ls (by omega)
  refine⟨ys,?_,e2,?_⟩
  ·rw[<- e1]
   show Zo (Y4 _ (Y4 _ _))=_
   rw[Q5]
   rfl
  ·rw[e3]
   refine q ls (λc hc=>z5a c (hs c (hls c hc))) (λe=>?_) (by omega) (zj7 (w:=ls) so (qd (λc=>tx [c]) (λa b h e=>h (by rw[e])) nd))
   subst e
   obtain⟨c,hc⟩:=List.exists_mem_of_length_pos (l:=ws) (by omega)
   exact absurd ((hm (tx [c])).mpr (Qz.mpr ⟨c,hc,rfl⟩)) (by simp)
end
section
variable {P : Program} {w : World} {K : Qa} {mg : Str → Option Value} {base : Heap} {k : Nat}
abbrev zok:Stmt:=top 30
theorem z2d:FnScope ["_law_state", "_law_letters", "_law_lines", "_law_flags", "_law_form", "_law_line", "_law_x"] ["_law_state", "_law_letters", "_law_lines", "_law_flags"] (zah zok):=⟨rfl,rfl,rfl,by decide +kernel,rfl,by decide +kernel,by decide +kernel⟩
theorem zh0(B:Blt mg)(zaj:ze8 P w K mg base)(T:Top3 K mg "_law_deed" zok):Def3 P w K mg base 2 "_law_deed" ["_law_state", "_law_letters", "_law_lines", "_law_flags"] (spD K IsState 3 z0s):=by
 refine mk_D T z2d (λ_ _ _ _ _ _ us hl=>len4 hl λ_ _ _ _=>rfl) rfl λf cdv A outer s H E O hφ C=>?_
 have hO:∀ j:Unit,IsState ((λ_:Unit=>O) j):=λ_=>hφ
 refine⟨_,(zad (zao 4 (zam 0 C zaj hO (zaa (zaw C zae (zww C zae (zf5 C B (zaa (e_gt (zab 3) zae) zac)))) zac))) (zad (zao 5 (zam 0 C zaj hO (zaa (zab 2) zac))) (zad (zao 6 (zan C (zab 1) (zam 0 C zaj hO (zaa (za9 C B (zaa (zab 1) zac)) zac)))) (zad (s_if (t_eq C (zab 4) zae) (zai (zar (zba (zaa zag zac)))) za2) (zad (s_if (t_lt (zab 4) zae) (zai (zar (zba (zaa zag (zaa (zab 5) (zaa (zab 6) zac)))))) za2) (zad (s_if (t_lt (zab 4) zae) (zai (zar (zba (zaa zag (zaa (zab 5) (zaa (zab 6) zac)))))) za2) (zad (s_if (t_eq C (zab 4) zae) (zai (zar (zba (zaa zag (zaa (zab 5) zac))))) za2) (zai (zar (zba (zaa (zan C (zbz (zaa zag (zaa zag zac))) (zk5 (zab 4) zae)) (zaa (zam 0 C zaj hO (zaa (zab 3) zac)) (zaa (zam 0 C zaj hO (zaa zae zac)) zac))))))))))))),λds Qr hn q=>?_⟩
 obtain⟨ls,l,f,rfl,hne,hl,l0,l1,f1,q⟩:=q
 have sz:=sizeLine_eq
 refine⟨rfl,_,_,rfl,rfl,_,rfl,_,rfl,?_⟩
 obtain⟨b,eb,b1,bf⟩:∃ b:Nat,(if decide ((0:Int)<(f:Nat))=true then(1:Int) else 0)=b/\b<=1/\(b=1->0<f):=by
  rcases Nat.eq_zero_or_pos f with h|h
  ·exact⟨0,by rw[h];rfl,by omega,by omega⟩
  ·exact⟨1,by rw[if_pos (decide_eq_true (by omega))];rfl,by omega,λ_=>h⟩
 dsimp only [R.d]
 rw[eb]
 refine⟨_,rfl,by omega,by omega,.inl ⟨by decide,by decide⟩,_,rfl,rfl,_,rfl,by omega,by omega,λk k0 k1=>⟨rfl,?_⟩⟩
 obtain⟨m,rfl⟩:=Zn k0
 refine⟨rfl,_,_,rfl,rfl,rfl,_,rfl,by omega,by omega,λk2 k20 k21=>⟨rfl,?_⟩⟩
 obtain⟨m2,rfl⟩:=Zn k20
 refine zuk rfl rfl hne (by omega) λc hc=>⟨rfl,?_⟩
 have t3:3<=sizeLine:=by omega
 have hm2:m2<l:=by omega
 refine⟨_,_,rfl,rfl,_,zum m 0,_,rfl,ite2 (λ_=>⟨Q2 (by decide) t3,q .go trivial⟩) λz1=>?_⟩
 refine⟨_,_,rfl,rfl,_,rfl,_,rfl,ite2 (λ_=>⟨_,_,rfl,rfl,_,_,rfl,rfl,t3,q (.send m2 c) ⟨hm2,hc⟩⟩) λz2=>?_⟩
 refine⟨_,_,rfl,rfl,_,rfl,_,rfl,ite2 (λ_=>⟨_,_,rfl,rfl,_,_,rfl,rfl,t3,q (.take m2 c) ⟨hm2,hc⟩⟩) λz3=>?_⟩
 refine⟨_,_,rfl,rfl,_,zum m 5,_,rfl,ite2 (λ_=>⟨_,_,rfl,rfl,Q2 (show 2<=3 by decide) t3,q (.empty m2) hm2⟩) λz4=>?_⟩
 have n3:¬ ((m:Int)<5):=λh=>z3 (decide_eq_true h)
 have n4:¬ (m=5):=λh=>z4 (decide_eq_true h)
 have hf:=bf (by omega)
 refine⟨Q2 (by decide) t3,_,_,rfl,rfl,_,rfl,?_⟩
 rcases(by omega:m=6\/m=7) with rfl|rfl
 ·refine⟨_,rfl,rfl,_,_,rfl,rfl,rfl,_,rfl,by omega,by omega,λk3 k30 k31=>?_⟩
  obtain⟨m3,rfl⟩:=Zn k30
  exact zf0 rfl (by decide) (by decide) λk4 hk4=>⟨t3,q (.put m3 k4) ⟨by omega,by omega⟩⟩
 ·refine⟨_,rfl,rfl,_,_,rfl,rfl,rfl,_,rfl,by omega,by omega,λk3 k30 k31=>?_⟩
  obtain⟨m3,rfl⟩:=Zn k30
  exact zf0 rfl (by decide) (by decide) λk4 hk4=>⟨t3,q (.test m3 k4) ⟨by omega,by omega⟩⟩
end
section
variable {P : Program} {w : World} {K : Qa} {mg : Str → Option Value} {base : Heap} {k : Nat}
abbrev zl0:Stmt:=top 31
theorem zxv:FnScope ["_law_state", "_law_most", "_law_letters", "_law_lines", "_law_flags", "_law_hands", "_law_k", "_law_rooms", "_law_rules", "_law_j", "_law_p", "_law_q"] ["_law_state", "_law_most"] (zah zl0):=⟨rfl,rfl,rfl,by decide +kernel,rfl,by decide +kernel,by decide +kernel⟩
theorem zgv(B:Blt mg)(zaj:ze8 P w K mg base)(zcw:Def3 P w K mg base 2 "_law_alphabet" ["_law_state", "_law_most"] (spD K IsState 1 zle))(zh0:Def3 P w K mg base 2 "_law_deed" ["_law_state", "_law_letters", "_law_lines", "_law_flags"] (spD K IsState 3 z0s))(T:Top3 K mg "_law_house" zl0):Def3 P w K mg base 3 "_law_house" ["_law_state", "_law_most"] (spD K IsState 1 zqu):=by
 refine mk_D T zxv (λ_ _ _ _ _ _ us hl=>len2 hl λ_ _=>rfl) rfl λf cdv A outer s H E O hφ C=>?_
 have hO:∀ j:Unit,IsState ((λ_:Unit=>O) j):=λ_=>hφ
 refine⟨_,(zad (zao 2 (zam 0 C zcw hO (zaa zae zac))) (zad (zao 3 (zaw C zae (zam 0 C zaj hO (zaa zae zac)))) (zad (zao 4 (zam 0 C zaj hO (zaa zae zac))) (zad (zao 5 (zbz zac)) (zad (zfp C (zel (i_r1 C B (zaa (zaw C zae (zam 0 C zaj hO (zaa zae zac))) zac))) (zbh (h:=1000) 6) (zad (zao 7 (zaw C zae (zam 0 C zaj hO (zaa zae zac)))) (zad (zao 8 (zbz zac)) (zad (zfp C (zel (i_r1 C B (zaa (zam 0 C zaj hO (zaa (zaw C (zab 1) zae) zac)) zac))) (zbh (h:=1000) 9) (zad (ybn 10 11 C (zaa (zam 0 C zaj hO (zaa (zab 7) zac)) (zaa (zam 0 C zaj hO (zaa (zab 7) zac)) zac))) (zai (zkp 8 C (zba (zaa (zab 10) (zaa (zam 0 C zh0 hO (zaa (zab 2) (zaa (zab 3) (zaa (zab 4) zac)))) (zaa (zab 11) zac)))))))) (zai (zkp 5 C (zba (zaa (zab 7) (zaa (zd7 C B (zaa (zab 8) zac)) zac))))))))) (zai (zar (zba (zaa (zab 2) (zaa (zab 3) (zaa (zab 4) (zaa (zd7 C B (zaa (zab 5) zac)) zac)))))))))))),λds Qr hn q=>?_⟩
 obtain⟨n,rfl,hn3,q⟩:=q
 have sz:=sizeLine_eq
 refine⟨rfl,rfl,3,rfl,by decide,by decide,λls hlow hne hls hri=>⟨rfl,?_⟩⟩
 refine zf0 rfl (by decide) (by decide) λk1 hk1=>⟨_,rfl,rfl,?_⟩
 refine zf0 rfl (by decide) (by decide) λk2 hk2=>⟨rfl,?_⟩
 refine⟨QO _,rfl,?_⟩
 refine zf0 rfl (by decide) (by decide) λk3 hk3=>⟨_,rfl,_,rfl,by omega,by omega,rfl,?_⟩
 refine zb4 (λj ρ=>∃ (hs:List Hnd) (o6 o7 o8 o9 o10 o11:Option DV),ρ = [some .ob,some (.im (.int (n:Nat))),some (.im (.str (tx ls))),some (.im (.int (1+(k1:Nat)))),some (.im (.int (k2:Nat))),some (.own (hs.map zgj)),o6,o7,o8,o9,o10,o11]/\hs.length=j/\∀ x ∈ hs,HdOk ls (1+k1) k2 x/\1<=x.n/\x.n<=3/\x.rs.length<=5/\∀ r ∈ x.rs,r.p<x.n/\r.q<x.n) ⟨[],none,none,none,none,none,none,rfl,rfl,λx h=>(Qo h).elim⟩ (λρ zz=>?_) λj d ρ N hd hN zz=>?_
 ·obtain⟨hs,o6,o7,o8,o9,o10,o11,e,h1,h2⟩:=zz
  subst e
  rw[zc3] at h1
  exact⟨_,_,rfl,rfl,_,_,rfl,rfl,_,_,rfl,rfl,_,_,rfl,rfl,_,rfl,(by show 4<=sizeLine;omega),q ⟨ls,1+k1,k2,hs⟩ ⟨⟨hlow,hne,by show ls.length<=100;omega,by show 1+k1<=100;omega,by show k2<=100;omega,by show hs.length<=100;omega,λx hx=>(h2 x hx).1.1,λx hx=>(h2 x hx).1.2⟩,hri,hls,by show 1<=1+k1;omega,by show 1+k1<=2;omega,by show k2<=2;omega,by show 1<=hs.length;omega,by show hs.length<=2;omega,λx hx=>(h2 x hx).2⟩⟩
 ·obtain⟨hs,o6,o7,o8,o9,o10,o11,e,h1,h2⟩:=zz
  subst e
  obtain⟨hj,rfl⟩:=zcc hd
  refine⟨rfl,?_⟩
  refine zf0 rfl (by decide) (by decide) λk4 hk4=>⟨_,rfl,rfl,?_⟩
  refine⟨QO _,rfl,?_⟩
  refine⟨rfl,_,_,rfl,rfl,_,rfl,rfl,_,rfl,by omega,by omega,λk5 k50 k51=>⟨_,rfl,by omega,by omega,rfl,?_⟩⟩
  refine zb4 (λi ρ=>∃ (rs:List Rul) (o9 o10 o11:Option DV),ρ = [some .ob,some (.im (.int (n:Nat))),some (.im (.str (tx ls))),some (.im (.int (1+(k1:Nat)))),some (.im (.int (k2:Nat))),some (.own (hs.map zgj)),some (.im (.int (0+(j:Nat)))),some (.im (.int (1+(k4:Nat)))),some (.own (rs.map zbm)),o9,o10,o11]/\rs.length<=i/\∀ r ∈ rs,RuOk ls (1+k1) k2 r/\r.p<1+k4/\r.q<1+k4) ⟨[],_,_,_,rfl,QO _,λx h=>(Qo h).elim⟩ (λρ zz=>?_) λi d ρ N hd hN zz=>?_
  ·obtain⟨rs,o9,o10,o11,e,g1,g2⟩:=zz
   subst e
   rw[zc3] at g1
   refine⟨_,rfl,_,_,rfl,rfl,_,_,rfl,rfl,_,rfl,(by show 2<=sizeLine;omega),zgx ⟨1+k4,rs⟩,(by rw[Qe];omega),hN _ ⟨hs ++ [⟨1+k4,rs⟩],some (.im (.int (0+(j:Nat)))),some (.im (.int (1+(k4:Nat)))),some (.own (rs.map zbm)),o9,o10,o11,?_,?_,zoh h2 ⟨⟨⟨by show 0<1+k4;omega,by show 1+k4<=100;omega⟩,by show rs.length<=100;omega,λr hr=>(g2 r hr).1⟩,by show 1<=1+k4;omega,by show 1+k4<=3;omega,by show rs.length<=5;omega,λr hr=>(g2 r hr).2⟩⟩⟩
   ·rw[QA]
    rfl
   ·rw[Qf,Z8]
    omega
  ·obtain⟨rs,o9,o10,o11,e,g1,g2⟩:=zz
   subst e
   obtain⟨hi,rfl⟩:=zcc hd
   refine⟨rfl,?_⟩
   refine⟨rfl,_,_,rfl,rfl,rfl,_,rfl,by omega,by omega,λa a0 a1=>?_⟩
   refine⟨rfl,_,_,rfl,rfl,rfl,_,rfl,by omega,by omega,λb b0 b1=>⟨_,_,rfl,rfl,rfl,?_⟩⟩
   obtain⟨a,rfl⟩:=Zn a0
   obtain⟨b,rfl⟩:=Zn b0
   refine⟨_,rfl,_,_,rfl,rfl,rfl,_,_,rfl,rfl,_,_,rfl,rfl,_,_,rfl,rfl,rfl,ls,1+k1,k2,rfl,hne,by omega,by omega,by omega,by omega,λd hd=>?_⟩
   refine⟨_,_,rfl,rfl,(by show 3<=sizeLine;omega),zli ⟨a,d,b⟩,(by rw[Qe];omega),hN _ ⟨rs ++ [⟨a,d,b⟩],some (.im (.int (0+(i:Nat)))),some (.im (.int (a:Nat))),some (.im (.int (b:Nat))),?_,?_,zoh g2 ⟨⟨hd,by show a<=100;omega,by show b<=100;omega⟩,by show a<1+k4;omega,by show b<1+k4;omega⟩⟩⟩
   ·rw[QA]
    rfl
   ·rw[Qf,Z8]
    omega
end
section
variable {P : Program} {w : World} {K : Qa} {mg : Str → Option Value} {base : Heap} {k : Nat}
abbrev zjt:Stmt:=top 32
theorem zwe:FnScope ["_law_state"] ["_law_state"] (zah zjt):=⟨rfl,rfl,rfl,by decide +kernel,rfl,by decide +kernel,by decide +kernel⟩
theorem zbq(B:Blt mg)(zaj:ze8 P w K mg base)(T:Top3 K mg "_law_number" zjt):Def3 P w K mg base 2 "_law_number" ["_law_state"] (spD K IsState 0 z0c):=by
 refine mk_D T zwe (λ_ _ _ _ _ _ us hl=>len1 hl λ_=>rfl) rfl λf cdv A outer s H E O hφ C=>?_
 have hO:∀ j:Unit,IsState ((λ_:Unit=>O) j):=λ_=>hφ
 refine⟨_,(zai (zar (zam 0 C zaj hO (zaa (zan C (zbz (zaa zae (zaa zae (zaa zae (zaa zae zac))))) (zam 0 C zaj hO (zaa zae zac))) zac)))),λds Qr hn q=>?_⟩
 obtain⟨rfl,q⟩:=q
 (repeat infer_instance)
 refine dr (by decide) (by decide) λk hk=>?_
 obtain rfl|rfl|rfl|rfl:k=0\/k=1\/k=2\/k=3:=by omega
 ·(repeat infer_instance)
  exact dr (by decide) (by decide) λm hm=>q m (by omega)
 ·(repeat infer_instance)
  exact dr (by decide) (by decide) λm hm=>q m (by omega)
 ·(repeat infer_instance)
  exact dr (by decide) (by decide) λm hm=>q m (by omega)
 ·(repeat infer_instance)
  exact dr (by decide) (by decide) λm hm=>q m (by omega)
end
section
variable {P : Program} {w : World} {K : Qa} {mg : Str → Option Value} {base : Heap} {k : Nat}
abbrev zho:Stmt:=top 33
theorem zpw:FnScope ["_law_state", "_law_letters", "_law_some", "_law_hands", "_law_k", "_law_rules", "_law_j", "_law_form", "_law_deed_here"] ["_law_state"] (zah zho):=⟨rfl,rfl,rfl,by decide +kernel,rfl,by decide +kernel,by decide +kernel⟩
theorem zej(B:Blt mg)(zaj:ze8 P w K mg base)(zcw:Def3 P w K mg base 2 "_law_alphabet" ["_law_state", "_law_most"] (spD K IsState 1 zle))(zbq:Def3 P w K mg base 2 "_law_number" ["_law_state"] (spD K IsState 0 z0c))(T:Top3 K mg "_law_any_house" zho):Def3 P w K mg base 3 "_law_any_house" ["_law_state"] (spD K IsState 0 zz6):=by
 refine mk_D T zpw (λ_ _ _ _ _ _ us hl=>len1 hl λ_=>rfl) rfl λf cdv A outer s H E O hφ C=>?_
 have hO:∀ j:Unit,IsState ((λ_:Unit=>O) j):=λ_=>hφ
 refine⟨_,(zad (zao 1 (zam 0 C zcw hO (zaa (zan C (zbz (zaa zae (zaa zae (zaa zae zac)))) (zam 0 C zaj hO (zaa zae zac))) zac))) (zad (zao 2 zag) (zad (zao 3 (zbz zac)) (zad (zfp C (zel (i_r1 C B (zaa (zam 0 C zaj hO (zaa zae zac)) zac))) (zbh (h:=1000) 4) (zad (zao 5 (zbz zac)) (zad (zfp C (zel (i_r1 C B (zaa (zam 0 C zaj hO (zaa zae zac)) zac))) (zbh (h:=1000) 6) (zad (zao 7 (zan C (zbz (zaa zag (zaa zag (zaa zag (zaa zag (zaa zag (zaa zag zac))))))) (zam 0 C zaj hO (zaa zae zac)))) (zad (zao 8 (zba (zaa (zab 7) (zaa (zam 0 C zbq hO zac) zac)))) (zad (s_if (t_in C (zab 7) (zba (zaa zag (zaa zag zac)))) (zai (zao 8 (zaw C (zab 8) (zba (zaa (zan C (zab 2) (zam 0 C zaj hO (zaa zae zac))) zac))))) za2) (zad (s_if (t_in C (zab 7) (zba (zaa zag (zaa zag zac)))) (zai (zao 8 (zaw C (zab 8) (zba (zaa (zam 0 C zbq hO zac) zac))))) za2) (zad (s_if (t_eq C (zab 7) zag) (zai (zao 8 (zba (zaa zag zac)))) za2) (zai (zkp 5 C (zba (zaa (zam 0 C zbq hO zac) (zaa (zab 8) (zaa (zam 0 C zbq hO zac) zac)))))))))))) (zai (zkp 3 C (zba (zaa (zam 0 C zbq hO zac) (zaa (zd7 C B (zaa (zab 5) zac)) zac)))))))) (zai (zar (zba (zaa (zab 1) (zaa (zam 0 C zbq hO zac) (zaa (zam 0 C zbq hO zac) (zaa (zd7 C B (zaa (zab 3) zac)) zac))))))))))),λds Qr hn q=>?_⟩
 obtain⟨rfl,q⟩:=q
 have sz:=sizeLine_eq
 (repeat infer_instance)
 refine dr (by decide) (by decide) λk hk=>?_
 obtain⟨m,em,m0,m26⟩:∃ m:Nat,idxF (.list [.int 3,.int 3,.int 26]) (.int (k:Nat))=some (.o (.int (m:Nat)))/\0<m/\m<=26:=by
  obtain rfl|rfl|rfl:k=0\/k=1\/k=2:=by omega
  ·exact⟨3,rfl,by decide,by decide⟩
  ·exact⟨3,rfl,by decide,by decide⟩
  ·exact⟨26,rfl,by decide,by decide⟩
 (repeat first|refine⟨_,em,?_⟩|refine⟨em,?_⟩|infer_instance)
 refine⟨m0,m26,λls hlow hne hlen hri=>?_⟩
 (repeat infer_instance)
 refine dr (by decide) (by decide) λkh hkh=>?_
 (repeat infer_instance)
 refine⟨by omega,by omega,rfl,?_⟩
 refine zb4 (λj ρ=>∃ (hs:List Hnd) (o4 o5 o6 o7 o8:Option DV),ρ = [some .ob,some (.im (.str (tx ls))),some (.im (.str (tx abc))),some (.own (hs.map zgj)),o4,o5,o6,o7,o8]/\hs.length=j/\∀ x ∈ hs,x.n<1000/\x.rs.length<=6/\∀ r ∈ x.rs,RuT r) ⟨[],none,none,none,none,none,rfl,rfl,λx h=>(Qo h).elim⟩ (λρ zz=>?_) λj d ρ N hd hN zz=>?_
 ·obtain⟨hs,o4,o5,o6,o7,o8,e,h1,h2⟩:=zz
  subst e
  rw[zc3] at h1
  (repeat infer_instance)
  intro n1 hn1
  (repeat infer_instance)
  intro n2 hn2
  (repeat infer_instance)
  exact q ⟨ls,n1,n2,hs⟩ ⟨zr3 hlow hri,hne,hn1,hn2,λx hx=>⟨(h2 x hx).1,(h2 x hx).2.2⟩⟩ ⟨by show ls.length<=26;omega,by show hs.length<=3;omega,λx hx=>(h2 x hx).2.1⟩
 ·obtain⟨hs,o4,o5,o6,o7,o8,e,h1,h2⟩:=zz
  subst e
  obtain⟨hj,rfl⟩:=zcc hd
  refine⟨rfl,?_⟩
  (repeat infer_instance)
  refine dr (by decide) (by decide) λkr hkr=>?_
  (repeat infer_instance)
  refine⟨by omega,by omega,rfl,?_⟩
  refine zb4 (λi ρ=>∃ (rs:List Rul) (d4:DV) (o6 o7 o8:Option DV),ρ = [some .ob,some (.im (.str (tx ls))),some (.im (.str (tx abc))),some (.own (hs.map zgj)),some d4,some (.own (rs.map zbm)),o6,o7,o8]/\rs.length=i/\∀ r ∈ rs,RuT r) ⟨[],_,o6,o7,o8,rfl,rfl,λx h=>(Qo h).elim⟩ (λρ zz=>?_) λi d ρ N' hd' hN' zz=>?_
  ·obtain⟨rs,d4,o6,o7,o8,e,g1,g2⟩:=zz
   subst e
   rw[zc3] at g1
   (repeat infer_instance)
   intro n hn
   (repeat infer_instance)
   refine⟨zgx ⟨n,rs⟩,by rw[Qe];omega,hN _ ⟨hs ++ [⟨n,rs⟩],_,_,_,_,_,by rw[QA];rfl,by rw[Qf,h1];rfl,λx hx=>?_⟩⟩
   rcases Qx.mp hx with hx|hx
   ·exact h2 x hx
   ·rw[Qu.mp hx]
    exact⟨hn,by show rs.length<=6;omega,g2⟩
  ·obtain⟨rs,d4,o6,o7,o8,e,g1,g2⟩:=zz
   subst e
   obtain⟨hi,rfl⟩:=zcc hd'
   have fin:∀ (r:Rul),RuT r->∀ {d:PyData},d=zbm r->∀ o6 o7 o8,flat d=true/\(rs.map zbm).length<sizeLine/\N' [some .ob,some (.im (.str (tx ls))),some (.im (.str (tx abc))),some (.own (hs.map zgj)),some d4,some (.own (rs.map zbm ++ [d])),o6,o7,o8]:=λr hr d ed o6 o7 o8=>by
    subst ed
    refine⟨zli r,by rw[Qe];omega,hN' _ ⟨rs ++ [r],_,_,_,_,by rw[QA];rfl,by rw[Qf,g1];rfl,λx hx=>?_⟩⟩
    rcases Qx.mp hx with hx|hx
    ·exact g2 x hx
    ·rw[Qu.mp hx];exact hr
   refine⟨rfl,?_⟩
   (repeat infer_instance)
   refine dr (by decide) (by decide) λkf hkf=>?_
   obtain rfl|rfl|rfl|rfl|rfl|rfl:kf=0\/kf=1\/kf=2\/kf=3\/kf=4\/kf=5:=by omega
   ·(repeat infer_instance)
    intro n0 h0
    (repeat infer_instance)
    intro p hp
    (repeat infer_instance)
    intro q' hq
    (repeat infer_instance)
    exact(fin ⟨p,.go,q'⟩ ⟨hp,trivial,hq⟩ rfl _ _ _).2
   ·(repeat infer_instance)
    intro n0 h0
    (repeat infer_instance)
    refine dr (by decide) (by decide) λc hc=>?_
    (repeat first|refine⟨_,zdc (zf8 hc) (by decide),?_⟩|refine⟨zdc (zf8 hc) (by decide),?_⟩|infer_instance)
    intro p hp
    (repeat infer_instance)
    intro q' hq
    (repeat infer_instance)
    exact(fin ⟨p,.send n0 (abc[c]'(zf8 hc)),q'⟩ ⟨hp,⟨h0,mem_abc.mp (QQ _)⟩,hq⟩ rfl _ _ _).2
   ·(repeat infer_instance)
    intro n0 h0
    (repeat infer_instance)
    refine dr (by decide) (by decide) λc hc=>?_
    (repeat first|refine⟨_,zdc (zf8 hc) (by decide),?_⟩|refine⟨zdc (zf8 hc) (by decide),?_⟩|infer_instance)
    intro p hp
    (repeat infer_instance)
    intro q' hq
    (repeat infer_instance)
    exact(fin ⟨p,.take n0 (abc[c]'(zf8 hc)),q'⟩ ⟨hp,⟨h0,mem_abc.mp (QQ _)⟩,hq⟩ rfl _ _ _).2
   ·(repeat infer_instance)
    intro n0 h0
    (repeat infer_instance)
    intro p hp
    (repeat infer_instance)
    intro q' hq
    (repeat infer_instance)
    exact(fin ⟨p,.empty n0,q'⟩ ⟨hp,h0,hq⟩ rfl _ _ _).2
   ·(repeat infer_instance)
    intro n0 h0
    (repeat infer_instance)
    intro n1 h1
    (repeat infer_instance)
    intro p hp
    (repeat infer_instance)
    intro q' hq
    (repeat infer_instance)
    exact(fin ⟨p,.put n0 n1,q'⟩ ⟨hp,⟨h0,h1⟩,hq⟩ rfl _ _ _).2
   ·(repeat infer_instance)
    intro n0 h0
    (repeat infer_instance)
    intro n1 h1
    (repeat infer_instance)
    intro p hp
    (repeat infer_instance)
    intro q' hq
    (repeat infer_instance)
    exact(fin ⟨p,.test n0 n1,q'⟩ ⟨hp,⟨h0,h1⟩,hq⟩ rfl _ _ _).2
end
section
variable {P : Program} {w : World} {K : Qa} {mg : Str → Option Value} {base : Heap} {k : Nat}
abbrev zis:Stmt:=top 34
theorem zs9:FnScope ["_law_rule"] ["_law_rule"] (zah zis):=⟨rfl,rfl,rfl,by decide +kernel,rfl,by decide +kernel,by decide +kernel⟩
theorem ze0(B:Blt mg)(T:Top3 K mg "_law_rule_row" zis):Def3 P w K mg base 1 "_law_rule_row" ["_law_rule"] (spO K (λ_=>True) 1 zpt):=by
 refine mk_O T zs9 (λ_ _ _ _ _ _ us hl=>len1 hl λ_=>rfl) rfl λf cdv A outer s H E O hφ C=>⟨_,(zai (zar (zdb C zag (zaw C (zaw C (zbz (zaa (zf1 C B (zaa (zan C (zab 0) zae) zac)) zac)) (zcp 1 ["_law_one", "_law_rule"] C (λ_ => .of rfl (by kernel_rfl)) (zi8 C (zan C (zab 0) zae)) (zbh 0) zdh (zf1 (C.comp _ _) B (zaa (zab 0) zac)))) (zbz (zaa (zf1 C B (zaa (zan C (zab 0) zae) zac)) zac)))))),λds Qr hn q=>?_⟩
 obtain⟨r,rfl,ok,q⟩:=q
 have sz:=sizeLine_eq
 obtain⟨d3,d5⟩:=zmm r.d ok.d
 obtain⟨r5,r6⟩:=zjo ok
 have pk:=zjp ok
 have e:zbm r = .tuple [.int (r.p:Nat),.tuple ((zcr r.d).map ze7),.int (r.q:Nat)]:=by unfold zbm;rw[zzy];rfl
 rw[e]
 (repeat first|refine⟨_,zc2 ok.p,?_⟩|refine⟨zc2 ok.p,?_⟩|infer_instance)
 refine zc0 (α:=Prt) (enc:=ze7) (e:=λp => .str (tx (zcj p))) (λp hp P hP=>?_) (by have:=congrArg jT (zll r.d);rw[Qe] at this;omega) ?_
 ·(repeat infer_instance)
  exact⟨_,zor (pk.1 p (Qj _ (QW _ hp))),hP _ rfl⟩
 rw[show(zcr r.d).map (λp=>QX (tx (zcj p)))=tsD (zas r.d) by rw[<- zll];unfold tsD;rw[Q5];rfl]
 (repeat first|refine⟨_,zct (a := [numT r.p]) (b:=zas r.d) (by show 1+_<=_;omega),?_⟩|refine⟨zct (a := [numT r.p]) (b:=zas r.d) (by show 1+_<=_;omega),?_⟩|refine⟨_,zc2 ok.q,?_⟩|refine⟨zc2 ok.q,?_⟩|refine⟨_,zct (a := [numT r.p]++zas r.d) (b := [numT r.q]) (by rw[Qf];show 1+_+1<=_;omega),?_⟩|refine⟨zct (a := [numT r.p]++zas r.d) (b := [numT r.q]) (by rw[Qf];show 1+_+1<=_;omega),?_⟩|infer_instance)
 rw[zez]
 have ht:=zfu r6
 have:=Jx (5+1) r5
 obtain⟨ys,y1,y2,y3⟩:=zfw (c:=32) (ws:=za3 r) (by omega)
 refine⟨ys,?_,y2,?_⟩
 ·rw[<- y1]
  show Zo (tsD ([numT r.p]++zas r.d ++ [numT r.q]))=_
  rw[Qw]
  rfl
 ·rw[y3]
  exact q
end
theorem zdk{x:String}{v w:List Nat}(e:Qi x=tx (v ++ [32]))(h:(v ++ [32]).length+w.length<=16777216):addF (.str (Qi x)) (.str (tx w))=some (.o (.str (tx (zat 32 [v,w])))):=by
 rw[e]
 have:=zf4 (v:=v ++ [32]) (w:=w) h
 rw[this]
 show some (R.o (.str (tx (v ++ [32]++w))))=some (R.o (.str (tx (v++32::w))))
 rw[Qw]
 rfl
theorem zz3:Qi "letters " = tx (cds "letters" ++ [32]):=by decide +kernel
theorem zzw:Qi "lines " = tx (cds "lines" ++ [32]):=by decide +kernel
theorem z0t:Qi "flags " = tx (cds "flags" ++ [32]):=by decide +kernel
theorem zzx:Qi "hand " = tx (cds "hand" ++ [32]):=by decide +kernel
theorem zo9{h:Hou}{j:Nat}{x:Hnd}(hx:h.hands[j]? = some x):zcy h (j+1)=zcy h j ++ [[cds "hand", numT x.n]]++x.rs.map za3:=by
 unfold zcy
 rw[zo,hx,show h.hands.take j++(some x).toList=h.hands.take j ++ [x] from rfl,QA,Jb,Qw,Qw]
 show _++(_++(zbc x ++ []))=_
 rw[QU,<- Qw,<- Qw]
 show _++zbc x=_
 unfold zbc
 rw[Qw]
 rfl
section
variable {P : Program} {w : World} {K : Qa} {mg : Str → Option Value} {base : Heap} {k : Nat}
abbrev zgr:Stmt:=top 35
theorem zoz:FnScope ["_law_house_here", "_law_rows", "_law_many", "_law_rules"] ["_law_house_here"] (zah zgr):=⟨rfl,rfl,rfl,by decide +kernel,rfl,by decide +kernel,by decide +kernel⟩
theorem zc6(B:Blt mg)(ze0:Def3 P w K mg base 1 "_law_rule_row" ["_law_rule"] (spO K (λ_=>True) 1 zpt))(T:Top3 K mg "_law_house_rows" zgr):Def3 P w K mg base 2 "_law_house_rows" ["_law_house_here"] (spO K (λ_=>True) 1 zkg):=by
 refine mk_O T zoz (λ_ _ _ _ _ _ us hl=>len1 hl λ_=>rfl) rfl λf cdv A outer s H E O hφ C=>⟨_,(zad (zao 1 (zbz (zaa (zaw C zag (zan C (zab 0) zae)) (zaa (zaw C zag (zf1 C B (zaa (zan C (zab 0) zae) zac))) (zaa (zaw C zag (zf1 C B (zaa (zan C (zab 0) zae) zac))) zac))))) (zad (zfp C (zel (zi8 C (zan C (zab 0) zae))) (znh (h:=1000) C (zdp 2 (zdp 3 zkl))) (zai (zao 1 (zaw C (zaw C (zab 1) (zbz (zaa (zaw C zag (zf1 C B (zaa (zab 2) zac))) zac))) (zcp 1 ["_law_rule", "_law_house_here", "_law_rows", "_law_many", "_law_rules"] C (λ_ => .of rfl (by kernel_rfl)) (zi8 C (zab 3)) (zbh 0) zdh (za1 (C.comp _ _) ze0 (λ_=>trivial) (zaa (zab 0) zac))))))) (zai (z6v 1)))),λds Qr hn q=>?_⟩
 obtain⟨h,rfl,ok,hs,q⟩:=q
 have sz:=sizeLine_eq
 have hls:=hs.ls
 have nl:=(zeg ok.lines).1
 have nf:=(zeg ok.flags).1
 have l1:(cds "letters" ++ [32]).length=8:=by decide +kernel
 have l2:(cds "lines" ++ [32]).length=6:=by decide +kernel
 have l3:(cds "flags" ++ [32]).length=6:=by decide +kernel
 have l4:(cds "hand" ++ [32]).length=5:=by decide +kernel
 (repeat first|refine⟨_,zdk zz3 (by omega),?_⟩|refine⟨zdk zz3 (by omega),?_⟩|refine⟨_,zc2 ok.lines,?_⟩|refine⟨zc2 ok.lines,?_⟩|refine⟨_,zdk zzw (by omega),?_⟩|refine⟨zdk zzw (by omega),?_⟩|refine⟨_,zc2 ok.flags,?_⟩|refine⟨zc2 ok.flags,?_⟩|refine⟨_,zdk z0t (by omega),?_⟩|refine⟨zdk z0t (by omega),?_⟩|infer_instance)
 refine zb4 (λj ρ=>∃ (o2 o3:Option DV),ρ = [some (.im (zda h)),some (.own (tsD ((zcy h j).map (zat 32)))),o2,o3]) ⟨none,none,rfl⟩ (λρ zz=>?_) λj d ρ N hd hN zz=>?_
 ·obtain⟨o2,o3,e⟩:=zz
  subst e
  rw[Qe]
  refine⟨_,rfl,?_⟩
  have:zcy h h.hands.length=zbn h:=by unfold zcy zbn;rw[YA]
  rw[this]
  exact q
 ·obtain⟨o2,o3,e⟩:=zz
  subst e
  rw[Q4] at hd
  obtain⟨x,hx,rfl⟩:=QV.mp hd
  have hxm:x ∈ h.hands:=Zl hx
  obtain⟨hn,hr⟩:=ok.hands x hxm
  have p1:=zjh hs j
  have p2:=hs.rules x hxm
  have nn:=(zeg hn).1
  refine⟨zgx x,?_⟩
  (repeat first|refine⟨_,zc2 hn,?_⟩|refine⟨zc2 hn,?_⟩|refine⟨_,zdk zzx (by omega),?_⟩|refine⟨zdk zzx (by omega),?_⟩|refine⟨_,zct (a:=(zcy h j).map (zat 32)) (b := [zat 32 [cds "hand", numT x.n]]) (by rw[Qe];show _+1<=_;omega),?_⟩|refine⟨zct (a:=(zcy h j).map (zat 32)) (b := [zat 32 [cds "hand", numT x.n]]) (by rw[Qe];show _+1<=_;omega),?_⟩|infer_instance)
  refine zc0 (α:=Rul) (enc:=zbm) (e:=λr => .str (tx (zat 32 (za3 r)))) (λr hr' P hP=>?_) (by omega) ?_
  ·(repeat infer_instance)
   exact⟨hr r hr',hP _ rfl⟩
  rw[show x.rs.map (λr=>QX (tx (zat 32 (za3 r))))=tsD ((x.rs.map za3).map (zat 32)) by unfold tsD;rw[Q5,Q5];rfl]
  refine⟨_,zct (by rw[Qf,Qe,Qe,Qe];show _+1+_<=_;omega),zav (λ_=>rfl) _,hN _ ⟨some (.im (.int (x.n:Nat))),some (.im (.tuple (x.rs.map zbm))),?_⟩⟩
  rw[zo9 hx,QA,QA]
  rfl
end
def figs:List Nat := [48,49,50,51,52,53,54,55,56,57]
theorem z5c:Qi "0123456789" = tx figs:=by decide +kernel
theorem zx9{c:Nat}:c ∈ figs↔48<=c/\c<=57:=by
 unfold figs
 simp only[Ql,Qo,or_false]
 omega
section
variable {P : Program} {w : World} {K : Qa} {mg : Str → Option Value} {base : Heap} {k : Nat}
abbrev zhs:Stmt:=top 36
theorem zp5:FnScope ["_law_word"] ["_law_word"] (zah zhs):=⟨rfl,rfl,rfl,by decide +kernel,rfl,by decide +kernel,by decide +kernel⟩
theorem za8(B:Blt mg)(T:Top3 K mg "_law_is_number" zhs):Def3 P w K mg base 1 "_law_is_number" ["_law_word"] (spO K (λ_=>True) 1 zcu):=by
 refine mk_O T zp5 (λ_ _ _ _ _ _ us hl=>len1 hl λ_=>rfl) rfl λf cdv A outer s H E O hφ C=>⟨_,(zad (s_if (t_w (w_or (t_eq C (zab 0) zag) (w_or (t_gt (za9 C B (zaa (zab 0) zac)) zae) (zfs (t_gt (za9 C B (zaa (zcp 1 ["_law_sign_here", "_law_word"] C (λ_ => .of rfl (by kernel_rfl)) (zsa (zab 0)) (zbh 0) (ya8 (z1p (C.comp _ _) (zab 0) zag)) (zab 0)) zac)) zae))))) (zai (zar e_bl)) za2) (zai (zar (e_or (e_eq C (zab 0) zag) (zc8 (e_ne C (zan C (zab 0) zae) zag)))))),λds Qr hn q=>?_⟩
 obtain⟨v,rfl,hv,q⟩:=q
 have sz:=sizeLine_eq
 have hl:=hv.len
 have es:sgs (tx v)=v.map λc => .str (sg c):=by unfold sgs;rw[zbd]
 have e0:Qi "0" = tx [48]:=by decide +kernel
 have en:Qi "" = tx []:=by decide +kernel
 rw[z5c]
 (repeat first|refine⟨_,zch en hv ⟨by decide,by simp⟩,?_⟩|refine⟨zch en hv ⟨by decide,by simp⟩,?_⟩|infer_instance)
 rw[if_neg Qc]
 refine iteB (λa1=>?_) λa1=>?_
 ·cases of_decide_eq_true a1
  (repeat infer_instance)
  exact q
 have l1:1<=v.length:=by cases v with|nil=>cases a1|cons x xs=>exact Nat.le_add_left 1 _
 (repeat first|refine⟨_,zde hv,?_⟩|refine⟨zde hv,?_⟩|infer_instance)
 refine iteB (λa2=>?_) λa2=>?_
 ·unfold zak at q
  rw[show decide (v.length<=3)=false from decide_eq_false (by have:=of_decide_eq_true a2;omega),QI,QI,QD] at q
  (repeat infer_instance)
  exact q
 have l3:v.length<=3:=by have:=of_decide_eq_false a2;omega
 (repeat infer_instance)
 rw[es]
 refine zwc (α:=Nat) (enc:=λc => .str (sg c)) (e:=λc => .str (sg c)) (p:=λc=>!decide (c ∈ figs)) (λc hc Pn Py hn hy=>?_) (by omega) ?_
 ·refine⟨_,_,rfl,rfl,_,z8y figs c true,_,rfl,?_⟩
  dsimp only
  refine iteB (λb=>?_) λb=>hn b
  exact⟨_,_,rfl,rfl,hy b _ rfl⟩
 have hdig:((v.filter λc=>!decide (c ∈ figs)).length=0)↔digB v=true:=by
  unfold digB
  rw[Yr,List.filter_eq_nil_iff,QK]
  simp only[JJ,Bool.not_eq_true,Bool.not_eq_false',decide_eq_true_eq,Qp,zx9,decide_eq_false_iff_not,Classical.not_not]
 have hln:lenF [Zo ((v.filter λc=>!decide (c ∈ figs)).map λc => .str (sg c))]=some (.o (.int ((v.filter λc=>!decide (c ∈ figs)).length:Nat))):=by
  show some (R.o (ZO ((Y4 _ _).length:Nat)))=_
  rw[Qe]
 (repeat first|refine⟨_,hln,?_⟩|refine⟨hln,?_⟩|infer_instance)
 refine iteB (λa3=>?_) λa3=>?_
 ·have hd:digB v=false:=by
   cases e:digB v with
   | true=>have:=hdig.mpr e;have:=of_decide_eq_true a3;omega
   | false=>rfl
  unfold zak at q
  rw[hd,QD,QD] at q
  (repeat infer_instance)
  exact q
 have dg:digB v=true:=hdig.mp (by have:=of_decide_eq_false a3;omega)
 have isN:zak v=(decide (v = [48]) || !decide (v.head? = some 48)):=by unfold zak;rw[dg,decide_eq_true l1,decide_eq_true l3];rfl
 rw[isN] at q
 have h0:0<v.length:=l1
 have hx:idxF (.str (tx v)) (.int 0)=some (.o (.str (tx [v[0]]))):=zdc (k:=0) h0 (by omega)
 (repeat first|refine⟨_,zch e0 hv (lng1 48),?_⟩|refine⟨zch e0 hv (lng1 48),?_⟩|infer_instance)
 rw[if_neg Qc]
 refine iteB (λa4=>?_) λa4=>?_
 ·rw[a4,Bool.true_or] at q
  exact q
 rw[a4,qp] at q
 (repeat first|refine⟨_,hx,?_⟩|refine⟨hx,?_⟩|refine⟨_,zch e0 (lng1 v[0] (hv.sgn _ (QQ h0))) (lng1 48),?_⟩|refine⟨zch e0 (lng1 v[0] (hv.sgn _ (QQ h0))) (lng1 48),?_⟩|infer_instance)
 rw[if_pos rfl]
 have e5:decide ([v[0]] = [48])=decide (v.head? = some 48):=by
  rw[jK,Qk h0]
  exact decide_eq_decide.mpr (by simp)
 rw[e5]
 exact q
end
section
variable {P : Program} {w : World} {K : Qa} {mg : Str → Option Value} {base : Heap} {k : Nat}
abbrev zjq:Stmt:=top 37
theorem ztt:FnScope ["_law_line", "_law_words", "_law_deed_here"] ["_law_line"] (zah zjq):=⟨rfl,rfl,rfl,by decide +kernel,rfl,by decide +kernel,by decide +kernel⟩
theorem zfh(B:Blt mg)(za8:Def3 P w K mg base 1 "_law_is_number" ["_law_word"] (spO K (λ_=>True) 1 zcu))(T:Top3 K mg "_law_is_rule" zjq):Def3 P w K mg base 2 "_law_is_rule" ["_law_line"] (spO K (λ_=>True) 1 zpg):=by
 refine mk_O T ztt (λ_ _ _ _ _ _ us hl=>len1 hl λ_=>rfl) rfl λf cdv A outer s H E O hφ C=>⟨_,(zad (zao 1 (zdv C (zab 0) zag)) (zad (s_if (t_w (w_or (zfi (zcv (za1 C za8 (λ_=>trivial) (zaa (zan C (zab 1) zae) zac)))) (w_or (zfi (zcv (za1 C za8 (λ_=>trivial) (zaa (zan C (zab 1) zfm) zac)))) (zfs (t_lt (za9 C B (zaa (zab 1) zac)) zae))))) (zai (zar e_bl)) za2) (zad (zao 2 (zbi C (zab 1) (zbk zae) (zbk zfm))) (zad (s_if (t_w (w_or (t_eq C (zab 2) (zbz (zaa zag zac))) (zfs (t_w (z0g (t_eq C (za9 C B (zaa (zab 2) zac)) zae) (zvd (t_eq C (zan C (zab 2) zae) zag))))))) (zai (zar (znm C B (zaa (zcp 1 ["_law_one", "_law_line", "_law_words", "_law_deed_here"] C (λ_ => .of rfl (by kernel_rfl)) (zg5 C (zbi C (zab 2) (zbk zae) zcg)) (zbh 0) zdh (za1 (C.comp _ _) za8 (λ_=>trivial) (zaa (zab 0) zac))) zac)))) za2) (zad (s_if (t_w (w_or (t_ne C (za9 C B (zaa (zab 2) zac)) zae) (zfs (zfi (zcv (za1 C za8 (λ_=>trivial) (zaa (zan C (zab 2) zae) zac))))))) (zai (zar e_bl)) za2) (zad (s_if (t_in C (zan C (zab 2) zae) (zba (zaa zag (zaa zag zac)))) (zai (zar (za1 C za8 (λ_=>trivial) (zaa (zan C (zab 2) zae) zac)))) za2) (zai (zar (zb6 (e_in C (zan C (zab 2) zae) (zba (zaa zag (zaa zag zac)))) (zc8 (e_in C (zan C (zab 2) zae) (zqg C B (zaa zag zac))))))))))))),λds Qr hn q=>?_⟩
 obtain⟨t,rfl,ht,q⟩:=q
 have sz:=sizeLine_eq
 have hl:=ht.len
 have wp:=zd8 32 t
 have wl:=zdj 32 t
 have wln:∀ w ∈ cutW 32 t,Lng w:=λw hw=>zd9 ht hw
 rw[zez]
 (repeat infer_instance)
 refine⟨by rw[zb5];omega,?_⟩
 rw[zdm]
 generalize cutW 32 t=ws at wp wl wln q
 obtain⟨vs,u,rfl⟩:=zr0 wp
 have hu:Lng u:=wln u (by simp)
 (repeat first|refine⟨_,zav (λ_=>rfl) _,?_⟩|refine⟨zav (λ_=>rfl) _,?_⟩|refine⟨_,zal (i:=0) wp,?_⟩|refine⟨zal (i:=0) wp,?_⟩|infer_instance)
 refine⟨zbv wln 0,?_⟩
 (repeat infer_instance)
 refine iteB (λa1=>?_) λa1=>?_
 ·rw[zm1 (zgo a1)] at q
  (repeat infer_instance)
  exact q
 (repeat first|refine⟨_,zgl (f:=λw=>QX (tx w)),?_⟩|refine⟨zgl (f:=λw=>QX (tx w)),?_⟩|infer_instance)
 refine⟨hu,?_⟩
 (repeat infer_instance)
 refine iteB (λa2=>?_) λa2=>?_
 ·have e:zbr (vs ++ [u])=false:=by
   cases vs with
   | nil=>exact zm5 (by simp)
   | cons a ds=>exact zn4 (zgo a2)
  rw[e] at q
  (repeat infer_instance)
  exact q
 (repeat first|refine⟨_,zaz (vs ++ [u]),?_⟩|refine⟨zaz (vs ++ [u]),?_⟩|infer_instance)
 refine iteB (λa3=>?_) λa3=>?_
 ·rw[zm5 (by have:=of_decide_eq_true a3;omega)] at q
  (repeat infer_instance)
  exact q
 have l3:3<=(vs ++ [u]).length:=by have:=of_decide_eq_false a3;omega
 match vs,l3 with
 | [],h=>exact absurd h (by simp)
 | a::ds,l3 =>
 have ha:zak a=true:=zfj a1
 have hz:zak u=true:=zfj a2
 have dln:∀ w ∈ ds,Lng w:=λw hw=>wln w (by simp[hw])
 rw[J8,zq0 ha hz] at q
 have sl:slcF (some 1) (some (-1)) (.list (tsD (a::(ds ++ [u]))))=some (.n (tsD ds)):=by rw[zb2,zxp]
 have d1:1<=ds.length:=by simp at l3;omega
 have dl:ds.length<=100001:=by simp at wl;omega
 have sl1:slcF (some 1) none (.list (tsD ds))=some (.n (tsD (ds.drop 1))):=by rw[zb2];exact congrArg (λz=>some (R.n (tsD z))) (zec ds 1)
 have all1:∀ {Z:DSt} {Q:R->Prop},Q (.o (.bool ((ds.drop 1).all zak)))->zbt 1 (gN 0) yesD (calD 1 zcu (ze9 (vD 0) aNil)) Z (λds'=>allD false [.list ds'] Q) (tsD (ds.drop 1)) []:=λ{Z Q} hq=>by
  refine zc0 (α:=List Nat) (enc:=λw => .str (tx w)) (e:=λw => .bool (zak w)) (λw hw P hP=>?_) (by rw[Z1];omega) ?_
  ·exact⟨_,_,rfl,rfl,rfl,w,rfl,dln w (YI hw),hP _ rfl⟩
  ·refine⟨_,zo1 _ _,?_⟩
   rw[zof]
   exact hq
 have ie:∀ {b:Bool} {A B:Prop},b=false->B->if b=true then A else B:=λh hb=>by rw[h,if_neg Qc];exact hb
 have it:∀ {b:Bool} {A B:Prop},b=true->A->if b=true then A else B:=λh ha=>by rw[h,if_pos rfl];exact ha
 (repeat first|refine⟨_,sl,?_⟩|refine⟨sl,?_⟩|refine⟨_,zav (λ_=>rfl) _,?_⟩|refine⟨zav (λ_=>rfl) _,?_⟩|refine⟨_,zuz (s := "go") dln (by decide +kernel),?_⟩|refine⟨zuz (s := "go") dln (by decide +kernel),?_⟩|infer_instance)
 rw[if_neg Qc]
 match ds,d1 with
 | [b],_ =>
   refine iteB (λa4=>?_) λa4=>?_
   ·(repeat first|refine⟨_,sl1,?_⟩|refine⟨sl1,?_⟩|infer_instance)
    refine all1 ?_
    rw[show dsB [b]=true from decide_eq_true (qo (of_decide_eq_true a4)).1] at q
    exact q
   ·rw[show dsB [b]=false from decide_eq_false λe=>by rw[e] at a4;simp at a4] at q
    (repeat first|refine⟨_,zaz [b],?_⟩|refine⟨zaz [b],?_⟩|infer_instance)
    exact q
 | [b,c],_ =>
   refine ie (decide_eq_false (by simp)) ?_
   (repeat first|refine⟨_,zaz [b,c],?_⟩|refine⟨zaz [b,c],?_⟩|refine⟨_,zal (ws := [b,c]) (i:=0) (by decide),?_⟩|refine⟨zal (ws := [b,c]) (i:=0) (by decide),?_⟩|refine⟨_,zep (s := "empty") (dln b (by simp)) (by decide +kernel),?_⟩|refine⟨zep (s := "empty") (dln b (by simp)) (by decide +kernel),?_⟩|infer_instance)
   rw[if_neg Qc]
   refine iteB (λa4=>?_) λa4=>?_
   ·(repeat first|refine⟨_,sl1,?_⟩|refine⟨sl1,?_⟩|infer_instance)
    refine⟨dln c (by simp),by show 0<sizeLine;omega,?_⟩
    rw[show dsB [b,c]=zak c by show(decide (b=cds "empty") && zak c)=_;rw[show decide (b=cds "empty")=true from a4,Q7]] at q
    refine⟨[zak c],rfl,?_⟩
    rw[show([zak c].all id)=zak c by simp]
    exact q
   ·rw[show dsB [b,c]=false by show(decide (b=cds "empty") && zak c)=_;rw[show decide (b=cds "empty")=false from a4];rfl] at q
    (repeat first|refine⟨_,zaz [b,c],?_⟩|refine⟨zaz [b,c],?_⟩|infer_instance)
    exact q
 | [b,c,d],_ =>
   refine ie (decide_eq_false (by simp)) ?_
   (repeat first|refine⟨_,zaz [b,c,d],?_⟩|refine⟨zaz [b,c,d],?_⟩|refine⟨_,zal (ws := [b,c,d]) (i:=1) (by decide),?_⟩|refine⟨zal (ws := [b,c,d]) (i:=1) (by decide),?_⟩|infer_instance)
   refine⟨dln c (by simp),?_⟩
   (repeat infer_instance)
   refine iteB (λa4=>?_) λa4=>?_
   ·rw[show dsB [b,c,d]=false by show(zak c && _)=_;rw[show zak c=false from zgo a4];rfl] at q
    (repeat infer_instance)
    exact q
   have qe:dsB [b,c,d]=((decide (b=cds "set") || decide (b=cds "if")) && zak d || (decide (b=cds "send") || decide (b=cds "take")) && zev d):=by show(zak c && _)=_;rw[show zak c=true from zfj a4,Q7]
   rw[qe] at q
   have in1:∀ x y:String,(zco (cds x) && decide ((cds x).length<=1000))=true->(zco (cds y) && decide ((cds y).length<=1000))=true->inF false (.str (tx b)) (.tuple [.str (Qi x),.str (Qi y)])=some (.o (.bool (decide (b=cds x) || decide (b=cds y)))):=λx y h1 h2=>by
    rw[zb3 x,zb3 y]
    have:=z6x (neg:=false) (vs := [cds x,cds y]) (dln b (by simp)) (z5b h1 h2)
    rw[if_neg Qc,show decide (b ∈ [cds x,cds y])=(decide (b=cds x) || decide (b=cds y)) by simp] at this
    exact this
   (repeat first|refine⟨_,zal (ws := [b,c,d]) (i:=0) (by decide),?_⟩|refine⟨zal (ws := [b,c,d]) (i:=0) (by decide),?_⟩|refine⟨_,in1 "set" "if" (by decide +kernel) (by decide +kernel),?_⟩|refine⟨in1 "set" "if" (by decide +kernel) (by decide +kernel),?_⟩|infer_instance)
   refine iteB (λa5=>?_) λa5=>?_
   ·rw[a5,Q7] at q
    have no:(decide (b=cds "send") || decide (b=cds "take"))=false:=by
     rcases Bool.or_eq_true_iff.mp a5 with h|h <;> rw[of_decide_eq_true h] <;> decide +kernel
    rw[no,QD,qk] at q
    (repeat first|refine⟨_,zal (ws := [b,c,d]) (i:=2) (by decide),?_⟩|refine⟨zal (ws := [b,c,d]) (i:=2) (by decide),?_⟩|infer_instance)
    exact⟨dln d (by simp),q⟩
   ·rw[a5,QD,qp] at q
    (repeat first|refine⟨_,zal (ws := [b,c,d]) (i:=0) (by decide),?_⟩|refine⟨zal (ws := [b,c,d]) (i:=0) (by decide),?_⟩|refine⟨_,in1 "send" "take" (by decide +kernel) (by decide +kernel),?_⟩|refine⟨in1 "send" "take" (by decide +kernel) (by decide +kernel),?_⟩|infer_instance)
    refine iteB (λa6=>?_) λa6=>?_
    ·rw[a6,Q7] at q
     (repeat first|refine⟨_,zal (ws := [b,c,d]) (i:=2) (by decide),?_⟩|refine⟨zal (ws := [b,c,d]) (i:=2) (by decide),?_⟩|refine⟨_,zoq,?_⟩|refine⟨zoq,?_⟩|refine⟨_,zui (dln d (by simp)) zrb,?_⟩|refine⟨zui (dln d (by simp)) zrb,?_⟩|infer_instance)
     rw[if_neg Qc,show decide (d ∈ abc.map λc => [c])=zev d from JD.mpr (by rw[decide_eq_true_eq];exact z5x)]
     exact q
    ·rw[a6,QD] at q
     exact q
 | b::c::d::e::r,_ =>
   rw[show dsB (b::c::d::e::r)=false from rfl] at q
   refine ie (decide_eq_false (by simp)) ?_
   (repeat first|refine⟨_,zaz (b::c::d::e::r),?_⟩|refine⟨zaz (b::c::d::e::r),?_⟩|infer_instance)
   exact q
end
theorem z5n{ρ:DSt}{u:List Nat}{Q:R->Prop}(hρ:ρ[4]? = some (some (.own (u.map λc => .str (sg c)))))(hu:Lng u)(u4:u.length<=4090)(uf:FewS 25 u)(q:Q (.o (.bool (!decide (u = []) && zds u)))) :
 if decide ((0:Int)<(u.length:Nat))=true then andV (opDE (fn2 (eqF false)) (vD 4) (ssDw (vD 4))) (andV (opDE (fn2 geSF) (zci zsf (ze9 (vD 4) aNil)) (cD (QX (Qi "a")))) (opDE (fn2 leSF) (zci zsd (ze9 (vD 4) aNil)) (cD (QX (Qi "z"))))) ρ Q else Q (.o (.bool false)):=by
 refine iteB (λa1=>?_) λa1=>?_
 rotate_left
 ·have:u = []:=Yr.mp (by have:=of_decide_eq_false a1;omega)
  rw[decide_eq_true this,Bool.not_true,QD] at q
  exact q
 have hne:u ≠ []:=by rintro rfl;cases a1
 rw[decide_eq_false hne,Bool.not_false,Q7] at q
 have em:(u.map λc=>QX (sg c))=(u.map sg).map .str:=by rw[Q5];rfl
 refine⟨_,_,hρ,rfl,_,_,hρ,rfl,u.map sg,.inr (congrArg Zo em),by rw[Qe];omega,z7u uf,λzs nd hm hs=>?_⟩
 obtain⟨z,rfl,z1,z2,z3⟩:=z6d nd hm hs
 have e1:(u.map λc=>QX (sg c))=tsD (u.map λc => [c]):=by show _=Y4 _ (Y4 _ _);rw[Q5];rfl
 have e2:((z.map sg).map QX)=tsD (z.map λc => [c]):=by show _=Y4 _ (Y4 _ _);rw[Q5,Q5];rfl
 have ln:∀ x:List Nat,(∀ c ∈ x,c<128)->∀ v ∈ x.map (λc => [c]),Lng v:=λx h v hv=>by
  obtain⟨c,hc,rfl⟩:=Qz.mp hv
  exact lng1 c (h c hc)
 have inj:((u.map λc => [c])=z.map λc => [c])↔zew u=true:=by
  rw[jh (λ_ _ h=>(qo h).1)]
  exact zwi z1 z2 z3
 refine⟨_,(by rw[show(R.o (Zo (u.map λc => .str (sg c)))).d = .list (tsD (u.map λc => [c])) from congrArg Zo e1,show(R.n ((z.map sg).map .str)).d = .list (tsD (z.map λc => [c])) from congrArg Zo e2];exact z0b (ln u hu.sgn) (ln z λc hc=>hu.sgn c ((z2 c).mp hc))),?_⟩
 rw[if_neg Qc,decide_eq_decide.mpr inj]
 refine⟨_,rfl,?_⟩
 refine iteB (λa2=>?_) λa2=>?_
 rotate_left
 ·unfold zds at q
  rw[show zew u=false from Jw.mpr (of_decide_eq_false a2),QI] at q
  exact q
 have hr:=of_decide_eq_true a2
 have pw:=zps hr
 have ea:Qi "a" = sg 97:=by decide +kernel
 have ez:Qi "z" = sg 122:=by decide +kernel
 rw[ea,ez]
 refine⟨_,_,hρ,rfl,u,rfl,hne,λc hc hc'=>⟨_,ya7 c 97,_,rfl,?_⟩⟩
 refine iteB (λa3=>?_) λa3=>?_
 ·refine⟨_,_,hρ,rfl,u,rfl,hne,λd hd hd'=>⟨_,yb5 d 122,?_⟩⟩
  unfold zds at q
  rw[hr,zy8 pw hc hc' hd hd',a3,Q7,j5] at q
  exact q
 ·unfold zds at q
  have:lowB u=false:=by
   cases e:lowB u with
   | false=>rfl
   | true =>
     unfold lowB at e
     have:=QK.mp e c hc
     simp only[Qp,decide_eq_true_eq] at this
     exact absurd this.1 (of_decide_eq_false a3)
  rw[this,QD] at q
  exact q
section
variable {P : Program} {w : World} {K : Qa} {mg : Str → Option Value} {base : Heap} {k : Nat}
abbrev zl5:Stmt:=top 38
theorem zx2:FnScope ["_law_line", "_law_at", "_law_hands", "_law_words", "_law_letters", "_law_fine"] ["_law_line", "_law_at", "_law_hands"] (zah zl5):=⟨rfl,rfl,rfl,by decide +kernel,rfl,by decide +kernel,by decide +kernel⟩
theorem zge(B:Blt mg)(za8:Def3 P w K mg base 1 "_law_is_number" ["_law_word"] (spO K (λ_=>True) 1 zcu))(zfh:Def3 P w K mg base 2 "_law_is_rule" ["_law_line"] (spO K (λ_=>True) 1 zpg))(T:Top3 K mg "_law_is_row" zl5):Def3 P w K mg base 3 "_law_is_row" ["_law_line", "_law_at", "_law_hands"] (spO K (λ_=>True) 3 zr6):=by
 refine mk_O T zx2 (λ_ _ _ _ _ _ us hl=>len3 hl λ_ _ _=>rfl) rfl λf cdv A outer s H E O hφ C=>⟨_,(zad (zao 3 (zdv C (zab 0) zag)) (zad (s_if (t_eq C (zab 1) zae) (zad (zao 4 (zqg C B (zaa (zan C (zab 3) zfm) zac))) (zad (zao 5 (zb6 (e_gt (za9 C B (zaa (zab 4) zac)) zae) (zb6 (e_eq C (zab 4) (zsj C B (zab 4))) (zb6 (yb2 (z9r C B (zaa (zab 4) zac)) zag) (zc8 (yb6 (ya1 C B (zaa (zab 4) zac)) zag)))))) (zai (zar (zb6 (e_eq C (za9 C B (zaa (zab 3) zac)) zae) (zb6 (e_eq C (zan C (zab 3) zae) zag) (zc8 (zab 5)))))))) za2) (zad (s_if (t_lt (zab 1) zae) (zai (zar (zb6 (e_eq C (za9 C B (zaa (zab 3) zac)) zae) (zb6 (e_eq C (zan C (zab 3) zae) (zan C (zbz (zaa zag (zaa zag zac))) (zk5 (zab 1) zae))) (zc8 (za1 C za8 (λ_=>trivial) (zaa (zan C (zab 3) zae) zac))))))) za2) (zad (s_if (t_eq C (zan C (zab 3) zae) zag) (zai (zar (zb6 (e_eq C (za9 C B (zaa (zab 3) zac)) zae) (zc8 (za1 C za8 (λ_=>trivial) (zaa (zan C (zab 3) zae) zac)))))) za2) (zai (zar (zb6 (e_gt (zab 2) zae) (zc8 (za1 C zfh (λ_=>trivial) (zaa (zab 0) zac)))))))))),λds Qr hn q=>?_⟩
 obtain⟨t,i,n,rfl,ht,h4,hf,q⟩:=q
 have sz:=sizeLine_eq
 have hl:=ht.len
 have wp:=zd8 32 t
 have wl:=zdj 32 t
 have wln:∀ w ∈ cutW 32 t,Lng w:=λw hw=>zd9 ht hw
 have win:∀ w ∈ cutW 32 t,w.length<=4090/\FewS 25 w:=λw hw=>⟨Q2 (zeh 32 t w hw).1 h4,hf.sub (zeh 32 t w hw).2⟩
 rw[zez]
 (repeat infer_instance)
 refine⟨by rw[zb5];omega,?_⟩
 rw[zdm]
 generalize hws:cutW 32 t=ws at wp wl wln win q
 have l0:=zbv wln 0
 have l1:=zbv wln 1
 (repeat first|refine⟨_,zav (λ_=>rfl) _,?_⟩|refine⟨zav (λ_=>rfl) _,?_⟩|infer_instance)
 refine iteB (λa1=>?_) λa1=>?_
 ·have hi:i=0:=by have:=of_decide_eq_true a1;omega
  subst hi
  rw[show ze5 ws 0 n=zbx 0 ws from if_pos (by decide)] at q
  obtain⟨vs,u,rfl⟩:=zr0 wp
  obtain⟨u4,uf⟩:=win u (by simp)
  have hu:=wln u (by simp)
  have lnu:lenF [Zo (u.map λc => .str (sg c))]=some (.o (.int (u.length:Nat))):=by
   show some (R.o (ZO ((Y4 _ _).length:Nat)))=_
   rw[Qe]
  (repeat first|refine⟨_,zgl (f:=λw=>QX (tx w)),?_⟩|refine⟨zgl (f:=λw=>QX (tx w)),?_⟩|refine⟨_,zra (u:=u) (by omega),?_⟩|refine⟨zra (u:=u) (by omega),?_⟩|refine⟨_,zav (λ_=>rfl) _,?_⟩|refine⟨zav (λ_=>rfl) _,?_⟩|refine⟨_,lnu,?_⟩|refine⟨lnu,?_⟩|infer_instance)
  refine z5n (by exact rfl) hu u4 uf ?_
  refine⟨rfl,?_⟩
  unfold zbx at q
  rw[if_pos rfl] at q
  (repeat first|refine⟨_,zaz (vs ++ [u]),?_⟩|refine⟨zaz (vs ++ [u]),?_⟩|infer_instance)
  refine iteB (λa2=>?_) λa2=>?_
  rotate_left
  ·rw[show decide ((vs ++ [u]).length=2)=false from decide_eq_false (by have:=of_decide_eq_false a2;omega),QD] at q
   exact q
  have l2:(vs ++ [u]).length=2:=by have:=of_decide_eq_true a2;omega
  rw[decide_eq_true l2,Q7] at q
  (repeat first|refine⟨_,zal (i:=0) wp,?_⟩|refine⟨zal (i:=0) wp,?_⟩|refine⟨_,zep (s := "letters") l0 (by decide +kernel),?_⟩|refine⟨zep (s := "letters") l0 (by decide +kernel),?_⟩|infer_instance)
  rw[if_neg Qc]
  refine iteB (λa3=>?_) λa3=>?_
  ·rw[show decide ((vs ++ [u]).getD 0 []=zcn 0)=true from a3,Q7] at q
   (repeat infer_instance)
   obtain⟨a,rfl⟩:∃ a,vs = [a]:=List.length_eq_one_iff.mp (by rw[Qf,Z8] at l2;omega)
   exact q
  ·rw[show decide ((vs ++ [u]).getD 0 []=zcn 0)=false from a3,QD] at q
   exact q
 have i0:i ≠ 0:=by have:=of_decide_eq_false a1;omega
 (repeat infer_instance)
 refine iteB (λb1=>?_) λb1=>?_
 ·have i3:i<3:=by have:=of_decide_eq_true b1;omega
  rw[show ze5 ws i n=zbx i ws from if_pos i3] at q
  unfold zbx at q
  rw[if_neg i0] at q
  (repeat first|refine⟨_,zaz ws,?_⟩|refine⟨zaz ws,?_⟩|infer_instance)
  refine iteB (λa2=>?_) λa2=>?_
  rotate_left
  ·rw[show decide (ws.length=2)=false from decide_eq_false (by have:=of_decide_eq_false a2;omega),QD] at q
   exact q
  have l2:ws.length=2:=by have:=of_decide_eq_true a2;omega
  rw[decide_eq_true l2,Q7] at q
  have c2:i=1\/i=2:=by omega
  rcases c2 with rfl|rfl
  ·(repeat first|refine⟨_,zal (i:=0) wp,?_⟩|refine⟨zal (i:=0) wp,?_⟩|infer_instance)
   refine⟨_,zep (s := "lines") l0 (by decide +kernel),?_⟩
   rw[if_neg Qc]
   refine⟨_,rfl,iteB (λa3=>?_) λa3=>?_⟩
   ·rw[show decide (ws.getD 0 []=zcn 1)=true from a3,Q7] at q
    (repeat first|refine⟨_,zal (ws:=ws) (i:=1) (by omega),?_⟩|refine⟨zal (ws:=ws) (i:=1) (by omega),?_⟩|infer_instance)
    exact⟨l1,q⟩
   ·rw[show decide (ws.getD 0 []=zcn 1)=false from a3,QD] at q
    exact q
  ·(repeat first|refine⟨_,zal (i:=0) wp,?_⟩|refine⟨zal (i:=0) wp,?_⟩|infer_instance)
   refine⟨_,zep (s := "flags") l0 (by decide +kernel),?_⟩
   rw[if_neg Qc]
   refine⟨_,rfl,iteB (λa3=>?_) λa3=>?_⟩
   ·rw[show decide (ws.getD 0 []=zcn 2)=true from a3,Q7] at q
    (repeat first|refine⟨_,zal (ws:=ws) (i:=1) (by omega),?_⟩|refine⟨zal (ws:=ws) (i:=1) (by omega),?_⟩|infer_instance)
    exact⟨l1,q⟩
   ·rw[show decide (ws.getD 0 []=zcn 2)=false from a3,QD] at q
    exact q
 ·have i3:¬ i<3:=by have:=of_decide_eq_false b1;omega
  unfold ze5 at q
  rw[if_neg i3] at q
  (repeat first|refine⟨_,zal (i:=0) wp,?_⟩|refine⟨zal (i:=0) wp,?_⟩|infer_instance)
  refine⟨_,zep (s := "hand") l0 (by decide +kernel),?_⟩
  rw[if_neg Qc]
  refine⟨_,rfl,iteB (λa3=>?_) λa3=>?_⟩
  ·rw[if_pos (of_decide_eq_true a3)] at q
   unfold zbf at q
   rw[show decide (ws.getD 0 []=cds "hand")=true from a3,Q7] at q
   (repeat first|refine⟨_,zaz ws,?_⟩|refine⟨zaz ws,?_⟩|infer_instance)
   refine iteB (λa2=>?_) λa2=>?_
   ·have l2:ws.length=2:=by have:=of_decide_eq_true a2;omega
    rw[decide_eq_true l2,Q7] at q
    (repeat first|refine⟨_,zal (ws:=ws) (i:=1) (by omega),?_⟩|refine⟨zal (ws:=ws) (i:=1) (by omega),?_⟩|infer_instance)
    exact⟨l1,q⟩
   ·rw[show decide (ws.length=2)=false from decide_eq_false (by have:=of_decide_eq_false a2;omega),QD] at q
    exact q
  ·rw[if_neg (of_decide_eq_false a3)] at q
   (repeat infer_instance)
   refine iteB (λa2=>?_) λa2=>?_
   ·rw[show decide (0<n)=true from decide_eq_true (by have:=of_decide_eq_true a2;omega),Q7] at q
    (repeat infer_instance)
    refine⟨ht,?_⟩
    rw[hws]
    exact q
   ·rw[show decide (0<n)=false from decide_eq_false (by have:=of_decide_eq_false a2;omega),QD] at q
    exact q
end
section
variable {P : Program} {w : World} {K : Qa} {mg : Str → Option Value} {base : Heap} {k : Nat}
abbrev zf9:Stmt:=top 39
theorem znb:FnScope ["_law_text", "_law_lines", "_law_hands", "_law_at"] ["_law_text"] (zah zf9):=⟨rfl,rfl,rfl,by decide +kernel,rfl,by decide +kernel,by decide +kernel⟩
theorem zb8(B:Blt mg)(zge:Def3 P w K mg base 3 "_law_is_row" ["_law_line", "_law_at", "_law_hands"] (spO K (λ_=>True) 3 zr6))(T:Top3 K mg "_law_first_wrong" zf9):Def3 P w K mg base 4 "_law_first_wrong" ["_law_text"] (spO K (λ_=>True) 1 zla):=by
 refine mk_O T znb (λ_ _ _ _ _ _ us hl=>len1 hl λ_=>rfl) rfl λf cdv A outer s H E O hφ C=>⟨_,(zad (zao 1 (zdv C (zab 0) zag)) (zad (zao 2 zae) (zad (zfp C (zel (i_r1 C B (zaa (za9 C B (zaa (zab 1) zac)) zac))) (zbh (h:=1000) 3) (zad (s_if (zfi (zcv (za1 C zge (λ_=>trivial) (zaa (zan C (zab 1) (zab 3)) (zaa (zab 3) (zaa (zab 2) zac)))))) (zai (zar (zab 3))) za2) (zai (zao 2 (zaw C (zab 2) (zf5 C B (zaa (zb6 (e_gt (zab 3) zae) (zc8 (e_eq C (zbi C (zan C (zab 1) (zab 3)) zcg (zbk zae)) zag))) zac))))))) (zad (s_if (t_lt (za9 C B (zaa (zab 1) zac)) zae) (zai (zar (za9 C B (zaa (zab 1) zac)))) za2) (zai (zar znd)))))),λds Qr hn q=>?_⟩
 obtain⟨t,rfl,⟨ht,h4,hf⟩,q⟩:=q
 have sz:=sizeLine_eq
 have hl:=ht.len
 have wp:=zd8 10 t
 have wl:=zdj 10 t
 have wln:∀ w ∈ cutW 10 t,Lng w:=λw hw=>zd9 ht hw
 have win:∀ w ∈ cutW 10 t,w.length<=4090/\FewS 25 w:=λw hw=>⟨Q2 (zeh 10 t w hw).1 h4,hf.sub (zeh 10 t w hw).2⟩
 rw[zgy]
 (repeat infer_instance)
 refine⟨by rw[zb5];omega,?_⟩
 rw[zdm]
 unfold za6 at q
 generalize hws:cutW 10 t=ls at wp wl wln win q
 have hrl:(ls.map (cutW 32)).length=ls.length:=Qe ..
 have hrg:∀ j,j<ls.length->(ls.map (cutW 32)).getD j []=cutW 32 (ls.getD j []):=λj hj=>by
  rw[Q6,Q6,Q4,Qk hj]
  rfl
 (repeat first|refine⟨_,zav (λ_=>rfl) _,?_⟩|refine⟨zav (λ_=>rfl) _,?_⟩|refine⟨_,zaz ls,?_⟩|refine⟨zaz ls,?_⟩|infer_instance)
 refine⟨by omega,by omega,rfl,?_⟩
 refine zb4 (λj ρ=>∃ (n:Nat) (o3:Option DV),ρ = [some (.im (.str (tx t))),some (.own (tsD ls)),some (.im (.int (n:Nat))),o3]/\InvF (ls.map (cutW 32)) j n) ⟨0,none,rfl,z8h _⟩ (λρ zz=>?_) λj d ρ N hd hN zz=>?_
 ·obtain⟨n,o3,e,g⟩:=zz
  subst e
  rw[zc3,<- hrl] at g
  have ge:=zzb g
  rw[hrl] at ge
  (repeat first|refine⟨_,zaz ls,?_⟩|refine⟨zaz ls,?_⟩|infer_instance)
  refine iteB (λa1=>?_) λa1=>?_
  ·rw[if_pos (by have:=of_decide_eq_true a1;omega)] at ge
   rw[ge] at q
   (repeat first|refine⟨_,zaz ls,?_⟩|refine⟨zaz ls,?_⟩|infer_instance)
   exact q
  ·rw[if_neg (by have:=of_decide_eq_false a1;omega)] at ge
   obtain⟨d,ge⟩:=ge
   rw[ge] at q
   (repeat infer_instance)
   exact q
 ·obtain⟨n,o3,e,g⟩:=zz
  subst e
  obtain⟨hj,ed⟩:=zcc hd
  rw[Int.zero_add] at ed
  subst ed
  have hj:j<ls.length:=by omega
  have m1:ls.getD j [] ∈ ls:=zdl hj
  (repeat first|refine⟨_,zal (ws:=ls) (i:=j) hj,?_⟩|refine⟨zal (ws:=ls) (i:=j) hj,?_⟩|infer_instance)
  refine⟨wln _ m1,(win _ m1).1,(win _ m1).2,?_⟩
  (repeat infer_instance)
  refine iteB (λa1=>?_) λa1=>?_
  ·rw[zxx (by rw[hrl];exact hj) g (by rw[hrg j hj];exact zgo a1)] at q
   (repeat infer_instance)
   exact q
  have ok:=zfj a1
  have g':=zvx (by rw[hrl];exact hj) g (by rw[hrg j hj];exact ok)
  rw[hrg j hj] at g'
  have s4:slcF none (some 4) (.str (tx (ls.getD j [])))=some (.o (.str (tx ((ls.getD j []).take 4)))):=(z0q (by have:=(win _ m1).1;omega)).trans (congrArg (λz=>some (R.o (.str (tx z)))) (zf3 _ 4))
  have lt4:Lng ((ls.getD j []).take 4):=⟨by rw[ZJ];omega,λc hc=>(wln _ m1).sgn c (JR hc)⟩
  unfold incF at g'
  (repeat infer_instance)
  refine iteB (λa2=>?_) λa2=>?_
  ·have j2:2<j:=by have:=of_decide_eq_true a2;omega
   rw[decide_eq_true j2,Q7,<- z8u j2 ok] at g'
   (repeat first|refine⟨_,zal (ws:=ls) (i:=j) hj,?_⟩|refine⟨zal (ws:=ls) (i:=j) hj,?_⟩|refine⟨_,s4,?_⟩|refine⟨s4,?_⟩|refine⟨_,zep (s := "hand") lt4 (by decide +kernel),?_⟩|refine⟨zep (s := "hand") lt4 (by decide +kernel),?_⟩|infer_instance)
   rw[if_neg Qc]
   by_cases e:decide ((ls.getD j []).take 4=cds "hand")=true
   ·rw[if_pos e] at g'
    rw[if_pos e]
    exact hN _ ⟨n+1,_,rfl,g'⟩
   ·rw[if_neg e] at g'
    rw[if_neg e]
    exact hN _ ⟨n+0,_,rfl,g'⟩
  ·rw[decide_eq_false (show ¬ 2<j by have:=of_decide_eq_false a2;omega),QD,if_neg Qc] at g'
   (repeat infer_instance)
   exact hN _ ⟨n+0,_,rfl,g'⟩
end
theorem z3m(v w:List Nat):tx v++tx w=tx (v++w):=by
 refine zgz ?_
 show((tx v).cps++(tx w).cps).toList=_
 rw[Array.toList_append,zbd,zbd,zbd]
section
variable {P : Program} {w : World} {K : Qa} {mg : Str → Option Value} {base : Heap} {k : Nat}
abbrev zjs:Stmt:=top 40
theorem zua:FnScope ["_law_state", "_law_text", "_law_some"] ["_law_state"] (zah zjs):=⟨rfl,rfl,rfl,by decide +kernel,rfl,by decide +kernel,by decide +kernel⟩
theorem zff(B:Blt mg)(zaj:ze8 P w K mg base)(T:Top3 K mg "_law_bad_row" zjs):Def3 P w K mg base 2 "_law_bad_row" ["_law_state"] (spD K IsState 0 (zja 26)):=by
 refine mk_D T zua (λ_ _ _ _ _ _ us hl=>len1 hl λ_=>rfl) rfl λf cdv A outer s H E O hφ C=>?_
 have hO:∀ j:Unit,IsState ((λ_:Unit=>O) j):=λ_=>hφ
 refine⟨_,(zad (zao 1 zag) (zad (zao 1 (zaw C (zab 1) zag)) (zad (zao 1 (zaw C (zab 1) zag)) (zad (zao 1 (zaw C (zab 1) zag)) (zad (zao 1 (zaw C (zab 1) zag)) (zad (zao 1 (zaw C (zab 1) zag)) (zad (zao 1 (zaw C (zab 1) zag)) (zad (zao 1 (zaw C (zab 1) zag)) (zad (zao 2 (zdv C (zab 1) zag)) (zai (zar (zan C (zab 2) (zam 0 C zaj hO (zaa (za9 C B (zaa (zab 2) zac)) zac)))))))))))))),λds Qr hn q=>?_⟩
 obtain⟨rfl,q⟩:=q
 have sz:=sizeLine_eq
 (repeat infer_instance)
 rw[zvj]
 rotate_left
 ·simp only[zb3,z3m]
  refine congrArg tx ?_
  decide +kernel
 generalize hL:badRows=L
 have ln:lenF [Zo (tsD L)]=some (.o (.int (63:Nat))):=by rw[zaz,<- hL,zlw]
 (repeat first|refine⟨_,zav (λ_=>rfl) _,?_⟩|refine⟨zav (λ_=>rfl) _,?_⟩|refine⟨_,ln,?_⟩|refine⟨ln,?_⟩|infer_instance)
 refine dr (by decide) (by decide) λk hk=>?_
 obtain⟨w,e1,e2,e3,e4⟩:=z8i (k:=k) (by omega)
 rw[hL] at e1
 exact⟨_,e1,q w e2 e3 e4⟩
end
section
variable {P : Program} {w : World} {K : Qa} {mg : Str → Option Value} {base : Heap} {k : Nat}
abbrev zhx:Stmt:=top 41
theorem zqa:FnScope ["_law_state", "_law_text", "_law_some"] ["_law_state"] (zah zhx):=⟨rfl,rfl,rfl,by decide +kernel,rfl,by decide +kernel,by decide +kernel⟩
theorem zek(B:Blt mg)(zaj:ze8 P w K mg base)(T:Top3 K mg "_law_some_word" zhx):Def3 P w K mg base 2 "_law_some_word" ["_law_state"] (spD K IsState 0 (zja 10)):=by
 refine mk_D T zqa (λ_ _ _ _ _ _ us hl=>len1 hl λ_=>rfl) rfl λf cdv A outer s H E O hφ C=>?_
 have hO:∀ j:Unit,IsState ((λ_:Unit=>O) j):=λ_=>hφ
 refine⟨_,(zad (zao 1 zag) (zad (zao 1 (zaw C (zab 1) zag)) (zad (zao 2 (zdv C (zab 1) zag)) (zai (zar (zan C (zab 2) (zam 0 C zaj hO (zaa (za9 C B (zaa (zab 2) zac)) zac)))))))),λds Qr hn q=>?_⟩
 obtain⟨rfl,q⟩:=q
 have sz:=sizeLine_eq
 (repeat infer_instance)
 generalize hL:JX _ (Qi "@")=L
 have p:zkv 10 L=true:=by rw[<- hL];decide +kernel
 clear hL
 obtain⟨p1,p2⟩:=zyw p
 have ln:lenF [Zo (L.map .str)]=some (.o (.int (L.length:Nat))):=by
  show some (R.o (ZO ((Y4 _ _).length:Nat)))=_
  rw[Qe]
 (repeat first|refine⟨_,zav (λ_=>rfl) _,?_⟩|refine⟨zav (λ_=>rfl) _,?_⟩|refine⟨_,ln,?_⟩|refine⟨ln,?_⟩|infer_instance)
 refine dr (by omega) (by omega) λk hk=>?_
 obtain⟨w,e1,e2,e3,e4⟩:=z1o p (k:=k) (by omega)
 exact⟨_,e1,q w e2 e3 e4⟩
end
section
variable {P : Program} {w : World} {K : Qa} {mg : Str → Option Value} {base : Heap} {k : Nat}
abbrev znw:Stmt:=top 42
theorem z4k:FnScope ["_law_state", "_law_some", "_law_near"] ["_law_state"] (zah znw):=⟨rfl,rfl,rfl,by decide +kernel,rfl,by decide +kernel,by decide +kernel⟩
theorem zhe(B:Blt mg)(zaj:ze8 P w K mg base)(T:Top3 K mg "_law_sign" znw):Def3 P w K mg base 2 "_law_sign" ["_law_state"] (spD K IsState 0 zzf):=by
 refine mk_D T z4k (λ_ _ _ _ _ _ us hl=>len1 hl λ_=>rfl) rfl λf cdv A outer s H E O hφ C=>?_
 have hO:∀ j:Unit,IsState ((λ_:Unit=>O) j):=λ_=>hφ
 refine⟨_,(zad (zao 1 zag) (zad (zao 1 (zaw C (zab 1) zag)) (zad (zao 2 zag) (zai (zar (z5v C (zan C (zab 2) (zam 0 C zaj hO (zaa (za9 C B (zaa (zab 2) zac)) zac))) (zan C (zab 1) (zam 0 C zaj hO (zaa (za9 C B (zaa (zab 1) zac)) zac))) (zam 0 C zaj hO (zaa zae zac)))))))),λds Qr hn q=>?_⟩
 obtain⟨rfl,q⟩:=q
 rw[zb3 " !\"#$&'()*+,-./0123456789:;<=>?@ABCDEFGHIJKLMNOPQRSTUVWXYZ[\\]^_`", zb3 "abcdefghijklmnopqrstuvwxyz{|}~\n", zb3 "0123  \nahz"]
 refine⟨rfl,_,_,rfl,rfl,?_⟩
 generalize hA:cds " !\"#$&'()*+,-./0123456789:;<=>?@ABCDEFGHIJKLMNOPQRSTUVWXYZ[\\]^_`" = xA
 generalize hB:cds "abcdefghijklmnopqrstuvwxyz{|}~\n" = xB
 generalize hC:cds "0123  \nahz" = xC
 have lA:xA.length<=100/\zco xA=true:=by rw[<- hA];decide +kernel
 have lB:xB.length<=100/\0<xB.length/\zco xB=true:=by rw[<- hB];decide +kernel
 have lC:xC.length<=100/\0<xC.length/\zco xC=true:=by rw[<- hC];decide +kernel
 have la:(xA++xB).length=xA.length+xB.length:=Qf
 have pa:∀ c ∈ xA++xB,c<128:=λc hc=>by
  rcases Qx.mp hc with h|h
  ·exact zex lA.2 c h
  ·exact zex lB.2.2 c h
 refine⟨_,zf4 (by omega),?_⟩
 (repeat first|refine⟨_,zgc (w:=xC) (by omega),?_⟩|refine⟨zgc (w:=xC) (by omega),?_⟩|infer_instance)
 refine dr (by omega) (by omega) λk1 hk1=>?_
 refine⟨_,zdc (by omega) (by omega),?_⟩
 (repeat first|refine⟨_,zgc (w:=xA++xB) (by omega),?_⟩|refine⟨zgc (w:=xA++xB) (by omega),?_⟩|infer_instance)
 refine dr (by omega) (by omega) λk2 hk2=>?_
 refine⟨_,zdc (by omega) (by omega),?_⟩
 (repeat infer_instance)
 refine dr (by decide) (by decide) λk3 hk3=>?_
 obtain⟨_,⟨c,hc,rfl⟩,hr⟩:=z7w hk3 (P:=λr=>∃ c:Nat,c<128/\r = .o (.str (tx [c]))) ⟨_,zex lC.2.2 _ (QQ (show k1<xC.length by omega)),rfl⟩ ⟨_,pa _ (QQ (show k2<(xA++xB).length by omega)),rfl⟩
 exact⟨_,hr,q c hc⟩
end
theorem zn1:∀ (ws:List (List Nat)) (i:Nat) (w:List Nat),i<ws.length->totW (ws.set i w)+((ws.getD i []).length+1)=totW ws+(w.length+1)
 | v::ws,0,w,_=>by rw[List.set_cons_zero,zb7,zb7];show _+(v.length+1)=_;omega
 | v::ws,i+1,w,h=>by
   have:=zn1 ws i w (by simpa using h)
   rw[List.set_cons_succ,zb7,zb7]
   show _+((ws.getD i []).length+1)=_
   omega
theorem zxb:∀ c ∈ base38,c<128:=by decide
theorem z3i(c:Nat):FewS 3 [c]:=⟨[c],by simp,λd hd => .inr hd⟩
theorem zrv:FewS 3 []:=⟨[],by simp,λd hd=>absurd hd (Qo)⟩
theorem zpa(ws:List (List Nat))(i:Nat):totW (ws.take i)+totW (ws.drop (i+1))+((ws.getD i []).length+1)<=totW ws+((ws.getD i []).length+1)/\(i<ws.length->totW (ws.take i)+totW (ws.drop (i+1))+((ws.getD i []).length+1)=totW ws):=by
 have h1:=zg1 ws i
 have h2:=zg1 (ws.drop i) 1
 rw[zr] at h2
 refine⟨by omega,λhi=>?_⟩
 rw[zjb (zdw (z := []) hi)] at h1
 rw[zb7] at h1
 omega
section
variable {P : Program} {w : World} {K : Qa} {mg : Str → Option Value} {base : Heap} {k : Nat}
abbrev zgs:Stmt:=top 43
theorem zpn:FnScope ["_law_state", "_law_text", "_law_lines", "_law_form", "_law_at", "_law_far", "_law_after", "_law_words", "_law_spot", "_law_some", "_law_sign_here"] ["_law_state", "_law_text"] (zah zgs):=⟨rfl,rfl,rfl,by decide +kernel,rfl,by decide +kernel,by decide +kernel⟩
theorem zen(B:Blt mg)(zaj:ze8 P w K mg base)(zff:Def3 P w K mg base 2 "_law_bad_row" ["_law_state"] (spD K IsState 0 (zja 26)))(zek:Def3 P w K mg base 2 "_law_some_word" ["_law_state"] (spD K IsState 0 (zja 10)))(zhe:Def3 P w K mg base 2 "_law_sign" ["_law_state"] (spD K IsState 0 zzf))(T:Top3 K mg "_law_otherwise" zgs):Def3 P w K mg base 3 "_law_otherwise" ["_law_state", "_law_text"] (spD K IsState 1 zqh):=by
 refine mk_D T zpn (λ_ _ _ _ _ _ us hl=>len2 hl λ_ _=>rfl) rfl λf cdv A outer s H E O hφ C=>?_
 have hO:∀ j:Unit,IsState ((λ_:Unit=>O) j):=λ_=>hφ
 refine⟨_,(zad (zao 2 (zdv C (zab 1) zag)) (zad (zao 3 (zam 0 C zaj hO (zaa zae zac))) (zad (zao 4 (zam 0 C zaj hO (zaa (zaw C (za9 C B (zaa (zab 2) zac)) (zf5 C B (zaa (e_lt (zab 3) zae) zac))) zac))) (zad (zao 5 (zam 0 C zaj hO (zaa (za9 C B (zaa (zab 2) zac)) zac))) (zad (s_if (t_lt (zab 3) zae) (zai (zar (zdb C zag (zaw C (zaw C (zbi C (zab 2) zcg (zbk (zab 4))) (zbz (zaa (zam 0 C zff hO zac) zac))) (zbi C (zab 2) (zbk (zab 4)) zcg))))) za2) (zad (s_if (t_eq C (zab 3) zae) (zai (zar (zdb C zag (zaw C (zbi C (zab 2) zcg (zbk (zab 4))) (zbi C (zab 2) (zbk (zaw C (zab 4) zae)) zcg))))) za2) (zad (s_if (t_eq C (zab 3) zae) (zad (zao 6 (zaw C (zab 4) (zam 0 C zaj hO (zaa zae zac)))) (zai (zar (zdb C zag (zaw C (zaw C (zbi C (zab 2) zcg (zbk (zab 4))) (zbz (zaa (zan C (zab 2) (zab 5)) zac))) (zbi C (zab 2) (zbk (zab 6)) zcg)))))) za2) (zad (s_if (t_lt (zab 3) zae) (zad (zao 7 (zdv C (zan C (zab 2) (zab 4)) zag)) (zad (zao 8 (zam 0 C zaj hO (zaa (za9 C B (zaa (zab 7) zac)) zac))) (zad (zao 9 (zph C (zbz zac) (zbz (zaa (zam 0 C zek hO zac) zac)) (zww C (zbz (zaa (zan C (zab 7) (zab 8)) zac)) zae) (zk5 (zab 3) zae))) (zad (ya6 2 C (zdb C zag (zaw C (zaw C (zbi C (zab 7) zcg (zbk (zab 8))) (zab 9)) (zbi C (zab 7) (zbk (zaw C (zab 8) zae)) zcg))) (zab 4)) (zai (zar (zdb C zag (zab 2)))))))) za2) (zad (zao 4 (zam 0 C zaj hO (zaa (zaw C (za9 C B (zaa (zab 1) zac)) zae) zac))) (zad (zao 10 (zam 0 C zhe hO zac)) (zai (zar (zaw C (zaw C (zbi C (zab 1) zcg (zbk (zab 4))) (zph C zag (zab 10) (zaw C (zbi C (zab 1) (zbk (zab 4)) (zbk (zaw C (zab 4) zae))) (zab 10)) (zk5 (zab 3) zae))) (zbi C (zab 1) (zbk (zaw C (zab 4) zae)) zcg)))))))))))))),λds Qr hn q=>?_⟩
 obtain⟨t,b,kk,rfl,ht,tb,b1,bl,hf,q⟩:=q
 have sz:=sizeLine_eq
 have c0:cds "" = []:=by decide +kernel
 rw[zgy,zez,zb3 "", c0]
 have wp:=zd8 10 t
 have wl:=zdj 10 t
 have wt:=zq6 10 t
 have wln:∀ w ∈ cutW 10 t,Lng w:=λw hw=>zd9 ht hw
 have wsg:∀ w ∈ cutW 10 t,∀ c ∈ w,c ∈ t:=λw hw=>(zeh 10 t w hw).2
 (repeat infer_instance)
 refine⟨by rw[zb5];omega,?_⟩
 rw[zdm]
 generalize cutW 10 t=ls at wp wl wt wln wsg
 (repeat first|refine⟨_,zav (λ_=>rfl) _,?_⟩|refine⟨zav (λ_=>rfl) _,?_⟩|infer_instance)
 refine dr (by decide) (by decide) λk1 hk1=>?_
 (repeat first|refine⟨_,zaz ls,?_⟩|refine⟨zaz ls,?_⟩|infer_instance)
 refine dr (by split <;> omega) (by split <;> omega) λk2 hk2=>?_
 (repeat first|refine⟨_,zaz ls,?_⟩|refine⟨zaz ls,?_⟩|infer_instance)
 refine dr (by omega) (by omega) λk3 hk3=>?_
 have fin:∀ (vs:List (List Nat)) (x:List Nat),FewS 3 x->(∀ c ∈ x,c<128)->(∀ w ∈ vs,∀ c ∈ w,c ∈ base38\/c ∈ t\/c ∈ x)->totW vs<=2 * b+2->∃ ys:List ZV,Zo (tsD vs) = .list (ys.map .str)/\(ys.map (·.length)).sum+ys.length * (⟨#[10]⟩:ZV).length<=16777216/\Qr (.o (.str (Yw ⟨#[10]⟩ ys))):=λvs x f1 f2 f3 f4=>by
  have le:(zat 10 vs).length<=2 * b+1:=by
   by_cases hv:vs = []
   ·rw[hv];exact QO _
   ·have:=zcm (c:=10) hv;omega
  refine zxj (by omega) (q _ (zyz (by decide) (by omega) λw hw c hc=>?_) le (hf.mix f1 λc hc=>?_))
  ·rcases f3 w hw c hc with h|h|h
   ·exact zxb c h
   ·exact ht.sgn c h
   ·exact f2 c h
  ·rcases zc4 hc with rfl|⟨w,hw,hx⟩
   ·exact .inl (by decide)
   ·exact f3 w hw c hx
 have cl:∀ lo hi,(cutL ls lo hi).length<=ls.length:=λlo hi=>zoo ls lo hi
 have ci:∀ {x:List Nat} {lo hi:Option Int},∀ w ∈ cutL ls lo hi,∀ c ∈ w,c ∈ base38\/c ∈ t\/c ∈ x:=λw hw c hc => .inr (.inl (wsg w (zik hw) c hc))
 have apps:∀ {P:List Nat->Prop} {u v:List (List Nat)},(∀ w ∈ u,P w)->(∀ w ∈ v,P w)->∀ w ∈ u++v,P w:=λh1 h2 w hw=>by
  rcases Qx.mp hw with h|h
  ·exact h1 w h
  ·exact h2 w h
 have ones:∀ {P:List Nat->Prop} {v:List Nat},P v->∀ w ∈ [v],P w:=λh w hw=>by rw[Qu.mp hw];exact h
 have m3:ls.getD k3 [] ∈ ls:=zdl (by omega)
 have t3:=zg9 m3
 (repeat infer_instance)
 refine iteB (λa1=>?_) λa1=>?_
 ·(repeat first|refine⟨_,zb2 ls _ _,?_⟩|refine⟨zb2 ls _ _,?_⟩|infer_instance)
  intro x x1 x2 x3
  (repeat infer_instance)
  refine⟨_,zct (b := [x]) (by have:=cl none (some (k2:Int));show _+1<=_;omega),?_⟩
  (repeat first|refine⟨_,zb2 ls _ _,?_⟩|refine⟨zb2 ls _ _,?_⟩|infer_instance)
  refine⟨_,zct (by have:=cl none (some (k2:Int));have:=cl (some (k2:Int)) none;rw[Qf];show _+1+_<=_;omega),?_⟩
  refine fin _ x x3 x2 (apps (apps ci (ones λc hc => .inr (.inr hc))) ci) ?_
  rw[zef,zef,zft,zf3,zec]
  have:=zg1 ls k2
  omega
 have n3:¬ ((k1:Int)<3):=of_decide_eq_false a1
 rw[if_neg (by rw[a1];exact Qc)] at hk2
 have hk2:k2<ls.length:=by omega
 have m2:ls.getD k2 [] ∈ ls:=zdl hk2
 have t2:=zg9 m2
 (repeat infer_instance)
 refine iteB (λa2=>?_) λa2=>?_
 ·(repeat first|refine⟨_,zb2 ls _ _,?_⟩|refine⟨zb2 ls _ _,?_⟩|infer_instance)
  refine⟨_,zct (by have:=cl none (some (k2:Int));have:=cl (some ((k2:Int)+1)) none;omega),?_⟩
  refine fin _ [] zrv (by simp) (apps ci ci) ?_
  rw[zef,zf3,show((k2:Int)+1)=((k2+1:Nat):Int) from rfl,zec]
  have:=(zpa ls k2).2 hk2
  omega
 (repeat infer_instance)
 refine iteB (λa3=>?_) λa3=>?_
 ·(repeat infer_instance)
  refine dr (by decide) (by decide) λk4 hk4=>?_
  (repeat first|refine⟨_,zb2 ls _ _,?_⟩|refine⟨zb2 ls _ _,?_⟩|refine⟨_,zal (ws:=ls) (i:=k3) (show k3<ls.length by omega),?_⟩|refine⟨zal (ws:=ls) (i:=k3) (show k3<ls.length by omega),?_⟩|infer_instance)
  refine⟨_,zct (b := [ls.getD k3 []]) (by have:=cl none (some (k2:Int));show _+1<=_;omega),?_⟩
  (repeat first|refine⟨_,zb2 ls _ _,?_⟩|refine⟨zb2 ls _ _,?_⟩|infer_instance)
  refine⟨_,zct (by have:=cl none (some (k2:Int));have:=cl (some ((k2:Int)+(k4:Int))) none;rw[Qf];show _+1+_<=_;omega),?_⟩
  refine fin _ [] zrv (by simp) (apps (apps ci (ones λc hc => .inr (.inl (wsg _ m3 c hc)))) ci) ?_
  rw[zef,zef,zft,zf3,show((k2:Int)+(k4:Int))=((k2+k4:Nat):Int) from rfl,zec]
  have h1:=zg1 ls k2
  have h2:=zg1 (ls.drop k2) k4
  rw[zr] at h2
  omega
 (repeat infer_instance)
 refine iteB (λa4=>?_) λa4=>?_
 ·(repeat first|refine⟨_,zal (ws:=ls) (i:=k2) hk2,?_⟩|refine⟨zal (ws:=ls) (i:=k2) hk2,?_⟩|infer_instance)
  have l2:=wln _ m2
  have g2:=wsg _ m2
  have vp:=zd8 32 (ls.getD k2 [])
  have vl:=zdj 32 (ls.getD k2 [])
  have vt:=zq6 32 (ls.getD k2 [])
  have vsg:∀ w ∈ cutW 32 (ls.getD k2 []),∀ c ∈ w,c ∈ t:=λw hw c hc=>g2 c ((zeh 32 _ w hw).2 c hc)
  have l2l:=l2.len
  refine⟨by rw[zb5];omega,?_⟩
  rw[zdm]
  generalize cutW 32 (ls.getD k2 [])=ws at vp vl vt vsg
  (repeat first|refine⟨_,zav (λ_=>rfl) _,?_⟩|refine⟨zav (λ_=>rfl) _,?_⟩|refine⟨_,zaz ws,?_⟩|refine⟨zaz ws,?_⟩|infer_instance)
  refine dr (by omega) (by omega) λk5 hk5=>?_
  have hk5:k5<ws.length:=by omega
  have m5:ws.getD k5 [] ∈ ws:=zdl hk5
  (repeat infer_instance)
  intro x x1 x2 x3
  (repeat first|refine⟨_,zal (ws:=ws) (i:=k5) hk5,?_⟩|refine⟨zal (ws:=ws) (i:=k5) hk5,?_⟩|infer_instance)
  refine⟨by decide,by decide,by show 1 * 2<=sizeLine;omega,?_⟩
  (repeat infer_instance)
  have c3:k1=5\/k1=6\/k1=7:=by
   have h1:=of_decide_eq_false a2
   have h2:=of_decide_eq_false a3
   have h3:=of_decide_eq_true a4
   omega
  have v5:=vsg _ m5
  have t5:=zg9 m5
  obtain⟨r,⟨vs,rfl,hv1,hv2,hv3⟩,hr⟩:∃ r:R,(∃ vs:List (List Nat),r = .n (tsD vs)/\(∀ w ∈ vs,∀ c ∈ w,c ∈ base38\/c ∈ t\/c ∈ x)/\totW vs<=(ws.getD k5 []).length+1+max ((ws.getD k5 []).length+1) 11/\vs.length<=2)/\((ZO ((k1:Int) - 5) = .int 0/\r = .n [])\/(ZO ((k1:Int) - 5) = .int 1/\r = .n [QX (tx x)])\/(ZO ((k1:Int) - 5) = .int 2/\r = .n (Qm (2:Int).toNat [QX (tx (ws.getD k5 []))]).flatten)):=by
   rcases c3 with rfl|rfl|rfl
   ·exact⟨_,⟨[],rfl,λw hw=>absurd hw (Qo),by show 0<=_;omega,by decide⟩,.inl ⟨rfl,rfl⟩⟩
   ·exact⟨_,⟨[x],rfl,ones λc hc => .inr (.inr hc),by rw[zft];omega,by simp⟩,.inr (.inl ⟨rfl,rfl⟩)⟩
   ·refine⟨_,⟨[ws.getD k5 [],ws.getD k5 []],rfl,λw hw c hc=>?_,by rw[zb7,zft];omega,by simp⟩,.inr (.inr ⟨rfl,rfl⟩)⟩
    have:w=ws.getD k5 []:=by simpa using hw
    rw[this] at hc
    exact .inr (.inl (v5 c hc))
  refine⟨_,hr,zav (λ_=>rfl) _,?_⟩
  have cw:∀ lo hi,(cutL ws lo hi).length<=ws.length:=λlo hi=>zoo ws lo hi
  have cwi:∀ {lo hi:Option Int},∀ w ∈ cutL ws lo hi,∀ c ∈ w,c ∈ base38\/c ∈ t\/c ∈ x:=λw hw c hc => .inr (.inl (vsg w (zik hw) c hc))
  (repeat first|refine⟨_,zb2 ws _ _,?_⟩|refine⟨zb2 ws _ _,?_⟩|infer_instance)
  refine⟨_,zct (a:=cutL ws none (some (k5:Int))) (b:=vs) (by have:=cw none (some (k5:Int));omega),?_⟩
  (repeat first|refine⟨_,zb2 ws _ _,?_⟩|refine⟨zb2 ws _ _,?_⟩|infer_instance)
  refine⟨_,zct (by have:=cw none (some (k5:Int));have:=cw (some ((k5:Int)+1)) none;rw[Qf];omega),?_⟩
  have rt:totW (cutL ws none (some (k5:Int))++vs++cutL ws (some ((k5:Int)+1)) none)<=(ls.getD k2 []).length+1+max ((ws.getD k5 []).length+1) 11:=by
   rw[zef,zef,zf3,show((k5:Int)+1)=((k5+1:Nat):Int) from rfl,zec]
   have:=(zpa ws k5).2 hk5
   omega
  have rsg:∀ w ∈ cutL ws none (some (k5:Int))++vs++cutL ws (some ((k5:Int)+1)) none,∀ c ∈ w,c ∈ base38\/c ∈ t\/c ∈ x:=apps (apps cwi hv1) cwi
  generalize cutL ws none (some (k5:Int))++vs++cutL ws (some ((k5:Int)+1)) none=rw5 at rt rsg
  obtain⟨ys,y1,y2,y3⟩:=zfw (c:=32) (ws:=rw5) (by omega)
  refine⟨ys,y1,y2,?_⟩
  rw[y3]
  refine⟨_,rfl,_,_,rfl,rfl,k2,rfl,by rw[Qe];omega,rfl,?_⟩
  dsimp only [R.d]
  rw[z9y]
  (repeat infer_instance)
  have rl:(zat 32 rw5).length+1<=(ls.getD k2 []).length+1+max ((ws.getD k5 []).length+1) 11:=by
   by_cases hv:rw5 = []
   ·rw[hv];show 0+1<=_;omega
   ·have:=zcm (c:=32) hv;omega
  have ts2:=zn1 ls k2 (zat 32 rw5) hk2
  refine fin _ x x3 x2 (λw hw c hc=>?_) (by omega)
  rcases List.mem_or_eq_of_mem_set hw with h|rfl
  ·exact .inr (.inl (wsg w h c hc))
  ·rcases zc4 hc with rfl|⟨v,hv,hx⟩
   ·exact .inl (by decide)
   ·exact rsg v hv c hx
 ·(repeat first|refine⟨_,zde ht,?_⟩|refine⟨zde ht,?_⟩|infer_instance)
  refine dr (by omega) (by omega) λk4 hk4=>?_
  (repeat infer_instance)
  intro c hc
  have s1:∀ lo hi,slcF lo hi (.str (tx t))=some (.o (.str (tx (cutL t lo hi)))):=λlo hi=>z0q (by omega)
  have tl:∀ lo hi,(cutL t lo hi).length<=t.length:=λlo hi=>zoo t lo hi
  have e1:=tl none (some (k4:Int))
  have e2:=tl (some (k4:Int)) (some ((k4:Int)+1))
  have e3:(cutL t none (some (k4:Int))).length+(cutL t (some ((k4:Int)+1)) none).length<=t.length:=by
   rw[zf3,show((k4:Int)+1)=((k4+1:Nat):Int) from rfl,zec,ZJ,Z1]
   omega
  (repeat first|refine⟨_,s1 _ _,?_⟩|refine⟨s1 _ _,?_⟩|infer_instance)
  refine⟨_,zf4 (v:=cutL t (some (k4:Int)) (some ((k4:Int)+1))) (w := [c]) (by show _+1<=_;omega),?_⟩
  (repeat infer_instance)
  have c3:k1=8\/k1=9\/k1=10:=by
   have h3:=of_decide_eq_false a4
   omega
  obtain⟨r,⟨x,rfl,hx1,hx2⟩,hr⟩:∃ r:R,(∃ x:List Nat,r = .o (.str (tx x))/\x.length<=t.length+1/\∀ d ∈ x,d ∈ t\/d ∈ [c])/\((ZO ((k1:Int) - 8) = .int 0/\r = .o (.str (tx [])))\/(ZO ((k1:Int) - 8) = .int 1/\r = .o (.str (tx [c])))\/(ZO ((k1:Int) - 8) = .int 2/\r = .o (.str (tx (cutL t (some (k4:Int)) (some ((k4:Int)+1)) ++ [c]))))):=by
   rcases c3 with rfl|rfl|rfl
   ·exact⟨_,⟨[],rfl,QO _,λd hd=>absurd hd (Qo)⟩,.inl ⟨rfl,rfl⟩⟩
   ·exact⟨_,⟨[c],rfl,by simp,λd hd => .inr hd⟩,.inr (.inl ⟨rfl,rfl⟩)⟩
   ·refine⟨_,⟨_,rfl,by rw[Qf];show _+1<=_;omega,λd hd=>?_⟩,.inr (.inr ⟨rfl,rfl⟩)⟩
    rcases Qx.mp hd with h|h
    ·exact .inl (zik h)
    ·exact .inr h
  refine⟨_,hr,_,zf4 (v:=cutL t none (some (k4:Int))) (w:=x) (by omega),?_⟩
  (repeat first|refine⟨_,s1 _ _,?_⟩|refine⟨s1 _ _,?_⟩|infer_instance)
  refine⟨_,zf4 (by rw[Qf];omega),?_⟩
  have all:∀ d ∈ cutL t none (some (k4:Int))++x++cutL t (some ((k4:Int)+1)) none,d ∈ t\/d ∈ [c]:=λd hd=>by
   rcases Qx.mp hd with h|h
   ·rcases Qx.mp h with h|h
    ·exact .inl (zik h)
    ·exact hx2 d h
   ·exact .inl (zik h)
  refine q _ ⟨by rw[Qf,Qf];omega,λd hd=>?_⟩ (by rw[Qf,Qf];omega) (hf.mix (z3i c) λd hd => .inr (all d hd))
  rcases all d hd with h|h
  ·exact ht.sgn d h
  ·rw[Qu.mp h];exact hc
end
section
variable {P : Program} {w : World} {K : Qa} {mg : Str → Option Value} {base : Heap} {k : Nat}
abbrev zpb:Stmt:=top 44
theorem z4f:FnScope ["_law_text", "_law_caught", "e"] ["_law_text"] (zah zpb):=⟨rfl,rfl,rfl,by decide +kernel,rfl,by decide +kernel,by decide +kernel⟩
theorem zc5(B:Blt mg){ea:EA}(EC:ErrC K mg ea)(rNoText:zi2 K ea)(zgi:Def3 P w K mg base 2 "show_house" ["house"] (spO K (λ_=>True) 1 zuy))(zga:Def3x P w K mg base 6 "read_house" ["text"] (spX K mg (λ_=>True) 1 ztl))(T:Top3 K mg "_law_told" zpb):Def3 P w K mg base 7 "_law_told" ["_law_text"] (spO K (λ_=>True) 1 zoc):=by
 refine mk_O T z4f (λ_ _ _ _ _ _ us hl=>len1 hl λ_=>rfl) rfl λf cdv A outer s H E O hφ C=>⟨_,(zad (zao 1 znd) (zad (ybl 2 C EC.le EC.cc (z7y (z6h (zlk (ya9 C zag) (zlk (yaa C zgi (λ_=>trivial) (zlk (z1q C zga (λ_=>trivial) (zaa (zab 0) zac)) zvy)) zvy)))) (zai (z9l 1 2))) (zad (s_if (zcv (z9x 1 C B (zey C EC.ng (zey C EC.nh (zey C EC.np (zey C EC.nr (zey C EC.ns (zey C EC.tm z3e)))))))) (zai (zar (zba (zaa zag (zaa zfm zac))))) za2) (zad (s_if (t_w (w_or (zfi (zcv (yaw 1 C B EC.nt))) (zfs (zfi (zcv (z7q (cv := .type "ValueError") 1 C B EC.vb)))))) (zai (zar (zba (zaa zag (zaa zfm zac))))) za2) (zad (s_if (zcv (ybe (T := "bool") C B (zty 1 C) B.bool)) (zai (zar (zba (zaa zag (zaa zfm zac))))) za2) (zai (zar (zba (zaa zag (zaa (zty 1 C) zac)))))))))),λds Qr hn q=>?_⟩
 obtain⟨t,rfl,ht,q⟩:=q
 have sz:=sizeLine_eq
 have t2:2<=sizeLine:=by omega
 (repeat infer_instance)
 refine⟨ht,?_⟩
 cases hd:zcb (za6 t) with
 | inr d =>
   rw[hd] at q
   obtain⟨g,g1,rfl,g2⟩:=zvr hd
   refine⟨rfl,g,rfl,g1,by rw[g2];exact ht,?_⟩
   rw[g2]
   exact⟨t2,q⟩
 | inl n =>
   rw[hd] at q
   refine⟨"NoText", ["at"],[.int (n:Nat)],ea.nt,rfl,EC.nt,rNoText.lost,rfl,?_⟩
   (repeat infer_instance)
   refine⟨_,_,_,false,rfl,rNoText.get,(by show 6<=sizeLine;omega),zrd rNoText.oth,_,rfl,iteF ?_⟩
   refine⟨_,_,_,true,rfl,rNoText.get,zyx,_,rfl,iteF ?_⟩
   refine⟨_,_,_,true,rfl,rNoText.get,rNoText.val,_,rfl,iteF ?_⟩
   refine⟨_,_,_,.int (n:Nat),rfl,rNoText.get,rNoText.nof,rfl,rfl,false,rfl,_,rfl,iteF ?_⟩
   exact⟨_,_,_,.int (n:Nat),rfl,rNoText.get,rNoText.nof,rfl,rfl,t2,q⟩
end
section
variable {P : Program} {w : World} {K : Qa} {mg : Str → Option Value} {base : Heap} {k : Nat}
abbrev zlt:Stmt:=top 45
theorem zy9:FnScope ["_law_text", "_law_due"] ["_law_text"] (zah zlt):=⟨rfl,rfl,rfl,by decide +kernel,rfl,by decide +kernel,by decide +kernel⟩
theorem zd0(B:Blt mg)(zb8:Def3 P w K mg base 4 "_law_first_wrong" ["_law_text"] (spO K (λ_=>True) 1 zla))(zc5:Def3 P w K mg base 7 "_law_told" ["_law_text"] (spO K (λ_=>True) 1 zoc))(T:Top3 K mg "_law_right" zlt):Def3 P w K mg base 8 "_law_right" ["_law_text"] (spO K (λ_=>True) 1 zr5):=by
 refine mk_O T zy9 (λ_ _ _ _ _ _ us hl=>len1 hl λ_=>rfl) rfl λf cdv A outer s H E O hφ C=>⟨_,(zad (zao 1 (za1 C zb8 (λ_=>trivial) (zaa (zab 0) zac))) (zad (s_if (t_is (zab 1) znd) (zai (zar (e_eq C (za1 C zc5 (λ_=>trivial) (zaa (zab 0) zac)) (zba (zaa zag (zaa (zab 0) zac)))))) za2) (zai (zar (e_eq C (za1 C zc5 (λ_=>trivial) (zaa (zab 0) zac)) (zba (zaa zag (zaa (zab 1) zac)))))))),λds Qr hn q=>?_⟩
 obtain⟨t,rfl,ht,q⟩:=q
 have sz:=sizeLine_eq
 have t2:2<=sizeLine:=by omega
 (repeat infer_instance)
 refine⟨ht,?_⟩
 cases hd:zcb (za6 t) with
 | inr d =>
   (repeat infer_instance)
   refine⟨ht.lng,?_⟩
   rw[hd]
   (repeat infer_instance)
   exact⟨_,zjc ht.lng,q⟩
 | inl n =>
   (repeat infer_instance)
   refine⟨ht.lng,?_⟩
   rw[hd]
   (repeat infer_instance)
   exact⟨_,z7p n,q⟩
end
theorem zo3{A B R:DS}{Dd:DEnds}{ρ:DSt}(I:DSt->Prop)(rest:∀ ρ',I ρ'->R Dd ρ')(h:∀ R':DS,(∀ ρ',I ρ'->R' Dd ρ')->seqD A (seqD B R') Dd ρ):seqD A (seqD B R) Dd ρ:=h R rest
section
variable {P : Program} {w : World} {K : Qa} {mg : Str → Option Value} {base : Heap} {k : Nat}
abbrev sLaw:Stmt:=top 46
theorem ybh:FnScope ["_law_script", "_law_state", "_law_house_here", "_law_text", "_law_k", "_law_other", "_law_turn"] ["_law_script"] (zah sLaw):=⟨rfl,rfl,rfl,by decide +kernel,rfl,by decide +kernel,by decide +kernel⟩
theorem z7n(B:Blt mg)(zaj:ze8 P w K mg base)(zgv:Def3 P w K mg base 3 "_law_house" ["_law_state", "_law_most"] (spD K IsState 1 zqu))(zej:Def3 P w K mg base 3 "_law_any_house" ["_law_state"] (spD K IsState 0 zz6))(zc6:Def3 P w K mg base 2 "_law_house_rows" ["_law_house_here"] (spO K (λ_=>True) 1 zkg))(zb8:Def3 P w K mg base 4 "_law_first_wrong" ["_law_text"] (spO K (λ_=>True) 1 zla))(zen:Def3 P w K mg base 3 "_law_otherwise" ["_law_state", "_law_text"] (spD K IsState 1 zqh))(zc5:Def3 P w K mg base 7 "_law_told" ["_law_text"] (spO K (λ_=>True) 1 zoc))(zd0:Def3 P w K mg base 8 "_law_right" ["_law_text"] (spO K (λ_=>True) 1 zr5)){f₁:Addr}{fd₁:FuncData}(Fu:Fun K "law" "law" sLaw f₁ fd₁):FnOk P w K mg base CX0 9 f₁ fd₁ ["_law_script"] (zkm K):=by
 refine z4g (k:=8) Fu ybh rfl (λf cdv A outer s H E C=>?_) (λf cdv A outer s H E C=>?_)
 ·exact zdi (i:=1) (of_decide_eq_true (by kernel_rfl)) rfl (by first|exact Or.inl rfl|exact Or.inr rfl) (zj0 (za7 (zmc zic rfl B.list zqk (za7 (zaq (i:=0) rfl (by first|exact Or.inl rfl|exact Or.inr (Or.inl rfl)|exact Or.inr (Or.inr rfl))) zb9)) (za7 zau (za7 zau (za7 zau zb9)))))
 ·have hO:∀ j:Addr × Addr,IsState ((λj:Addr × Addr=>stOb j.1 j.2) j):=λj=>z5s _ _
  refine⟨_,(zad (zao 2 (zam 1 C zgv hO (zaa zae zac))) (zad (s_if (t_eq C (zam 1 C zaj hO (zaa zae zac)) zae) (zai (zao 2 (zam 1 C zej hO zac))) za2) (zad (zao 3 (zdb C zag (za1 C zc6 (λ_=>trivial) (zaa (zab 2) zac)))) (zad (s_if (t_gt (za9 C B (zaa (zab 3) zac)) zae) (zai (zao 3 (zdb C zag (zbi C (za1 C zc6 (λ_=>trivial) (zaa (zab 2) zac)) zcg (zbk zae))))) za2) (zad (s_if (t_w (w_or (z3v (za1 C zb8 (λ_=>trivial) (zaa (zab 3) zac)) znd) (zfs (t_ne C (za1 C zc5 (λ_=>trivial) (zaa (zab 3) zac)) (zba (zaa zag (zaa (zab 3) zac))))))) (zai (zar e_bl)) za2) (zad (zfp C (zel (i_r1 C B (zaa zae zac))) (zbh (h:=1000) 4) (zad (zao 5 (zab 3)) (zad (zfp C (zel (i_r1 C B (zaa (zaw C zae (zam 1 C zaj hO (zaa zae zac))) zac))) (zbh (h:=1000) 6) (zai (zao 5 (zam 1 C zen hO (zaa (zab 5) zac))))) (zai (s_if (zfi (zcv (za1 C zd0 (λ_=>trivial) (zaa (zab 5) zac)))) (zai (zar e_bl)) za2))))) (zai (zar (zb6 (za1 C zd0 (λ_=>trivial) (zaa zag zac)) (zb6 (za1 C zd0 (λ_=>trivial) (zaa (zaw C (zab 3) zag) zac)) (zc8 (e_eq C (za1 C zc5 (λ_=>trivial) (zaa (zab 3) zac)) (zba (zaa zag (zaa (zab 3) zac))))))))))))))),?_⟩
  have sz:=sizeLine_eq
  have sz:=sizeLine_eq
  refine zo3 (λρ'=>∃ h,HT h/\HS h/\ρ' = [none,some .ob,some (.im (zda h)),none,none,none,none]) (λρ' ⟨h,ok,hs,e⟩=>?_) λR' hR=>?_
  rotate_left
  ·(repeat infer_instance)
   refine⟨by decide,λh g=>⟨zqm h,?_⟩⟩
   (repeat infer_instance)
   refine dr (by decide) (by decide) λk hk=>?_
   (repeat infer_instance)
   refine iteB (λ_=>?_) λ_=>?_
   ·(repeat infer_instance)
    exact λh' ok hs'=>⟨zqm h',hR _ ⟨h',ok,hs',rfl⟩⟩
   ·exact hR _ ⟨h,(ztm g).1,(ztm g).2,rfl⟩
  subst e
  refine zo3 (λρ'=>∃ (g:Hou) (hd:PyData),HT g/\HS g/\(zbp g).length<=500/\ρ' = [none,some .ob,some (.im hd),some (.im (.str (tx (zbp g)))),none,none,none]) (λρ' ⟨g,hd,gk,gs,gl,e⟩=>?_) λR' hR=>?_
  rotate_left
  ·rw[zgy]
   (repeat infer_instance)
   refine⟨ok,hs,?_⟩
   obtain⟨ys,y1,y2,y3⟩:=zfw (c:=10) (ws:=za0 h) (by have:=zie ok hs;omega)
   refine⟨ys,y1,y2,?_⟩
   rw[y3]
   (repeat first|refine⟨_,zde (zia ok hs),?_⟩|refine⟨zde (zia ok hs),?_⟩|infer_instance)
   refine iteB (λa1=>?_) λa1=>?_
   ·(repeat infer_instance)
    refine⟨ok,hs,?_⟩
    have s4:slcF none (some 4) (.list (tsD (za0 h)))=some (.n (tsD (za0 (cut4 h)))):=by
     rw[zb2,show(some (4:Int))=some ((4:Nat):Int) from rfl,zf3,zj3]
    (repeat first|refine⟨_,s4,?_⟩|refine⟨s4,?_⟩|infer_instance)
    obtain⟨zs,z1,z2,z3⟩:=zfw (c:=10) (ws:=za0 (cut4 h)) (by have:=zie (zlh ok) (zld hs);omega)
    refine⟨zs,z1,z2,?_⟩
    rw[z3]
    exact⟨rfl,hR _ ⟨cut4 h,_,zlh ok,zld hs,zw7 ok hs,rfl⟩⟩
   ·have z:(zat 10 (za0 h)).length<=500:=by have z:=of_decide_eq_false a1;change ¬ ((500:Int)<((zat 10 (za0 h)).length:Nat)) at z;omega
    exact hR _ ⟨h,_,ok,hs,z,rfl⟩
  subst e
  obtain⟨tx0,rd⟩:=zsp gk gs gl
  have fw0:=zmt gk
  generalize zbp g=t at tx0 rd gl fw0
  rw[show Qi "" = tx [] by decide +kernel,show Qi "\n" = tx [10] by decide +kernel]
  (repeat infer_instance)
  refine⟨tx0,?_⟩
  rw[rd]
  (repeat infer_instance)
  refine⟨tx0.lng,?_⟩
  rw[rd]
  (repeat first|refine⟨_,zjc tx0.lng,?_⟩|refine⟨zjc tx0.lng,?_⟩|infer_instance)
  refine⟨by decide,by decide,rfl,?_⟩
  refine zb4 (λj ρ=>∃ o4 o5 o6:Option DV,ρ = [none,some .ob,some (.im hd),some (.im (.str (tx t))),o4,o5,o6]) ⟨none,none,none,rfl⟩ (λρ zz=>?_) λj d ρ N hd' hN zz=>?_
  ·obtain⟨o4,o5,o6,e⟩:=zz
   subst e
   (repeat infer_instance)
   refine⟨z5q,?_⟩
   (repeat first|refine⟨_,zf4 (v:=t) (w := [10]) (by show _+1<=_;omega),?_⟩|refine⟨zf4 (v:=t) (w := [10]) (by show _+1<=_;omega),?_⟩|infer_instance)
   refine⟨zyt tx0 gl,?_⟩
   (repeat infer_instance)
   refine⟨tx0.lng,?_⟩
   rw[rd]
   (repeat infer_instance)
   exact⟨_,zjc tx0.lng,rfl⟩
  ·obtain⟨o4,o5,o6,e⟩:=zz
   subst e
   obtain⟨hj,rfl⟩:=zcc hd'
   refine⟨rfl,?_⟩
   (repeat infer_instance)
   refine dr (by decide) (by decide) λk hk=>?_
   (repeat infer_instance)
   refine⟨by omega,by omega,rfl,?_⟩
   refine zb4 (λi ρ=>∃ (x:List Nat) (o4 o6:Option DV),ρ = [none,some .ob,some (.im hd),some (.im (.str (tx t))),o4,some (.im (.str (tx x))),o6]/\Lng x/\x.length+1<=501 * 2 ^ i/\FewS (3 * i) x) ⟨t,_,_,rfl,tx0.lng,by omega,fw0⟩ (λρ zz=>?_) λi d ρ N2 hd2 hN2 zz=>?_
   ·obtain⟨x,o4,o6,e,x1,x2,x3⟩:=zz
    subst e
    rw[zc3,show((1:Int)+(k:Int)).toNat=k+1 by omega] at x2 x3
    have hk3:k<3:=by omega
    have p8:2 ^ (k+1)<=2 ^ 3:=qf (by decide) (by omega)
    have txx:TxH x:=⟨x1,by omega,x3.more (by omega)⟩
    (repeat infer_instance)
    refine⟨txx,?_⟩
    (repeat infer_instance)
    exact hN _ ⟨_,_,_,rfl⟩
   ·obtain⟨x,o4,o6,e,x1,x2,x3⟩:=zz
    subst e
    obtain⟨hi,rfl⟩:=zcc hd2
    have hi3:i<3:=by omega
    have p4:2 ^ i<=2 ^ 2:=qf (by decide) (by omega)
    have p1:1<=2 ^ i:=Nat.one_le_two_pow
    have p2:2 ^ (i+1)=2 ^ i * 2:=Nat.pow_succ 2 i
    refine⟨rfl,?_⟩
    (repeat infer_instance)
    refine⟨x,501 * 2 ^ i - 1,3 * i,rfl,x1,by omega,by omega,by omega,x3,λt' l1 l2 l3=>⟨rfl,hN2 _ ⟨t',_,_,rfl,l1,by omega,l3⟩⟩⟩
end
def DIn(K:Qa)(x:Str)(st:Stmt):Prop:=∃ (f:Addr) (od an:Option Addr) (sl:Array (Option Value)) (oc kV dc pm cd ct:Value),Q0 K mainGlobals x=some (some (.ref f))/\K.lookup f=some ⟨oc,od,.func (Z4 x x (zdf st) (zbu st) (zah st) .none kV dc pm an cd ct),sl⟩/\J2 K cd x=true/\Z5 K (.ref f)=true
theorem din_mk{K:Qa}{x:Str}{st:Stmt}{f:Addr}{od an:Option Addr}{sl:Array (Option Value)}{oc kV dc pm cd ct:Value}(a:Q0 K mainGlobals x=some (some (.ref f)))(l:K.lookup f=some ⟨oc,od,.func (Z4 x x (zdf st) (zbu st) (zah st) .none kV dc pm an cd ct),sl⟩)(c:J2 K cd x=true)(k:Z5 K (.ref f)=true):DIn K x st:=⟨f,od,an,sl,oc,kV,dc,pm,cd,ct,a,l,c,k⟩
theorem zax{K:Qa}{x:Str}{st:Stmt}{h:Heap}{mg:Str->Option Value}(X:K.In h)(G:h.Ns mainGlobals mg)(D:DIn K x st):Top3 K mg x st:=by obtain⟨f,_,_,_,_,_,_,_,_,_,a,l,c,k⟩:=D;exact⟨f,_,zwg (st:=st) l c k,ZR X G a⟩
theorem all_mk{l:jP}{w:World}{K:Qa}{h:Heap}{mg:Str->Option Value}{fa:Addr}{ea:EA}(X:K.In h)(G:h.Ns mainGlobals mg)(hfa:mg "law" = some (.ref fa))
 (D1:DIn K "is_word" zlx)
 (D2:DIn K "is_letter" ziq)
 (D3:DIn K "is_alphabet" zgw)
 (D4:DIn K "is_number" zil)
 (D5:DIn K "shape_of" zju)
 (D6:DIn K "value_of" zjr)
 (D7:DIn K "show_row" zjx)
 (D8:DIn K "show_house" zhz)
 (D9:DIn K "is_head" zlu)
 (D10:DIn K "is_hand" zl4)
 (D11:DIn K "is_row_of_rule" zgb)
 (D12:DIn K "rule_of" zlp)
 (D13:DIn K "read_hands" zhu)
 (D14:DIn K "read_house" zhf)
 (D15:DIn K "_law_draw" zte)
 (D16:DIn K "_law_alphabet" zhi)
 (D17:DIn K "_law_deed" zok)
 (D18:DIn K "_law_house" zl0)
 (D19:DIn K "_law_number" zjt)
 (D20:DIn K "_law_any_house" zho)
 (D21:DIn K "_law_rule_row" zis)
 (D22:DIn K "_law_house_rows" zgr)
 (D23:DIn K "_law_is_number" zhs)
 (D24:DIn K "_law_is_rule" zjq)
 (D25:DIn K "_law_is_row" zl5)
 (D26:DIn K "_law_first_wrong" zf9)
 (D27:DIn K "_law_bad_row" zjs)
 (D28:DIn K "_law_some_word" zhx)
 (D29:DIn K "_law_sign" znw)
 (D30:DIn K "_law_otherwise" zgs)
 (D31:DIn K "_law_told" zpb)
 (D32:DIn K "_law_right" zlt)
 (D33:DIn K "law" sLaw)
 (z1:Q0 K mainGlobals "len" = some none)
 (z2:Q0 K mainGlobals "all" = some none)
 (z3:Q0 K mainGlobals "any" = some none)
 (z4:Q0 K mainGlobals "sorted" = some none)
 (z5:Q0 K mainGlobals "min" = some none)
 (z6:Q0 K mainGlobals "max" = some none)
 (z7:Q0 K mainGlobals "repr" = some none)
 (z8:Q0 K mainGlobals "int" = some none)
 (z9:Q0 K mainGlobals "list" = some none)
 (z10:Q0 K mainGlobals "tuple" = some none)
 (z11:Q0 K mainGlobals "range" = some none)
 (z12:Q0 K mainGlobals "set" = some none)
 (z13:Q0 K mainGlobals "isinstance" = some none)
 (z14:Q0 K mainGlobals "enumerate" = some none)
 (z15:Q0 K mainGlobals "zip" = some none)
 (z16:Q0 K mainGlobals "reversed" = some none)
 (z17:Q0 K mainGlobals "str" = some none)
 (z18:Q0 K mainGlobals "sum" = some none)
 (z19:Q0 K mainGlobals "dict" = some none)
 (z20:Q0 K mainGlobals "bool" = some none)
 (GIHEADS:TupIn K "HEADS" ["letters", "lines", "flags"])
 (GISHAPES:DctIn K w "SHAPES" [("go", "0"),("send", "0a0"),("take", "0a0"),("empty", "00"),("set", "000"),("if", "000")])
 (XE:ErrIn K ea) (rNoText:zi2 K ea)
 : ∃ fd:FuncData,(∀ (s:Shared) (v:Value),BindsTo s fd ⟨[v],[]⟩ [("_law_script", v)])/\∀ base:Heap,K.In base->base.Ns mainGlobals mg->FnOk l.prog w K mg base CX0 9 fa fd ["_law_script"] (zkm K):=by
 have T1:=zax X G D1
 have T2:=zax X G D2
 have T3:=zax X G D3
 have T4:=zax X G D4
 have T5:=zax X G D5
 have T6:=zax X G D6
 have T7:=zax X G D7
 have T8:=zax X G D8
 have T9:=zax X G D9
 have T10:=zax X G D10
 have T11:=zax X G D11
 have T12:=zax X G D12
 have T13:=zax X G D13
 have T14:=zax X G D14
 have T15:=zax X G D15
 have T16:=zax X G D16
 have T17:=zax X G D17
 have T18:=zax X G D18
 have T19:=zax X G D19
 have T20:=zax X G D20
 have T21:=zax X G D21
 have T22:=zax X G D22
 have T23:=zax X G D23
 have T24:=zax X G D24
 have T25:=zax X G D25
 have T26:=zax X G D26
 have T27:=zax X G D27
 have T28:=zax X G D28
 have T29:=zax X G D29
 have T30:=zax X G D30
 have T31:=zax X G D31
 have T32:=zax X G D32
 have T33:=zax X G D33
 have B:Blt mg:=⟨QH X G z1,QH X G z2,QH X G z3,QH X G z4,QH X G z5,QH X G z6,QH X G z7,QH X G z8,QH X G z9,QH X G z10,QH X G z11,QH X G z12,QH X G z13,QH X G z14,QH X G z15,QH X G z16,QH X G z17,QH X G z18,QH X G z19,QH X G z20⟩
 have EC:=XE.errC X G
 have gHEADS:=GIHEADS.glo X G
 have gSHAPES:=GISHAPES.glo X G
 obtain⟨f33,od33,an33,sl33,oc33,kV33,dc33,pm33,cd33,ct33,a33,l33,c33,k33⟩:=D33
 have e:=hfa.symm.trans (ZR X G a33)
 cases e
 refine⟨Z4 "law" "law" (zdf sLaw) (zbu sLaw) (zah sLaw) .none kV33 dc33 pm33 an33 cd33 ct33,λs v => .of_eq rfl,λbase _ _=>?_⟩
 have e1:=zfc (P:=l.prog) (w:=w) (base:=base) B T1
 have e2:=zgu B e1 T2
 have e3:=zfg B e1 T3
 have e4:=zbj (P:=l.prog) (w:=w) (base:=base) B T4
 have e5:=zhd B e2 e4 T5
 have e6:=zht B e4 T6
 have e7:=zhq (P:=l.prog) (w:=w) (base:=base) B T7
 have e8:=zgi B gHEADS e7 T8
 have e9:=zh7 B gHEADS e3 e4 T9
 have e10:=zim B e4 T10
 have e11:=zed B gSHAPES e4 e5 T11
 have e12:=ziu B e6 T12
 have e13:=zgg B EC rNoText gHEADS e10 e11 e12 T13
 have e14:=zga B EC rNoText gHEADS e9 e13 T14
 have e15:=zaj (P:=l.prog) (w:=w) (base:=base) B T15
 have e16:=zcw B e15 T16
 have e17:=zh0 B e15 T17
 have e18:=zgv B e15 e16 e17 T18
 have e19:=zbq B e15 T19
 have e20:=zej B e15 e16 e19 T20
 have e21:=ze0 (P:=l.prog) (w:=w) (base:=base) B T21
 have e22:=zc6 B e21 T22
 have e23:=za8 (P:=l.prog) (w:=w) (base:=base) B T23
 have e24:=zfh B e23 T24
 have e25:=zge B e23 e24 T25
 have e26:=zb8 B e25 T26
 have e27:=zff B e15 T27
 have e28:=zek B e15 T28
 have e29:=zhe B e15 T29
 have e30:=zen B e15 e27 e28 e29 T30
 have e31:=zc5 B EC rNoText e8 e14 T31
 have e32:=zd0 B e26 e31 T32
 exact z7n B e15 e18 e20 e22 e26 e30 e31 e32 (zwg (st:=sLaw) l33 c33 k33)
theorem walk{l:jP}{q:Program}{loose:List Str}{XP:(Str->Option Value)->Heap->Prop}{YP:World->Heap->Prop}{d:DefRec}{K:Params->Qa}(hn:l.most=some 63)(hdf:d.params.defaults = [])
 (hY:∀ (w:World) (h:Heap),YP w h->(K w.params).In h)
 (F:∀ (w:World) (mg:Str->Option Value) (fa:Addr) (h:Heap),(K w.params).In h->h.Ns mainGlobals mg->mg d.name=some (.ref fa) ->
  ∃ fd:FuncData,(∀ (s:Shared) (u:Value),BindsTo s fd ⟨[u],[]⟩ [("_law_script", u)])/\∀ base:Heap,(K w.params).In base->base.Ns mainGlobals mg->FnOk l.prog w (K w.params) mg base CX0 9 fa fd ["_law_script"] (zkm (K w.params))) :
 zw q loose XP YP l.row.toRowW d [] (λf vs=>zi f vs) :=
 L2.walk_of (n:=63) (k:=9) (x := "_law_script") (CX:=λ_=>CX0) (sp:=λw=>zkm (K w.params)) hn (by decide) hdf ⟨rfl,by decide,by decide,rfl⟩ hY F (λ_ _ a ns hl _ hS=>⟨a,ns,rfl,hS,hl,λ_=>rfl⟩) λ_ _ _ _ _ z=>z
end L32
theorem PySem.W.Fast.tw11784626307144329391 : True := trivial
theorem PySem.W.Fast.tw9326546327811216355 : True := trivial
theorem PySem.W.Fast.tw17752105645427448082 : True := trivial
theorem PySem.W.Fast.tw4946570130683248442 : True := trivial
theorem PySem.W.Fast.tw4549438568387507613 : True := trivial
theorem PySem.W.Fast.tw14556504856004176384 : True := trivial
theorem PySem.W.Fast.tw17282173566206146559 : True := trivial
theorem PySem.W.Fast.tw18140047366289388462 : True := trivial
theorem PySem.W.Fast.tw5822531543166979266 : True := trivial
theorem PySem.W.Fast.tw12853191369846067086 : True := trivial
theorem PySem.W.Fast.tw11465436235559824469 : True := trivial
theorem PySem.W.Fast.tw2607112809656254204 : True := trivial
theorem PySem.W.Fast.tw6199052332781362096 : True := trivial
theorem PySem.W.Fast.tw9184080957574206752 : True := trivial
theorem PySem.W.Fast.tw4823939261747111608 : True := trivial
theorem PySem.W.Fast.tw15747675923425480960 : True := trivial
theorem PySem.W.Fast.tw6203479789478088793 : True := trivial
theorem PySem.W.Fast.tw10645287214994137940 : True := trivial
theorem PySem.W.Fast.tw8190487436415557351 : True := trivial
theorem PySem.W.Fast.tw4884937180762247290 : True := trivial
theorem PySem.W.Fast.tw346978389363165037 : True := trivial
theorem PySem.W.Fast.tw14902808198181376345 : True := trivial
theorem PySem.W.Fast.tw4523855545663716454 : True := trivial
theorem PySem.W.Fast.tw8761653821828631920 : True := trivial
theorem PySem.W.Fast.tw5001017880552346919 : True := trivial
theorem PySem.W.Fast.tw15595713770513009063 : True := trivial
theorem PySem.W.Fast.tw12680194974937223112 : True := trivial
theorem PySem.W.Fast.tw12859256254398741657 : True := trivial
open PySem PySem.W PyProof.Rows
set_option maxRecDepth 100000 in
set_option maxHeartbeats 0 in
theorem PySem.Challenge.cw_lostpost_k32_texts_of_no_house_holds : PySem.Challenge.rw_lostpost_k32_texts_of_no_house.Holds := by
 w_on;o_law;k_head; (case hw=>w_witness2)
 k_fill
 refine L32.walk (l:=PySem.Challenge.rw_lostpost_k32_texts_of_no_house) rfl rfl (λw h Y=>PySem.W.kIn_of Y) ?F
 case F =>
  intro w mg fa h KX G hmg
  refine' L32.all_mk KX G hmg (L32.din_mk ?a1 ?l1 ?c1 ?k1) (L32.din_mk ?a2 ?l2 ?c2 ?k2) (L32.din_mk ?a3 ?l3 ?c3 ?k3) (L32.din_mk ?a4 ?l4 ?c4 ?k4) (L32.din_mk ?a5 ?l5 ?c5 ?k5) (L32.din_mk ?a6 ?l6 ?c6 ?k6) (L32.din_mk ?a7 ?l7 ?c7 ?k7) (L32.din_mk ?a8 ?l8 ?c8 ?k8) (L32.din_mk ?a9 ?l9 ?c9 ?k9) (L32.din_mk ?a10 ?l10 ?c10 ?k10) (L32.din_mk ?a11 ?l11 ?c11 ?k11) (L32.din_mk ?a12 ?l12 ?c12 ?k12) (L32.din_mk ?a13 ?l13 ?c13 ?k13) (L32.din_mk ?a14 ?l14 ?c14 ?k14) (L32.din_mk ?a15 ?l15 ?c15 ?k15) (L32.din_mk ?a16 ?l16 ?c16 ?k16) (L32.din_mk ?a17 ?l17 ?c17 ?k17) (L32.din_mk ?a18 ?l18 ?c18 ?k18) (L32.din_mk ?a19 ?l19 ?c19 ?k19) (L32.din_mk ?a20 ?l20 ?c20 ?k20) (L32.din_mk ?a21 ?l21 ?c21 ?k21) (L32.din_mk ?a22 ?l22 ?c22 ?k22) (L32.din_mk ?a23 ?l23 ?c23 ?k23) (L32.din_mk ?a24 ?l24 ?c24 ?k24) (L32.din_mk ?a25 ?l25 ?c25 ?k25) (L32.din_mk ?a26 ?l26 ?c26 ?k26) (L32.din_mk ?a27 ?l27 ?c27 ?k27) (L32.din_mk ?a28 ?l28 ?c28 ?k28) (L32.din_mk ?a29 ?l29 ?c29 ?k29) (L32.din_mk ?a30 ?l30 ?c30 ?k30) (L32.din_mk ?a31 ?l31 ?c31 ?k31) (L32.din_mk ?a32 ?l32 ?c32 ?k32) (L32.din_mk ?a33 ?l33 ?c33 ?k33) ?z1 ?z2 ?z3 ?z4 ?z5 ?z6 ?z7 ?z8 ?z9 ?z10 ?z11 ?z12 ?z13 ?z14 ?z15 ?z16 ?z17 ?z18 ?z19 ?z20 (L3.tupIn_mk ?gHEADSa ?gHEADSb ?gHEADSc ?gHEADSd) (L3.dctIn_mk ?gSHAPESa ?gSHAPESb ?gSHAPESc ?gSHAPESd ?gSHAPESe) (L3.errIn_mk ?xe1 ?xe2 ?xe3 ?xe4 ?xe5 ?xe6 ?xe7 ?xe8 ?xe9 ?xe10 ?xe11 ?xe12) (L3.raise1_mk ?xNoTexth1 ?xNoTexth2 ?xNoTexth3 ?xNoTexth4 ?xNoTexth5 ?xNoTexth6 ?xNoTexth7 ?xNoTexth8 ?xNoTexth9 ?xNoTexth10 ?xNoTexth11 ?xNoTexth12 ?xNoTexth13 ?xNoTexth14 ?xNoTexth15 ?xNoTexth16 ?xNoTexth17 ?xNoTexth18 ?xNoTexth19 ?xNoTexth20 (L3.no_cons ?xNoTextn0a ?xNoTextn0b ?xNoTextn0c ?xNoTextn0d (L3.no_cons ?xNoTextn1a ?xNoTextn1b ?xNoTextn1c ?xNoTextn1d (L3.no_cons ?xNoTextn2a ?xNoTextn2b ?xNoTextn2c ?xNoTextn2d (L3.no_cons ?xNoTextn3a ?xNoTextn3b ?xNoTextn3c ?xNoTextn3d (L3.no_cons ?xNoTextn4a ?xNoTextn4b ?xNoTextn4c ?xNoTextn4d (L3.no_cons ?xNoTextn5a ?xNoTextn5b ?xNoTextn5c ?xNoTextn5d L3.no_nil)))))) (L3.init1_mk ?xNoTexti1 ?xNoTexti2 ?xNoTexti3 ?xNoTexti4 ?xNoTexti5 ?xNoTexti6))
  (case a1=>k_is); (case l1=>k_is); (case c1=>k_is); (case k1=>k_is)
  (case a2=>k_is); (case l2=>k_is); (case c2=>k_is); (case k2=>k_is)
  (case a3=>k_is); (case l3=>k_is); (case c3=>k_is); (case k3=>k_is)
  (case a4=>k_is); (case l4=>k_is); (case c4=>k_is); (case k4=>k_is)
  (case a5=>k_is); (case l5=>k_is); (case c5=>k_is); (case k5=>k_is)
  (case a6=>k_is); (case l6=>k_is); (case c6=>k_is); (case k6=>k_is)
  (case a7=>k_is); (case l7=>k_is); (case c7=>k_is); (case k7=>k_is)
  (case a8=>k_is); (case l8=>k_is); (case c8=>k_is); (case k8=>k_is)
  (case a9=>k_is); (case l9=>k_is); (case c9=>k_is); (case k9=>k_is)
  (case a10=>k_is); (case l10=>k_is); (case c10=>k_is); (case k10=>k_is)
  (case a11=>k_is); (case l11=>k_is); (case c11=>k_is); (case k11=>k_is)
  (case a12=>k_is); (case l12=>k_is); (case c12=>k_is); (case k12=>k_is)
  (case a13=>k_is); (case l13=>k_is); (case c13=>k_is); (case k13=>k_is)
  (case a14=>k_is); (case l14=>k_is); (case c14=>k_is); (case k14=>k_is)
  (case a15=>k_is); (case l15=>k_is); (case c15=>k_is); (case k15=>k_is)
  (case a16=>k_is); (case l16=>k_is); (case c16=>k_is); (case k16=>k_is)
  (case a17=>k_is); (case l17=>k_is); (case c17=>k_is); (case k17=>k_is)
  (case a18=>k_is); (case l18=>k_is); (case c18=>k_is); (case k18=>k_is)
  (case a19=>k_is); (case l19=>k_is); (case c19=>k_is); (case k19=>k_is)
  (case a20=>k_is); (case l20=>k_is); (case c20=>k_is); (case k20=>k_is)
  (case a21=>k_is); (case l21=>k_is); (case c21=>k_is); (case k21=>k_is)
  (case a22=>k_is); (case l22=>k_is); (case c22=>k_is); (case k22=>k_is)
  (case a23=>k_is); (case l23=>k_is); (case c23=>k_is); (case k23=>k_is)
  (case a24=>k_is); (case l24=>k_is); (case c24=>k_is); (case k24=>k_is)
  (case a25=>k_is); (case l25=>k_is); (case c25=>k_is); (case k25=>k_is)
  (case a26=>k_is); (case l26=>k_is); (case c26=>k_is); (case k26=>k_is)
  (case a27=>k_is); (case l27=>k_is); (case c27=>k_is); (case k27=>k_is)
  (case a28=>k_is); (case l28=>k_is); (case c28=>k_is); (case k28=>k_is)
  (case a29=>k_is); (case l29=>k_is); (case c29=>k_is); (case k29=>k_is)
  (case a30=>k_is); (case l30=>k_is); (case c30=>k_is); (case k30=>k_is)
  (case a31=>k_is); (case l31=>k_is); (case c31=>k_is); (case k31=>k_is)
  (case a32=>k_is); (case l32=>k_is); (case c32=>k_is); (case k32=>k_is)
  (case a33=>k_is); (case l33=>k_is); (case c33=>k_is); (case k33=>k_is)
  (case z1=>k_is)
  (case z2=>k_is)
  (case z3=>k_is)
  (case z4=>k_is)
  (case z5=>k_is)
  (case z6=>k_is)
  (case z7=>k_is)
  (case z8=>k_is)
  (case z9=>k_is)
  (case z10=>k_is)
  (case z11=>k_is)
  (case z12=>k_is)
  (case z13=>k_is)
  (case z14=>k_is)
  (case z15=>k_is)
  (case z16=>k_is)
  (case z17=>k_is)
  (case z18=>k_is)
  (case z19=>k_is)
  (case z20=>k_is)
  (case gHEADSa=>k_is); (case gHEADSb=>k_is); (case gHEADSc=>decide +kernel); (case gHEADSd=>exact⟨⟨_,rfl⟩,⟨_,rfl⟩,⟨_,rfl⟩,trivial⟩)
  (case gSHAPESa=>k_is); (case gSHAPESb=>k_is); (case gSHAPESc=>decide +kernel); (case gSHAPESd=>exact⟨⟨rfl,⟨_,rfl⟩,⟨_,rfl⟩⟩,⟨rfl,⟨_,rfl⟩,⟨_,rfl⟩⟩,⟨rfl,⟨_,rfl⟩,⟨_,rfl⟩⟩,⟨rfl,⟨_,rfl⟩,⟨_,rfl⟩⟩,⟨rfl,⟨_,rfl⟩,⟨_,rfl⟩⟩,⟨rfl,⟨_,rfl⟩,⟨_,rfl⟩⟩,trivial⟩); (case gSHAPESe=>decide +kernel)
  (case xe1=>k_is)
  (case xe2=>k_is)
  (case xe3=>k_is)
  (case xe4=>k_is)
  (case xe5=>k_is)
  (case xe6=>k_is)
  (case xe7=>k_is)
  (case xe8=>k_is)
  (case xe9=>k_is)
  (case xe10=>k_is)
  (case xe11=>k_is)
  (case xe12=>k_is)
  (case xNoTexth1=>k_is)
  (case xNoTexth2=>k_is)
  (case xNoTexth3=>k_is)
  (case xNoTexth4=>k_is)
  (case xNoTexth5=>k_is)
  (case xNoTexth6=>k_is)
  (case xNoTexth7=>k_is)
  (case xNoTexth8=>k_is)
  (case xNoTexth9=>k_is)
  (case xNoTexth10=>k_is)
  (case xNoTexth11=>k_is)
  (case xNoTexth12=>k_is)
  (case xNoTexth13=>k_is)
  (case xNoTexth14=>k_is)
  (case xNoTexth15=>exact L3.strKeys_of (by kernel_rfl))
  (case xNoTexth16=>kernel_rfl)
  (case xNoTexth17=>k_is)
  (case xNoTexth18=>k_is)
  (case xNoTexth19=>k_is)
  (case xNoTexth20=>k_is)
  (case xNoTextn0a=>decide +kernel); (case xNoTextn0b=>k_is); (case xNoTextn0c=>k_is); (case xNoTextn0d=>k_is)
  (case xNoTextn1a=>decide +kernel); (case xNoTextn1b=>k_is); (case xNoTextn1c=>k_is); (case xNoTextn1d=>k_is)
  (case xNoTextn2a=>decide +kernel); (case xNoTextn2b=>k_is); (case xNoTextn2c=>k_is); (case xNoTextn2d=>k_is)
  (case xNoTextn3a=>decide +kernel); (case xNoTextn3b=>k_is); (case xNoTextn3c=>k_is); (case xNoTextn3d=>k_is)
  (case xNoTextn4a=>decide +kernel); (case xNoTextn4b=>k_is); (case xNoTextn4c=>k_is); (case xNoTextn4d=>k_is)
  (case xNoTextn5a=>decide +kernel); (case xNoTextn5b=>k_is); (case xNoTextn5c=>k_is); (case xNoTextn5d=>k_is)
  (case xNoTexti1=>k_is); (case xNoTexti2=>k_is); (case xNoTexti3=>exact⟨rfl,rfl,rfl,by decide +kernel,rfl,by decide +kernel,by decide +kernel⟩); (case xNoTexti4=>exact⟨Or.inl rfl,Or.inl rfl⟩); (case xNoTexti5=>decide +kernel); (case xNoTexti6=>exact λus hl=>L3.len2 hl λ_ _=>rfl)

