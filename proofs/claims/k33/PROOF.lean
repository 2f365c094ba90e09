import PyProof.Rows.All
import Wide.All
import OpenK.AllK
import Wide.FinOn
import Lean
import PyProof.EqAt
import PyProof.EqKinds
import PyProof.TupleCall
import PyProof.StationsW
import PyProof.ExcClass2
import PyProof.ExcBaseAll.ValueError
import PyProof.InstStoreFacts
import PyProof.RulesAs
import PyProof.NsDelKeeps
import PyProof.P3Eq
import PyProof.P3In
import PyProof.ReprRoads
import PyProof.StrWalks
import PyProof.ListRange
import PyProof.ListStr
import PyProof.ConsumeWalk
import PyProof.MinMaxWalk
import PyProof.NeData
import PyProof.SliceStr2
import PyProof.Rows.SortStr
import PyProof.Rows.StrJoin2
import PyProof.Rows.SeqMore
import PyProof.SeqI3
import PyProof.StrLawsIn
import PySem.Challenge.RW_lostpost_k33_standings_told
import PyProof.ReprBulk
import PyProof.ListMulRoad
import PyProof.StrOps2
import PyProof.Rows.SortShellK
import KE.KSortTup
import PyProof.Rows.SetFrom
import PyProof.CollectIter
import PyProof.CollectStr
import PyProof.FactsAll.set
import PyProof.ExcAttrAll.ValueError
import PyProof.ExcArgs
import KE.KIsAll
import PySem.SetTable
import PyProof.SetScanFacts
import PyProof.TupleKey
import PyProof.IsRules
import KE.KDictOf
import PyProof.AttrMissHeap
import PyProof.DictWalks
import KE.KDictLaws
import PyProof.Draws
import KE.KRevIter
import PyProof.EnumStmt
import PyProof.JoinWalk
import KE.BitLaws
import PyProof.TupleOfSeq
import PyProof.StrCalls6
import PyProof.StrLawsReplace
import PyProof.DictRoadsH
import PyProof.ZipIter
import PyProof.EnumIter
import KE.KItemsList
open Array renaming getElem?_eq_getElem → ZA, length_toList → Jv, getElem?_eq_some_iff → JH, toList_inj → JK, getElem?_eq_none → Yk, getElem?_toList → Yo, getD_eq_getD_getElem? → YA, append_empty → YJ, mem_toList_iff → j3, toList_push → qh, toList → zg
open Bool renaming false_ne_true → Qn, and_eq_true → Qv, true_and → QO, false_and → Z5, false_eq_true → ZP, not_eq_true' → JF, eq_iff_iff → JW, or_eq_true → JY, and_eq_true_iff → Yw, false_or → jK, and_false → qN, or_false → qT, and_true → qY
open Classical renaming choose_spec → Jh
open False renaming elim → ZF
open ForInStep renaming yield → Y2
open Int renaming eq_ofNat_of_zero_le → QP, ofNat → Ja, emod_lt_of_pos → Jd, emod_nonneg → JD, natCast_nonneg → jW, toNat_natCast → qm, ediv_nonneg → qE, natCast_mul → qF
open List renaming length_map → Qb, mem_cons_of_mem → Qe, replicate → Qf, length_append → Qg, mem_cons_self → Qj, getElem?_eq_getElem → Ql, length_cons → Qm, getElem?_eq_some_iff → Qs, mem_cons → Qt, mem_map → Qu, mem_append_right → Qw, size_toArray → Qx, getElem?_map → Qy, length_take → Qz, map_cons → Q2, mem_singleton → Q3, mem_append → Q6, all_eq_true → Q9, map_map → QB, length_drop → QD, getElem?_set_ne → QF, not_mem_nil → QG, getElem?_set_self → QI, getElem_mem → QL, length_replicate → QN, map_append → QR, getElem?_append_left → QU, replicate_succ → QV, length_set → QX, flatten_cons → QY, length_range → QZ, map_congr_left → Zl, drop_eq_getElem_cons → Zm, mem_of_getElem? → Zn, length_singleton → Zq, lookup_cons_self → Zr, getElem?_eq_none → Zs, mem_of_mem_drop → Zu, mem_of_mem_take → Zv, lookup_cons → Zz, getElem?_replicate → Z4, getElem?_append_right → Z6, append_nil → Z8, length_nil → ZE, getElem?_drop → ZG, mem_iff_getElem? → ZN, eq_nil_of_length_eq_zero → ZT, getElem?_cons_succ → ZV, drop_eq_nil_of_le → ZY, range → Jb, getD_eq_getElem?_getD → Jf, getElem?_zip_eq_some → Jj, nodup_cons → Jk, foldl_cons → Jl, mem_append_left → Jm, append_assoc → Jn, filterMap_cons → Ju, length_pos_iff → Jw, mem_range → Jx, lookup → J2, map_id → J4, take_of_length_le → J8, of_mem_zip → JC, filter_cons → JM, nil_append → JU, forIn_cons → JV, forIn_nil → Yi, map → Ym, filter_eq_nil_iff → Yn, foldl → Yq, drop_length → Ys, exists_mem_of_length_pos → Yy, mem_filter → Yz, getElem?_range → Y7, drop_zero → YL, drop_take → YS, mem_replicate → YT, sum_cons → jb, length_erase_of_mem → jd, take_length → jg, zipIdx_cons → jk, sublist_cons_self → jq, length_pos_of_mem → jr, length_zip → jy, take_eq_take_min → j1, getElem?_mapIdx → j7, drop_drop → j8, length_eraseIdx → j9, mem_erase_of_ne → jA, drop_left → jC, map_eq_nil_iff → jH, getElem_of_mem → jI, all_cons → jL, mem_filterMap → jM, contains_cons → jQ, zip_cons_cons → jU, map_inj_right → jV, head?_filter → qg, ext_getElem? → ql, getElem_inj → qp, getD → qA, cons_append → qC, zipIdx_nil → qI, filterMap → qM, take_left → qS, take_nil → qV, map_take → qW
open List.cons renaming injEq → jx
open Nat renaming le_refl → Qo, le_trans → Q4, lt_of_lt_of_le → Q5, ne_of_lt → Q8, zero_le → QH, lt_irrefl → QS, lt_succ_of_lt → Z1, not_lt → ZH, lt_succ_self → ZQ, le_succ → ZZ, le_of_succ_le → Jo, add_sub_cancel_left → Jz, ne_of_gt → J5, le_of_lt → Yd, le_of_eq → Yh, mul_le_mul_right → Yx, lt_or_ge → Y8, le_of_not_lt → jf, mul_comm → jp, min_eq_left → jw, le_of_ble_eq_true → j2, lt_of_le_of_ne → jR, succ_mul → qc, min_eq_right → qv, not_lt_zero → qH
open Ne renaming symm → ZD
open Option renaming map_eq_some_iff → QA, isSome_iff_exists → JR, map_some → Y1, none → j5, isSome_some → jO, getD_none → qs
open Option.some renaming inj → Zy
open PyProof.Rows renaming slot_tuple_getitem → Zp, callWith_builtin1 → Z9, callWith_type1 → ZJ
open PyProof.Rows.F renaming plain_set_update_loop → Yc, entry_set_update_loop → ji
open PyProof.Rows.IsTup renaming new → je
open PySem renaming Spec → Qi, mem_of_lookup → Z0, strKind → ZL, Str → Yb, intText? → j6, seqSlot_of → qw, SetTable → qK, call → qL, Builtin → qX, Within → zf
open PySem.Around renaming under_plainId → Jq, under → jo
open PySem.Builtin.Frozenset renaming updateFrom → qG, newClass → qO, slot0 → zd
open PySem.Builtin.List renaming listTooLong → JT, listExtendWith → YB
open PySem.Builtin.ObjectAttr renaming bindTo → YU
open PySem.Builtin.Slice renaming slicePlaces → Ji, sliceAdjust → JN, sliceApplied → YF
open PySem.Builtin.SmallTypes renaming nextOf → QK, ownedTupleIsFree → ZC, ownedTupleHandOut → JP
open PySem.Builtin.Str renaming occurrences → QE, glued → Yj, strSliceIndices → Y9, partsBetween → jc, strKind → jG
open PySem.Builtin.Tuple renaming tupleExact → Js, tupleItemsOf → YG, tupleTooMany → YN
open PySem.Calls renaming spliced_cons → Zw, spliced_nil → ZU, Name_function_global → YD
open PySem.Code renaming quiet_builtin → YK, isFrame → jZ
open PySem.Data renaming seq → zh
open PySem.EntryCells renaming newEntry → jF
open PySem.F renaming slot_tuple_iterator_next → Jg, plainAttrs_str → J9, called_set → JB, slot_tuple_mul → JL, args_tuple_add_2 → JS, entry_tuple_add → Ya, slot_tuple_add → Yg, slot_int_rmul → Y0, args_tuple_iterator_next_1 → Y3, slot_zip_next → Y4, entry_tuple_iterator_next → YC, args_tuple_mul_2 → YO, args_str_split_2 → YQ, entry_tuple_mul → YY, entry_str_split → YZ, slot_str_split → jh, slot_str_join → jz, type_str_join → j0, store_object → j4, args_int_rmul_2 → qd, slot_tuple_rmul → qf, plain_list_iadd → qk, args_zip_next_1 → qo, slot_int_index → qt, entry_int_rmul → qu, entry_zip_next → qB
open PySem.Heap renaming get?_push_of_some → Qc, lt_size → Qk, get?_push_size → Qq, get?_update_other → QJ, size_push → QT, get?_update_self → Zj, SameBut → ZW, size_update → qx
open PySem.Heap.SameBut renaming update → jJ
open PySem.NameKind renaming free → Zk, cell → Zo
open PySem.Obj renaming isFreed_of_fields → ZM, mapFields → Jt, data_mapFields → J7, mapSeq → YI, cls_mapFields → qe
open PySem.PyData renaming eqv → QM, canLayAll0 → Z3, str → Z7, strOk → ZX, canLay0 → Je, depth → JA, list → JI, depthAll → JX, tuple → Yl, eqvAll → Yv, int → YM, bool → qD
open PySem.PyData.int renaming inj → qQ
open PySem.PyData.list renaming inj → qJ
open PySem.PyData.str renaming inj → qR
open PySem.PyData.tuple renaming inj → jl, injEq → jT
open PySem.SetTable renaming grown → J1, below → JJ, fits → za
open PySem.SetTable.below renaming go → ja
open PySem.Shared renaming heap → jB, TypeIs → qZ
open PySem.Str renaming ofString → Qp, length → YH
open PySem.Txt renaming join → J0, split → Yt, find3 → zc
open PySem.Value renaming ref → QC, none → Zh, bool → Jr, isStrOf → JQ, type → JZ, str → Yp, isStrOf_shape → Y5, int → jE
open PySem.Value.ref renaming inj → zb
open PySem.W renaming Frag → Qa, nsIn → Q0, mg_none_of → Q7, findIn → QQ, mroIn → QW, kitOne → Zi, kia_one → Zt, fnOf → Zx, keepIn → ZB, Looks → ZK, mg_of → ZR, typeIn → Jc, looks_findIn → Jp, codeIn → Jy, emptyDict → JE, InstAt → JG, looks_mroIn → JO, lookIn → Ye, cellsFrom_some → Yf, clsIn → Yu, looks_clsIn → Y6, callWith_K → YE, kitAny → YR, methodObj → YV, hasDictIn → YW, specialIn → YX, instObj → jt, takesIn → ju, OpenLaw → jv, kitx_tuple → jN, check_slot → jP, looks_find → jS, kitx_list → jX, kitx_dict → jY, plainGet → qq, handedIn → qy, any_some → qz, kitCls → qP, WalkO → qU
open PySem.W.Looks renaming here → ZI, ld → Yr
open PySem.Within renaming cons → zi
open PySem.pickOrder renaming go → qj
open Sum renaming inr → jm, inl → jD
open True renaming intro → jn
set_option Elab.async false
set_option linter.all false
set_option maxRecDepth 100000
local macro_rules | `(tactic| omega) => `(tactic| lia)
namespace L2
open PySem PySem.Spec PyProof.Rows
abbrev Key:=Sum Int Str
def zv6:Key->Value->Bool
 | .inl k,v=>Value.isInt k v
 | .inr x,v=>JQ x v
def keyH(w:World):Key->Int
 | .inl k=>hashInt k
 | .inr x=>hashStr w x
theorem zbp:∀ {k:Key} {v:Value},zv6 k v=true->(∃ i t,k=jD i/\v=jE i t)\/(∃ x t,k=jm x/\v=Yp x t)
 | .inl i,v,h=>by
   obtain⟨t,e⟩:=Value.isInt_shape (k:=i) (v:=v) h
   exact .inl ⟨i,t,rfl,e⟩
 | .inr x,v,h=>by
   obtain⟨t,e⟩:=Y5 (x:=x) (v:=v) h
   exact .inr ⟨x,t,rfl,e⟩
theorem z3v(a b:Int):decide ((jD a:Key)=jD b)=(a == b):=by
 by_cases e:a=b
 ·subst e;simp
 ·have h:¬ (jD a:Key)=jD b:=λq=>e (Sum.inl.inj q)
  rw[decide_eq_false h]
  exact(beq_eq_false_iff_ne.mpr e).symm
theorem z2z(a b:Str):decide ((jm a:Key)=jm b)=decide (a=b):=by
 by_cases e:a=b
 ·subst e;simp
 ·have h:¬ (jm a:Key)=jm b:=λq=>e (Sum.inr.inj q)
  rw[decide_eq_false h,decide_eq_false e]
theorem z3a(a:Int)(b:Str):decide ((jD a:Key)=jm b)=false:=decide_eq_false (λq=>nomatch q)
theorem z4e(a:Str)(b:Int):decide ((jm a:Key)=jD b)=false:=decide_eq_false (λq=>nomatch q)
def zop(prog:Program)(w:World):PySem.KeyKind prog w Key where
 is:=zv6
 hash:=keyH w
 inj:=λv a b ha hb=>by
  rcases zbp ha with ⟨i,t,rfl,rfl⟩|⟨x,t,rfl,rfl⟩
  ·rcases zbp hb with ⟨j,u,rfl,e⟩|⟨y,u,rfl,e⟩
   ·injection e with e1 _;rw[e1]
   ·exact nomatch e
  ·rcases zbp hb with ⟨j,u,rfl,e⟩|⟨y,u,rfl,e⟩
   ·exact nomatch e
   ·injection e with e1 _;rw[e1]
 byValue:=λk v h=>by
  rcases zbp h with ⟨i,t,rfl,rfl⟩|⟨x,t,rfl,rfl⟩ <;> rfl
 pyHash:=λhv h=>by
  rcases zbp hv with ⟨i,t,rfl,rfl⟩|⟨x,t,rfl,rfl⟩
  ·exact wpAny_pyHash_int h
  ·exact wpAny_pyHash_str h
 eqBool:=λhu hv h=>by
  rcases zbp hu with ⟨i,t,rfl,rfl⟩|⟨x,t,rfl,rfl⟩
  ·rcases zbp hv with ⟨j,u,rfl,rfl⟩|⟨y,u,rfl,rfl⟩
   ·rw[z3v] at h;exact wpAny_eqBool_int h
   ·rw[z3a] at h;exact SeqAt.EqAt.int_str i t y u _ _ _ _ h
  ·rcases zbp hv with ⟨j,u,rfl,rfl⟩|⟨y,u,rfl,rfl⟩
   ·rw[z4e] at h;exact SeqAt.EqAt.str_int x t j u _ _ _ _ h
   ·rw[z2z] at h;exact wpAny_eqBool_str h
 «strs»:=λk x t v h=>by
  rcases zbp h with ⟨i,u,rfl,e⟩|⟨y,u,rfl,e⟩
  ·exact nomatch e
  ·injection e with e1 _
   subst e1
   cases v <;> rfl
inductive V where
 | non|bl (b:Bool)|int (i:Int)|str (x:Str)|byt (b:Array UInt8)|flt (b:UInt64)|ref (a:Addr)|ty (n:String)
 deriving DecidableEq
def RelV:V->Value->Prop
 | .non,u=>u=Zh
 | .bl b,u=>u=Jr b
 | .int i,u=>∃ t,u=jE i t
 | .str x,u=>∃ t,u=Yp x t
 | .byt b,u=>∃ t,u=Value.bytes b t
 | .flt b,u=>∃ t,u=Value.float b t
 | .ref a,u=>u=QC a
 | .ty n,u=>u=JZ n
abbrev Vals:List V->List Value->Prop:=Paired RelV
theorem Vals.length{xs:List V}{us:List Value}(r:Vals xs us):xs.length=us.length:=Paired.length r
theorem Vals.get:∀ {xs:List V} {us:List Value} {i:Nat} {x:V},Vals xs us->xs[i]? = some x->∃ u,us[i]? = some u/\RelV x u
 | _,_,_,_,.nil,e=>by simp at e
 | _,_,0,_,.cons r _,e=>by simp at e;subst e;exact⟨_,rfl,r⟩
 | _,_,i+1,x,.cons _ t,e=>by
   obtain⟨u,h1,h2⟩:=Vals.get (i:=i) (x:=x) t (by simpa using e)
   exact⟨u,by simpa using h1,h2⟩
theorem Vals.set{x:V}{u:Value}(r:RelV x u):∀ {xs:List V} {us:List Value} (i:Nat),Vals xs us->Vals (xs.set i x) (us.set i u)
 | _,_,_,.nil => .nil
 | _,_,0,.cons _ t => .cons r t
 | _,_,i+1,.cons q t => .cons q (Vals.set r i t)
theorem Vals.append:∀ {xs ys:List V} {us ws:List Value},Vals xs us->Vals ys ws->Vals (xs++ys) (us++ws)
 | _,_,_,_,.nil,s=>s
 | _,_,_,_,.cons r t,s => .cons r (Vals.append t s)
theorem Vals.take:∀ {xs:List V} {us:List Value} (n:Nat),Vals xs us->Vals (xs.take n) (us.take n)
 | _,_,0,_ => .nil
 | _,_,_+1,.nil => .nil
 | _,_,n+1,.cons r t => .cons r (Vals.take n t)
theorem Vals.drop:∀ {xs:List V} {us:List Value} (n:Nat),Vals xs us->Vals (xs.drop n) (us.drop n)
 | _,_,0,r=>r
 | _,_,_+1,.nil => .nil
 | _,_,n+1,.cons _ t=>Vals.drop n t
def RelO:Option V->Option Value->Prop
 | some v,some u=>RelV v u
 | none,none=>True
 | _,_=>False
def KV{κ:Type}:List (κ × V)->List (κ × Value)->Prop:=Paired λ(p:κ × V) (q:κ × Value)=>p.1=q.1/\RelV p.2 q.2
def kV:Key->V
 | .inl i => .int i
 | .inr x => .str x
inductive HO where
 | lst (xs:List V)
 | tup (xs:List V)
 | dK (kvs:List (Key × V))|dT (kvs:List (List Key × V))
 | set (S:Int->Bool) (n:Nat)
 | ins (C dx:Addr) (fs:List (Str × V))
 | own (x:Addr)
 | xd (fs:List (Str × V))
 | met (f x:Addr)
 | rng (lo hi:Int)
 | frz (o:Obj) (u:HO)
 | tbl (ps:Array Value)
 | ext (φ:Heap->Prop)
abbrev Hp:=Addr->Option HO
def upd(H:Hp)(a:Addr)(o:HO):Hp:=λb=>if b=a then some o else H b
theorem zar{H:Hp}{a:Addr}{o:HO}:upd H a o a=some o:=by unfold upd;rw[if_pos rfl]
theorem zaf{H:Hp}{a b:Addr}{o:HO}(h:b ≠ a):upd H a o b=H b:=by unfold upd;rw[if_neg h]
theorem zct{H:Hp}{a b:Addr}{o:HO}(h:H a=some o)(h':H b=none):a ≠ b:=by
 intro e;subst e;rw[h] at h';cases h'
section
variable (P : Program) (w : World)
def ObjOk(H:Hp)(h:Heap)(a:Addr):HO->Prop
 | .lst xs=>xs.length<=sizeLine/\∃ (its:List Value) (n:Nat),Vals xs its/\h.get? a=some { cls := .type "list", data := .seq its.toArray n }
 | .tup xs=>xs.length<=sizeLine/\∃ its:List Value,Vals xs its/\IsTup h a its.toArray
 | .dK kvs=>kvs.length<=sizeLine/\(a == sysModules)=false/\∃ vs,KV kvs vs/\h.DictOf (zop P w) a vs
 | .dT kvs=>kvs.length<=sizeLine/\(a == sysModules)=false/\∃ xs:List (List Key × Addr × Value),
  Paired (λ(p:List Key × V) (q:List Key × Addr × Value)=>p.1=q.1/\H q.2.1=some (.tup (p.1.map kV))/\RelV p.2 q.2.2) kvs xs /\
  ∃ o es ep,h.get? a=some o/\o.ExactDict/\o.data = .dict es ep/\es.toList=xs.map (entryOfKey (tupleKind (zop P w)))/\(xs.map (·.1)).Nodup
 | .set S n=>h.SetOf (intKind P w) a S n
 | .ins C dx fs=>H dx=some (.own a)/\fs.length<=1000/\dx ≠ a/\h.get? a=some (jt C dx) /\
  ∃ mA,h.Ns1 dx mA/\(∀ f,RelO (fs.lookup f) (mA f))/\zf mA (fs.map (·.1))
 | .own _=>∃ o,h.get? a=some o
 | .xd fs=>∃ mA,h.Ns1 a mA/\∀ f,RelO (fs.lookup f) (mA f)
 | .rng lo hi=>∃ t u v,h.get? a=some { cls := .type "range", data := .fields #[.int lo t,.int hi u,.int 1 v] }
 | .frz o u=>h.get? a=some o/\ObjOk H h a u
 | .tbl ps=>h.get? a=some { cls := .none,data := .fields ps }
 | .met f x=>h.get? a=some (YV (.ref f) (.ref x))
 | .ext φ=>φ h/\(∃ o,h.get? a=some o)/\∀ h1 h2:Heap,φ h1->(∀ o,h1.get? a=some o->h2.get? a=some o)->φ h2
def HOk(H:Hp)(h:Heap):Prop:=∀ a o,H a=some o->ObjOk P w H h a o
end
section
variable {P : Program} {w : World} {H H' : Hp} {h h' : Heap} {a : Addr} {o : HO}
theorem ObjOk.lt(x:ObjOk P w H h a o):a<h.objs.size:=by
 cases o with
 | lst xs=>obtain⟨_,_,_,_,e⟩:=x;exact Qk e
 | tup xs=>obtain⟨_,_,_,p⟩:=x;exact p.lt
 | dK kvs=>obtain⟨_,_,_,_,o,_,_,e,_⟩:=x;exact Qk e
 | dT kvs=>obtain⟨_,_,_,_,o,_,_,e,_⟩:=x;exact Qk e
 | set S n=>obtain⟨o,_,_,_,e,_⟩:=x;exact Qk e
 | ins C dx fs=>obtain⟨_,_,_,e,_⟩:=x;exact Qk e
 | own y=>obtain⟨_,e⟩:=x;exact Qk e
 | xd fs=>obtain⟨_,⟨_,_,_,e,_⟩,_⟩:=x;exact Qk e
 | rng lo hi=>obtain⟨_,_,_,e⟩:=x;exact Qk e
 | frz ob u=>obtain⟨e,_⟩:=x;exact Qk e
 | tbl ps=>exact Qk (show h.get? a=some _ from x)
 | met f y=>exact Qk (show h.get? a=some _ from x)
 | ext φ=>obtain⟨_,⟨_,e⟩,_⟩:=x;exact Qk e
theorem Paired.mapP{α β:Type}{F G:α->β->Prop}:∀ {l₁:List α} {l₂:List β},Paired F l₁ l₂->(∀ a b,F a b->G a b)->Paired G l₁ l₂
 | _,_,.nil,_ => .nil
 | _,_,.cons r t,f => .cons (f _ _ r) (Paired.mapP t f)
theorem ObjOk.stay(x:ObjOk P w H h a o)(k:∀ b u,(b=a\/H b=some (.own a))->h.get? b=some u->h'.get? b=some u)
 (ho:∀ b,H b=some (.own a)->H' b=some (.own a)) (ht:∀ b xs,H b=some (.tup xs)->H' b=some (.tup xs)):ObjOk P w H' h' a o:=by
 induction o with
 | lst xs=>obtain⟨z,its,n,r,e⟩:=x;exact⟨z,its,n,r,k _ _ (.inl rfl) e⟩
 | tup xs=>obtain⟨z,its,r,ob,e,c⟩:=x;exact⟨z,its,r,ob,k _ _ (.inl rfl) e,c⟩
 | dK kvs=>obtain⟨z,y,vs,r,ob,es,ep,e,c⟩:=x;exact⟨z,y,vs,r,ob,es,ep,k _ _ (.inl rfl) e,c⟩
 | dT kvs =>
   obtain⟨z,y,xs,r,ob,es,ep,e,c⟩:=x
   exact⟨z,y,xs,Paired.mapP r λp q z=>⟨z.1,ht _ _ z.2.1,z.2.2⟩,ob,es,ep,k _ _ (.inl rfl) e,c⟩
 | set S n=>obtain⟨ob,es,ep,t,e,c⟩:=x;exact⟨ob,es,ep,t,k _ _ (.inl rfl) e,c⟩
 | ins C dx fs =>
   obtain⟨d,z,ne,e,mA,⟨od,es,ep,e2,c⟩,r⟩:=x
   exact⟨ho _ d,z,ne,k _ _ (.inl rfl) e,mA,⟨od,es,ep,k _ _ (.inr d) e2,c⟩,r⟩
 | own y=>obtain⟨ob,e⟩:=x;exact⟨ob,k _ _ (.inl rfl) e⟩
 | xd fs=>obtain⟨mA,⟨od,es,ep,e,c⟩,r⟩:=x;exact⟨mA,⟨od,es,ep,k _ _ (.inl rfl) e,c⟩,r⟩
 | rng lo hi=>obtain⟨t,u,v,e⟩:=x;exact⟨t,u,v,k _ _ (.inl rfl) e⟩
 | frz ob u ih=>obtain⟨e,q⟩:=x;exact⟨k _ _ (.inl rfl) e,ih q⟩
 | tbl ps =>
   have e:h.get? a=some { cls := .none,data := .fields ps }:=x
   show h'.get? a=some { cls := .none,data := .fields ps }
   exact k a _ (.inl rfl) e
 | met f y =>
   have e:h.get? a=some (YV (.ref f) (.ref y)):=x
   show h'.get? a=some (YV (.ref f) (.ref y))
   exact k a _ (.inl rfl) e
 | ext φ=>obtain⟨p,⟨o,e⟩,st⟩:=x;exact⟨st _ _ p λo q=>k _ _ (.inl rfl) q,⟨o,k _ _ (.inl rfl) e⟩,st⟩
theorem HOk.lt(x:HOk P w H h)(e:H a=some o):a<h.objs.size:=(x a o e).lt
theorem HOk.fresh(x:HOk P w H h)(e:h.objs.size<=a):H a=none:=by
 cases q:H a with
 | none=>rfl
 | some u=>exact absurd (Q5 (x.lt q) e) (QS _)
theorem HOk.kept(x:HOk P w H h)(k:∀ b u,h.get? b=some u->h'.get? b=some u):HOk P w H h':=λa o e =>
 (x a o e).stay (λb u _ q=>k b u q) (λ_ q=>q) λ_ _ q=>q
theorem HOk.laid(x:HOk P w H h)(k:∀ b u,h.get? b=some u->h'.get? b=some u)(hp:h.objs.size<=a)(new:ObjOk P w (upd H a o) h' a o):HOk P w (upd H a o) h':=λb u e=>by
 have hn:=x.fresh hp
 by_cases hb:b=a
 ·subst hb;rw[zar] at e;cases e;exact new
 ·rw[zaf hb] at e
  exact(x b u e).stay (λc v _ q=>k c v q) (λc q=>by rw[zaf (zct q hn)];exact q) λc xs q=>by rw[zaf (zct q hn)];exact q
end
def Rd(H:Hp)(a:Addr)(u:HO):Prop:=H a=some u\/∃ o,H a=some (.frz o u)
theorem Rd.ok{P:Program}{w:World}{H:Hp}{h:Heap}{a:Addr}{u:HO}(r:Rd H a u)(x:HOk P w H h):ObjOk P w H h a u:=by
 rcases r with r|⟨o,r⟩
 ·exact x a u r
 ·obtain⟨_,q⟩:=x a _ r
  exact q
def Mut:Option HO->Prop
 | some (.lst _)=>True
 | some (.dK _)=>True
 | some (.dT _)=>True
 | some (.set _ _)=>True
 | some (.ins _ _ _)=>True
 | some (.ext _)=>True
 | _=>False
section
variable {P : Program} {w : World} {H : Hp} {h h' : Heap} {x e : Addr} {o' : HO}
theorem HOk.write(ok:HOk P w H h)(mu:Mut (H x))(he:e=x\/H e=some (.own x))(k:∀ b u,b ≠ e->h.get? b=some u->h'.get? b=some u)(heo:∃ u,h'.get? e=some u)
 (new:ObjOk P w (upd H x o') h' x o'):HOk P w (upd H x o') h':=λb u q=>by
 have nown:∀ c y,H c=some (.own y)->c ≠ x:=λc y r z=>by subst z;rw[r] at mu;exact mu
 have ntup:∀ c xs,H c=some (.tup xs)->c ≠ x:=λc xs r z=>by subst z;rw[r] at mu;exact mu
 by_cases hb:b=x
 ·subst hb;rw[zar] at q;cases q;exact new
 ·rw[zaf hb] at q
  by_cases hbe:b=e
  ·have q':H b=some (.own x):=by
    rcases he with z|z
    ·exact absurd (hbe.trans z) hb
    ·rw[hbe];exact z
   rw[q] at q';cases q'
   obtain⟨v,hv⟩:=heo
   exact⟨v,by rw[hbe];exact hv⟩
  ·refine(ok b u q).stay (λc v hc r=>k c v ?_ r) (λc r=>by rw[zaf (nown c b r)];exact r) λc xs r=>by rw[zaf (ntup c xs r)];exact r
   rcases hc with rfl|hc
   ·exact hbe
   ·rintro rfl
    rcases he with z|z
    ·exact nown c b hc z
    ·rw[hc] at z;cases z;exact hb rfl
end
structure Un (fs ex:List Addr) (H H':Hp) (h h':Heap):Prop where
 keep:∀ b o,h.get? b=some o->H b=none->b ∉ fs->b ∉ ex->h'.get? b=some o
 slot:∀ b o,h.get? b=some o->H b=none->b ∈ fs->b ∉ ex->∃ sl,h'.get? b=some { o with slots:=sl }
 free:∀ b o,h.get? b=some o->H b=none->b ∉ ex->H' b=none
 there:∀ b o,h.get? b=some o->b ∉ ex->∃ o',h'.get? b=some o'
 tups:∀ b xs,H b=some (.tup xs)->H' b=some (.tup xs)
 frzs:∀ b o u,H b=some (.frz o u)->H' b=some (.frz o u)
 tbls:∀ b ps,H b=some (.tbl ps)->∃ more,H' b=some (.tbl (ps++more))
section
variable {fs fs' ex ex' : List Addr} {H H1 H2 : Hp} {h h1 h2 h' : Heap} {a x e : Addr} {o : HO}
theorem Un.any(u:Un fs ex H H1 h h1){b:Addr}{ob:Obj}(q:h.get? b=some ob)(n:H b=none)(hx:b ∉ ex):∃ sl,h1.get? b=some { ob with slots:=sl }:=by
 by_cases hb:b ∈ fs
 ·exact u.slot b ob q n hb hx
 ·exact⟨ob.slots,u.keep b ob q n hb hx⟩
theorem Un.kept(k:∀ b u,h.get? b=some u->h'.get? b=some u):Un fs ex H H h h' :=
 ⟨λb ob q _ _ _=>k b ob q,λb ob q _ _ _=>⟨ob.slots,k b ob q⟩,λ_ _ _ n _=>n,λb ob q _=>⟨ob,k b ob q⟩,λ_ _ q=>q,λ_ _ _ q=>q,λ_ ps q=>⟨#[],by rw[q];simp⟩⟩
theorem Un.refl:Un fs ex H H h h:=Un.kept λ_ _ q=>q
theorem Un.laid(k:∀ b u,h.get? b=some u->h'.get? b=some u)(hp:h.objs.size<=a)(hn:H a=none):Un fs ex H (upd H a o) h h' where
 keep:=λb u q _ _ _=>k b u q
 slot:=λb u q _ _ _=>⟨u.slots,k b u q⟩
 free:=λb u q n _=>by rw[zaf (Q8 (Q5 (Qk q) hp))];exact n
 there:=λb u q _=>⟨u,k b u q⟩
 tups:=λb xs q=>by rw[zaf (zct q hn)];exact q
 frzs:=λb u xs q=>by rw[zaf (zct q hn)];exact q
 tbls:=λb ps q=>⟨#[],by rw[zaf (zct q hn),q];simp⟩
theorem Un.write(mu:Mut (H x))(he:e=x\/H e=some (.own x))(k:∀ b u,b ≠ e->h.get? b=some u->h'.get? b=some u)(heo:∃ u,h'.get? e=some u):Un fs ex H (upd H x o) h h':=by
 have hx:∀ b,H b=none->b ≠ x:=λb n z=>by subst z;rw[n] at mu;exact mu
 have hb:∀ b,H b=none->b ≠ e:=λb n z=>by
  subst z
  rcases he with r|r
  ·exact hx b n r
  ·rw[n] at r;cases r
 have hm:∀ b u,H b=some u->¬ Mut (some u)->b ≠ x:=λb u q nm z=>by subst z;rw[q] at mu;exact nm mu
 refine⟨λb u q n _ _=>k b u (hb b n) q,λb u q n _ _=>⟨u.slots,k b u (hb b n) q⟩,λb u q n _=>by rw[zaf (hx b n)];exact n,λb u q _=>?_,
  λb xs q=>by rw[zaf (hm b _ q λz=>z)];exact q,λb u xs q=>by rw[zaf (hm b _ q λz=>z)];exact q,λb ps q=>⟨#[],by rw[zaf (hm b _ q λz=>z),q];simp⟩⟩
 by_cases hbe:b=e
 ·subst hbe;exact heo
 ·exact⟨u,k b u hbe q⟩
end
def trk(h:Heap)(H:Hp):List Addr:=(Jb h.objs.size).filter λa=>(H a).isSome
def hidT(h:Heap)(H:Hp):Heap:=PySem.W.hideAll h (trk h H)
theorem zs2(h:Heap)(H:Hp):(hidT h H).objs.size=h.objs.size:=PySem.W.hideAll_size _ _
theorem zt7{h:Heap}{H:Hp}{b:Addr}{o:Obj}(e:h.get? b=some o)(n:H b=none):(hidT h H).get? b=some o :=
 PySem.W.hideAll_get _ e λhm=>by
  have q:(H b).isSome=true:=(Yz.mp hm).2
  rw[n] at q;simp at q
theorem zxc{h:Heap}{H:Hp}{b:Addr}{o:Obj}(e:(hidT h H).get? b=some o):h.get? b=some o/\H b=none:=by
 have e':h.get? b=some o:=PySem.W.of_hideAll (trk h H) e
 refine⟨e',?_⟩
 cases q:H b with
 | none=>rfl
 | some x =>
   have hm:b ∈ trk h H:=Yz.mpr ⟨Jx.mpr (Qk e'),by simp[q]⟩
   have z:(hidT h H).get? b=none:=PySem.W.hideAll_none (trk h H) hm
   rw[z] at e;cases e
structure Mod (K:Qa) (mg:Str->Option Value) (base:Heap):Prop where
 kin:K.In base
 glob:base.Ns mainGlobals mg
 blt:∃ mb,base.Ns builtinsNs mb/\∀ x:Str,x ≠ "__name__" -> mb x=bootBuiltins x
 nolimit:base.NoLimit
structure Cx where
 prog:Program
 w:World
 K:Qa
 mg:Str->Option Value
 base:Heap
 A:Around
 N:List Str
 s₀:Shared
 H₀:Hp
 env:Env
 outer:List Env
 stack:List Env
 ex:List Addr
 fn:Str->Bool
 calm:Bool
 pn:List (Addr × Obj)
 xe:Value->Shared->Prop
def frs(l:List Env):List Addr:=l.filterMap (·.frame)
abbrev Cx.fs(X:Cx):List Addr:=frs X.outer
def Vis(sc:Scope)(x:Str):Prop:=sc.names.lookup x=some .local\/sc.names.lookup x=some .cell\/sc.names.lookup x=some .free
def Loc(sc:Scope)(x:Str):Prop:=sc.names.lookup x=some .local\/sc.names.lookup x=some .cell
def Look(env:Env)(h:Heap)(m:Str->Option Value)(x:Str)(u:Value):Prop :=
 (env.kindOf x=some .local/\m x=some u)\/((env.kindOf x=some .cell\/env.kindOf x=some .free)/\∃ c,env.cells.lookup x=some c/\h.IsCell c (some u))
structure Cx.Ok (X:Cx):Prop where
 mod:Mod X.K X.mg X.base
 kind:X.env.scope.kind = .function
 glob:X.env.globals=mainGlobals
 blt:X.env.builtins=builtinsNs
 above:X.s₀.heap.objs.size<=X.env.locals
 inj:∀ x y c,X.env.cells.lookup x=some c->X.env.cells.lookup y=some c->x=y
 has:∀ x,(X.env.kindOf x=some .cell\/X.env.kindOf x=some .free)->∃ c,X.env.cells.lookup x=some c
 cab:∀ x c,X.fn x=true->X.env.cells.lookup x=some c->X.s₀.heap.objs.size<=c
 hd:X.calm=true->X.A.handled=none
 frames:X.A.frames=some X.stack
 stk:X.stack=X.outer\/(X.stack=X.env::X.outer/\X.env.frame=some X.env.locals)
 exf:∀ b ∈ X.ex,b ≠ X.env.locals/\∀ x c,X.env.cells.lookup x=some c->c ≠ b
 bs:∀ b o,X.base.get? b=some o->X.s₀.heap.get? b=some o/\X.H₀ b=none
 bsz:X.base.objs.size<=X.s₀.heap.objs.size
 noex:∀ b o,X.base.get? b=some o->b ∉ X.ex
 exfs:∀ b ∈ X.ex,b ∉ X.fs
 funs:X.s₀.heap.FunFrames X.base X.outer
 frf:∀ b ∈ X.fs,X.H₀ b=none
structure Inv (X:Cx) (pins:List (Addr × Obj)) (σ:List (Option V)) (H:Hp) (s:Shared):Prop where
 ok:X.Ok
 os:s.os=X.s₀.os
 bare:AllBare s.gens
 base:Un X.fs X.ex X.H₀ H X.s₀.heap s.heap
 loc:∃ m,s.heap.Ns X.env.locals m/\∀ (i:Nat) (x:Str) (v:V),X.N[i]? = some x->σ[i]? = some (some v)->Vis X.env.scope x->∃ u,RelV v u/\Look X.env s.heap m x u
 cell:∀ x c,X.env.cells.lookup x=some c->∃ v,s.heap.IsCell c v
 free:H X.env.locals=none
 freeC:∀ x c,X.env.cells.lookup x=some c->H c=none
 pin:∀ p ∈ X.pn++pins,s.heap.get? p.1=some p.2/\H p.1=none/\p.1 ≠ X.env.locals/\p.1 ∉ X.fs/\∀ v,p.2.data ≠ .cell v
 hok:HOk X.prog X.w H s.heap
 len:σ.length=X.N.length
section
variable {X : Cx} {pins : List (Addr × Obj)} {σ : List (Option V)} {H H' : Hp} {s : Shared} {h' : Heap}
theorem Cx.Ok.nofr(ok:X.Ok){b:Addr}{o:Obj}(e:X.base.get? b=some o):b ∉ X.fs:=λhb=>by
 have:=(ok.funs.mem hb).1
 rw[e] at this;cases this
theorem Inv.bs(I:Inv X pins σ H s):∀ b o,X.base.get? b=some o->s.heap.get? b=some o/\H b=none:=λb o e =>
 ⟨I.base.keep b o (I.ok.bs b o e).1 (I.ok.bs b o e).2 (I.ok.nofr e) (I.ok.noex b o e),I.base.free b o (I.ok.bs b o e).1 (I.ok.bs b o e).2 (I.ok.noex b o e)⟩
theorem Inv.bk(I:Inv X pins σ H s):∀ b o,X.base.get? b=some o->s.heap.get? b=some o:=λb o e=>(I.bs b o e).1
theorem Inv.mod(I:Inv X pins σ H s):Mod X.K X.mg X.base:=I.ok.mod
theorem Inv.kIn(I:Inv X pins σ H s):X.K.In s.heap:=I.ok.mod.kin.keeps I.bk
theorem Inv.lt(I:Inv X pins σ H s):X.env.locals<s.heap.objs.size:=let ⟨_,hn,_⟩:=I.loc;hn.lt
theorem Inv.sz(I:Inv X pins σ H s):X.s₀.heap.objs.size<=s.heap.objs.size:=Q4 I.ok.above (Yd I.lt)
theorem Inv.nofs(I:Inv X pins σ H s){a:Addr}(h:s.heap.objs.size<=a):a ∉ X.fs:=λhb=>by
 obtain⟨_,o,ho,_⟩:=I.ok.funs.mem hb
 exact absurd (Q5 (Qk ho) (Q4 I.sz h)) (QS _)
theorem Inv.cne(I:Inv X pins σ H s):∀ x c,X.env.cells.lookup x=some c->c ≠ X.env.locals:=λx c e z=>by
 obtain⟨v,o,ho,hd⟩:=I.cell x c e
 obtain⟨m,⟨o',es,ep,ho',hd',_⟩,_⟩:=I.loc
 rw[z,ho'] at ho;cases ho;rw[hd'] at hd;cases hd
theorem Inv.funs(I:Inv X pins σ H s):s.heap.FunFrames X.base X.outer:=by
 have all:∀ (l:List Env),(∀ b ∈ frs l,b ∈ X.fs)->X.s₀.heap.FunFrames X.base l->s.heap.FunFrames X.base l:=by
  intro l
  induction l with
  | nil=>intro _ _;trivial
  | cons env r ih =>
    intro hs hl
    obtain⟨hk,⟨L,o,hf,hn,ho,hd⟩,hr⟩:=hl
    have hL:L ∈ X.fs:=hs L (by unfold frs;rw[Ju,hf];exact Qj)
    obtain⟨sl,e⟩:=I.base.slot L o ho (I.ok.frf L hL) hL λz=>I.ok.exfs L z hL
    exact⟨hk,⟨L,_,hf,hn,e,hd⟩,ih (λb hb=>hs b (by unfold frs;rw[Ju,hf];exact Qe _ hb)) hr⟩
 exact all X.outer (λ_ hb=>hb) I.ok.funs
theorem Inv.stack(I:Inv X pins σ H s):s.heap.FunFrames X.base X.stack:=by
 rcases I.ok.stk with e|⟨e,hf⟩
 ·rw[e];exact I.funs
 ·rw[e]
  obtain⟨m,hn,_⟩:=I.loc
  refine .cons (by rw[I.ok.kind];decide) hf hn ?_ I.funs
  exact Heap.get?_none_of_le (Q4 I.ok.bsz I.ok.above)
theorem Inv.stkSub(I:Inv X pins σ H s):∀ b ∈ frs X.stack,b ∈ X.env.locals::X.fs:=λb hb=>by
 rcases I.ok.stk with e|⟨e,hf⟩
 ·rw[e] at hb;exact Qe _ hb
 ·rw[e] at hb
  unfold frs at hb
  rw[Ju,hf] at hb
  exact hb
theorem Inv.stkFree(I:Inv X pins σ H s):∀ b ∈ frs X.stack,H b=none:=λb hb=>by
 rcases Qt.mp (I.stkSub b hb) with e|hb
 ·rw[e];exact I.free
 ·obtain⟨_,o,ho,_⟩:=I.ok.funs.mem hb
  exact I.base.free b o ho (I.ok.frf b hb) λz=>I.ok.exfs b z hb
theorem Inv.step{g':Array GenState}{t':Nat}{d':Drawn}{ch:List Addr}(I:Inv X pins σ H s)
 (hch:∀ b ∈ ch,(b ∈ X.ex\/X.s₀.heap.objs.size<=b)/\b ≠ X.env.locals/\(∀ x c,X.env.cells.lookup x=some c->c ≠ b)/\∀ p ∈ X.pn++pins,p.1 ≠ b)
 (keep:∀ b o,b ≠ X.env.locals->b ∉ X.fs->b ∉ ch->s.heap.get? b=some o->H b=none->h'.get? b=some o)
 (slot:∀ b o,b ≠ X.env.locals->b ∈ X.fs->b ∉ ch->s.heap.get? b=some o->H b=none->∃ sl,h'.get? b=some { o with slots:=sl }) (free:∀ b o,b ∉ ch->s.heap.get? b=some o->H b=none->H' b=none)
 (there:∀ b o,b ∉ ch->s.heap.get? b=some o->∃ o',h'.get? b=some o')
 (tups:∀ b xs,H b=some (.tup xs)->H' b=some (.tup xs)) (frzs:∀ b o u,H b=some (.frz o u)->H' b=some (.frz o u)) (tbls:∀ b ps,H b=some (.tbl ps)->∃ more,H' b=some (.tbl (ps++more)))
 (ns:∀ m,s.heap.Ns X.env.locals m->h'.Ns X.env.locals m) (hok:HOk X.prog X.w H' h') (hg:AllBare g') :
 Inv X pins σ H' { s with heap:=h',gens:=g',drawn:=d',toks:=t' }:=by
 have neL:∀ b o,X.s₀.heap.get? b=some o->b ≠ X.env.locals:=λb o e=>Q8 (Q5 (Qk e) I.ok.above)
 have neC:∀ b o,X.s₀.heap.get? b=some o->b ∉ X.ex->b ∉ ch:=λb o e hx hb=>by
  rcases(hch b hb).1 with z|z
  ·exact hx z
  ·exact absurd (Q5 (Qk e) z) (QS _)
 have cellK:∀ x c,X.env.cells.lookup x=some c->∀ v,s.heap.IsCell c v->h'.IsCell c v:=λx c e v ⟨o,ho,hd⟩=>by
  have nch:c ∉ ch:=λz=>(hch c z).2.2.1 x c e rfl
  by_cases hc:c ∈ X.fs
  ·obtain⟨sl,q⟩:=slot c o (I.cne x c e) hc nch ho (I.freeC x c e)
   exact⟨_,q,hd⟩
  ·exact⟨o,keep c o (I.cne x c e) hc nch ho (I.freeC x c e),hd⟩
 refine⟨I.ok,I.os,hg,⟨λb o e n hb hx=>?_,λb o e n hb hx=>?_,λb o e n hx=>?_,λb o e hx=>?_,λb xs e=>tups b xs (I.base.tups b xs e),λb o xs e=>frzs b o xs (I.base.frzs b o xs e),λb ps e=>?_⟩,?_,λx c e=>?_,?_,λx c e=>?_,λp hp=>?_,hok,I.len⟩
 ·exact keep b o (neL b o e) hb (neC b o e hx) (I.base.keep b o e n hb hx) (I.base.free b o e n hx)
 ·obtain⟨sl,e1⟩:=I.base.slot b o e n hb hx
  obtain⟨sl',e2⟩:=slot b _ (neL b o e) hb (neC b o e hx) e1 (I.base.free b o e n hx)
  exact⟨sl',e2⟩
 ·obtain⟨o',e1⟩:=I.base.there b o e hx
  exact free b o' (neC b o e hx) e1 (I.base.free b o e n hx)
 ·obtain⟨o',e1⟩:=I.base.there b o e hx
  exact there b o' (neC b o e hx) e1
 ·obtain⟨m1,e1⟩:=I.base.tbls b ps e
  obtain⟨m2,e2⟩:=tbls b _ e1
  exact⟨m1++m2,by rw[e2,Array.append_assoc]⟩
 ·obtain⟨m,hn,hl⟩:=I.loc
  refine⟨m,ns m hn,λi x v e1 e2 e3=>?_⟩
  obtain⟨u,r,l⟩:=hl i x v e1 e2 e3
  refine⟨u,r,?_⟩
  rcases l with l|⟨k,c,e,z⟩
  ·exact .inl l
  ·exact .inr ⟨k,c,e,cellK x c e _ z⟩
 ·obtain⟨v,z⟩:=I.cell x c e
  exact⟨v,cellK x c e v z⟩
 ·obtain⟨m,⟨o,_,_,ho,_⟩,_⟩:=I.loc
  exact free _ o (λz=>(hch _ z).2.1 rfl) ho I.free
 ·obtain⟨v,o,ho,hd⟩:=I.cell x c e
  exact free c o (λz=>(hch c z).2.2.1 x c e rfl) ho (I.freeC x c e)
 ·obtain⟨e,n,ne,nf,d⟩:=I.pin p hp
  have nch:p.1 ∉ ch:=λz=>(hch p.1 z).2.2.2 p hp rfl
  exact⟨keep p.1 p.2 ne nf nch e n,free p.1 p.2 nch e n,ne,nf,d⟩
theorem Inv.un{t':Nat}(I:Inv X pins σ H s)(u:Un X.fs [] H H' s.heap h')(hok:HOk X.prog X.w H' h'):Inv X pins σ H' { s with heap:=h',toks:=t' }:=by
 obtain⟨m,⟨o,es,ep,ho,r⟩,_⟩:=id I.loc
 obtain⟨sl,hL⟩:=u.any ho I.free (by simp)
 exact I.step (g':=s.gens) (d':=s.drawn) (ch := []) (λ_ z=>nomatch z) (λb o _ hb _ e n=>u.keep b o e n hb (by simp)) (λb o _ hb _ e n=>u.slot b o e n hb (by simp)) (λb o _ e n=>u.free b o e n (by simp)) (λb o _ e=>u.there b o e (by simp)) u.tups u.frzs u.tbls (λm' hm=>by
  obtain⟨o',es',ep',ho',r'⟩:=hm
  rw[ho] at ho';cases ho'
  exact⟨_,es',ep',hL,r'⟩) hok I.bare
theorem Inv.call{g':Array GenState}{t':Nat}{d':Drawn}{ch:List Addr}(I:Inv X pins σ H s)(u:Un (frs X.stack) ch H H' s.heap h')(hok:HOk X.prog X.w H' h')(hg:AllBare g')
 (hch:∀ b ∈ ch,(b ∈ X.ex\/X.s₀.heap.objs.size<=b)/\b ≠ X.env.locals/\(∀ x c,X.env.cells.lookup x=some c->c ≠ b)/\∀ p ∈ X.pn++pins,p.1 ≠ b) :
 Inv X pins σ H' { s with heap:=h',gens:=g',drawn:=d',toks:=t' }:=by
 obtain⟨m,⟨o,es,ep,ho,r⟩,_⟩:=id I.loc
 obtain⟨sl,hL⟩:=u.any ho I.free λz=>(hch _ z).2.1 rfl
 exact I.step (ch:=ch) hch (λb o hL hb hc e n=>u.keep b o e n (λz=>(Qt.mp (I.stkSub b z)).elim hL hb) hc) (λb o _ _ hc e n=>u.any e n hc) (λb o hc e n=>u.free b o e n hc) (λb o hc e=>u.there b o e hc) u.tups u.frzs u.tbls (λm' hm=>by
  obtain⟨o',es',ep',ho',r'⟩:=hm
  rw[ho] at ho';cases ho'
  exact⟨_,es',ep',hL,r'⟩) hok hg
theorem Inv.turned{t':Nat}{it:Addr}(I:Inv X pins σ H s)(k:∀ b o,b ≠ it->s.heap.get? b=some o->h'.get? b=some o)(hn:H it=none)(hL:it ≠ X.env.locals)
 (h1:it ∈ X.ex\/X.s₀.heap.objs.size<=it) (h2:∀ x c,X.env.cells.lookup x=some c->c ≠ it) (h3:∀ p ∈ X.pn++pins,p.1 ≠ it):Inv X pins σ H { s with heap:=h',toks:=t' }:=by
 have nit:∀ b u,H b=some u->b ≠ it:=λb u e z=>by rw[z,hn] at e;cases e
 refine I.step (g':=s.gens) (d':=s.drawn) (ch := [it]) (λb hb=>?_) (λb o _ _ hc e _=>k b o (λz=>hc (by simp[z])) e) (λb o _ _ hc e _=>⟨o.slots,k b o (λz=>hc (by simp[z])) e⟩) (λ_ _ _ _ n=>n)
  (λb o hc e=>⟨o,k b o (λz=>hc (by simp[z])) e⟩) (λ_ _ e=>e) (λ_ _ _ e=>e) (λb ps e=>⟨#[],by rw[e];simp⟩) (λm hm=>?_) (λb u e=>?_) I.bare
 ·have e:b=it:=by simpa using hb
  subst e
  exact⟨h1,hL,h2,h3⟩
 ·obtain⟨o,es,ep,ho,r⟩:=hm
  exact⟨o,es,ep,k _ o (ZD hL) ho,r⟩
 ·refine(I.hok b u e).stay (λc v hc q=>k c v ?_ q) (λ_ q=>q) λ_ _ q=>q
  rcases hc with z|z
  ·rw[z];exact nit b u e
  ·exact nit c _ z
theorem Inv.tok(I:Inv X pins σ H s)(t:Nat):Inv X pins σ H { s with toks:=t }:=I.un (h':=s.heap) (t':=t) Un.refl I.hok
theorem Inv.kept{t':Nat}(I:Inv X pins σ H s)(k:∀ b u,s.heap.get? b=some u->h'.get? b=some u):Inv X pins σ H { s with heap:=h',toks:=t' }:=I.un (Un.kept k) (I.hok.kept k)
theorem Inv.laid{a:Addr}{o:HO}{t':Nat}(I:Inv X pins σ H s)(k:∀ b u,s.heap.get? b=some u->h'.get? b=some u)(hp:s.heap.objs.size<=a)(new:ObjOk X.prog X.w (upd H a o) h' a o) :
 Inv X pins σ (upd H a o) { s with heap:=h',toks:=t' }:=I.un (Un.laid k hp (I.hok.fresh hp)) (I.hok.laid k hp new)
theorem Inv.write{x e:Addr}{o:HO}{t':Nat}(I:Inv X pins σ H s)(mu:Mut (H x))(he:e=x\/H e=some (.own x))(k:∀ b u,b ≠ e->s.heap.get? b=some u->h'.get? b=some u)(heo:∃ u,h'.get? e=some u)
 (new:ObjOk X.prog X.w (upd H x o) h' x o):Inv X pins σ (upd H x o) { s with heap:=h',toks:=t' }:=I.un (Un.write mu he k heo) (I.hok.write mu he k heo new)
theorem Inv.weak{σ':List (Option V)}(I:Inv X pins σ H s)(hl:σ'.length=σ.length)(w:∀ (i:Nat) v,σ'[i]? = some (some v)->σ[i]? = some (some v)):Inv X pins σ' H s :=
 ⟨I.ok,I.os,I.bare,I.base,let ⟨m,hn,hl'⟩:=I.loc; ⟨m,hn,λi x v e1 e2 e3=>hl' i x v e1 (w i v e2) e3⟩,I.cell,I.free,I.freeC,I.pin,I.hok,hl.trans I.len⟩
theorem Inv.pins_of{pins':List (Addr × Obj)}(I:Inv X pins σ H s)(h:∀ p ∈ pins',s.heap.get? p.1=some p.2/\H p.1=none/\p.1 ≠ X.env.locals/\p.1 ∉ X.fs/\∀ v,p.2.data ≠ .cell v):Inv X pins' σ H s :=
 ⟨I.ok,I.os,I.bare,I.base,I.loc,I.cell,I.free,I.freeC,λp hp=>(Q6.mp hp).elim (λz=>I.pin p (Jm _ z)) (h p),I.hok,I.len⟩
theorem zmx{N:List Str}(hN:N.Nodup){i j:Nat}{x:Str}(a:N[i]? = some x)(b:N[j]? = some x):i=j:=by
 obtain⟨h1,e1⟩:=Qs.mp a
 obtain⟨h2,e2⟩:=Qs.mp b
 exact(qp hN).mp (e1.trans e2.symm)
theorem zk8{M:Model}{A:Around}{E:Value->Shared->Prop}{i:Nat}{x:Str}{v:V}{u:Value}{Q:Unit->Shared->Prop}(I:Inv X pins σ H s)(hN:X.N.Nodup)(hi:X.N[i]? = some x)(hx:Loc X.env.scope x)(r:RelV v u)
 (h:∀ s',Inv X pins (σ.set i (some v)) H s'->(∃ a,ZW a s.heap s'.heap/\(a=X.env.locals\/X.env.cells.lookup x=some a))->Q () s') (hf:X.fn x=true\/X.env.scope.names.lookup x=some .local:=by first|exact .inl rfl|exact .inr rfl|assumption):wpAny M A (storeName X.env x u) Q E s:=by
 obtain⟨m,hn,hl⟩:=id I.loc
 have hcls:(X.env.scope.kind == .class || (X.env.scope.kind == .module && X.env.locals != X.env.globals))=false:=by rw[I.ok.kind];rfl
 have hiσ:i<σ.length:=by rw[I.len];exact(Qs.mp hi).1
 have cne:=I.cne
 have tracked:∀ {a:Addr} {h':Heap},(∃ o,s.heap.get? a=some o/\H a=none)->ZW a s.heap h'->HOk X.prog X.w H h':=λ{a h'} ha hs b ob e=>by
  obtain⟨_,_,hfree⟩:=ha
  refine(I.hok b ob e).stay (λc w' hc q=>(hs.2 c ?_).trans q) (λ_ q=>q) λ_ _ q=>q
  rintro rfl
  rcases hc with rfl|hc
  ·rw[hfree] at e;cases e
  ·rw[hfree] at hc;cases hc
 rcases hx with hk|hk
 ·refine wpAny_storeName_local hk hn (λh' hn' hs=>?_) hcls
  obtain⟨oL,_,_,hoL,_⟩:=id hn
  refine h _ ⟨I.ok,I.os,I.bare,⟨λb o e n hb hx=>?_,λb o e n hb hx=>?_,I.base.free,λb o e hx=>?_,I.base.tups,I.base.frzs,I.base.tbls⟩,⟨_,hn',λj y v' e1 e2 e3=>?_⟩,λy c e=>?_,I.free,I.freeC,λp hp=>?_,tracked ⟨oL,hoL,I.free⟩ hs,by simpa using I.len⟩ ⟨_,hs,.inl rfl⟩
  ·exact(hs.2 b (Q8 (Q5 (Qk e) I.ok.above))).trans (I.base.keep b o e n hb hx)
  ·obtain⟨sl,e1⟩:=I.base.slot b o e n hb hx
   exact⟨sl,(hs.2 b (Q8 (Q5 (Qk e) I.ok.above))).trans e1⟩
  ·obtain⟨o',e1⟩:=I.base.there b o e hx
   exact⟨o',(hs.2 b (Q8 (Q5 (Qk e) I.ok.above))).trans e1⟩
  ·by_cases hj:j=i
   ·subst hj
    rw[hi] at e1;cases e1
    rw[QI hiσ] at e2
    cases e2
    exact⟨u,r,.inl ⟨hk,by simp⟩⟩
   ·rw[QF (ZD hj)] at e2
    obtain⟨u',r',q⟩:=hl j y v' e1 e2 e3
    refine⟨u',r',?_⟩
    rcases q with ⟨k,e⟩|⟨k,c,e,z⟩
    ·refine .inl ⟨k,?_⟩
     have:y ≠ x:=λe=>hj (zmx hN e1 (e ▸ hi))
     simp[this,e]
    ·exact .inr ⟨k,c,e,z.sameBut hs (cne y c e)⟩
  ·obtain⟨w',z⟩:=I.cell y c e
   exact⟨w',z.sameBut hs (cne y c e)⟩
  ·obtain⟨e,n,ne,nf,d⟩:=I.pin p hp
   exact⟨(hs.2 p.1 ne).trans e,n,ne,nf,d⟩
 ·have hfn:X.fn x=true:=by
   rcases hf with z|z
   ·exact z
   ·rw[z] at hk;cases hk
  obtain⟨c,hc⟩:=I.ok.has x (.inl hk)
  obtain⟨w',z⟩:=I.cell x c hc
  refine wpAny_storeName_cell I.ok.kind hk hc z (λh' hc' hs=>?_)
  obtain⟨oc,hoc,hocd⟩:=id z
  refine h { s with heap:=h' } ⟨I.ok,I.os,I.bare,⟨λb o e n hb hx=>?_,λb o e n hb hx=>?_,I.base.free,λb o e hx=>?_,I.base.tups,I.base.frzs,I.base.tbls⟩,⟨m,hn.sameBut hs (ZD (cne x c hc)),λj y v' e1 e2 e3=>?_⟩,λy c' e=>?_,I.free,I.freeC,λp hp=>?_,tracked ⟨oc,hoc,I.freeC x c hc⟩ hs,by simpa using I.len⟩ ⟨c,hs,.inr hc⟩
  ·exact(hs.2 b (Q8 (Q5 (Qk e) (I.ok.cab x c hfn hc)))).trans (I.base.keep b o e n hb hx)
  ·obtain⟨sl,e1⟩:=I.base.slot b o e n hb hx
   exact⟨sl,(hs.2 b (Q8 (Q5 (Qk e) (I.ok.cab x c hfn hc)))).trans e1⟩
  ·obtain⟨o',e1⟩:=I.base.there b o e hx
   exact⟨o',(hs.2 b (Q8 (Q5 (Qk e) (I.ok.cab x c hfn hc)))).trans e1⟩
  ·by_cases hj:j=i
   ·subst hj
    rw[hi] at e1;cases e1
    rw[QI hiσ] at e2
    cases e2
    exact⟨u,r,.inr ⟨.inl hk,c,hc,hc'⟩⟩
   ·rw[QF (ZD hj)] at e2
    obtain⟨u',r',q⟩:=hl j y v' e1 e2 e3
    refine⟨u',r',?_⟩
    rcases q with q|⟨k,c',e,z'⟩
    ·exact .inl q
    ·refine .inr ⟨k,c',e,z'.sameBut hs ?_⟩
     rintro rfl
     exact hj (zmx hN e1 (I.ok.inj _ _ _ e hc ▸ hi))
  ·by_cases hcc:c'=c
   ·subst hcc;exact⟨_,hc'⟩
   ·obtain⟨w2,z2⟩:=I.cell y c' e
    exact⟨w2,z2.sameBut hs hcc⟩
  ·obtain⟨e,n,ne,nf,d⟩:=I.pin p hp
   refine⟨(hs.2 p.1 ?_).trans e,n,ne,nf,d⟩
   intro q
   rw[q,hoc] at e
   have q':oc=p.2:=Zy e
   exact d w' (by rw[<- q'];exact hocd)
theorem zdq{M:Model}{A:Around}{E:Value->Shared->Prop}{i:Nat}{x:Str}{v:V}{u:Value}{Q:Unit->Shared->Prop}(I:Inv X pins σ H s)(hN:X.N.Nodup)(hi:X.N[i]? = some x)(hx:Loc X.env.scope x)(r:RelV v u)
 (h:∀ s',Inv X pins (σ.set i (some v)) H s'->Q () s') (hf:X.fn x=true\/X.env.scope.names.lookup x=some .local:=by first|exact .inl rfl|exact .inr rfl|assumption):wpAny M A (storeName X.env x u) Q E s :=
 zk8 I hN hi hx r (λs' I' _=>h s' I') hf
theorem Inv.call'{s':Shared}{ch:List Addr}(I:Inv X pins σ H s)(ho:s'.os=s.os)(u:Un (frs X.stack) ch H H' s.heap s'.heap)(hok:HOk X.prog X.w H' s'.heap)(hg:AllBare s'.gens)
 (hch:∀ b ∈ ch,(b ∈ X.ex\/X.s₀.heap.objs.size<=b)/\b ≠ X.env.locals/\(∀ x c,X.env.cells.lookup x=some c->c ≠ b)/\∀ p ∈ X.pn++pins,p.1 ≠ b):Inv X pins σ H' s':=by
 obtain⟨h',g',d',t',o'⟩:=s'
 have e:o'=s.os:=ho
 subst e
 exact I.call (g':=g') (t':=t') (d':=d') u hok hg hch
end
abbrev XK:=Value->Option Addr->Hp->Prop
abbrev St:=List (Option V)
abbrev VK:=V->Hp->Prop
abbrev TE:=St->Hp->VK->Prop
abbrev TT:=St->Hp->(Bool->Hp->Prop)->Prop
abbrev TA:=St->Hp->(List V->Hp->Prop)->Prop
structure Ends where
 nx:St->Hp->Prop
 rt:VK
 bk:St->Hp->Prop:=λ_ _=>False
 ct:St->Hp->Prop:=λ_ _=>False
abbrev TS:=Ends->St->Hp->Prop
def EP(X:Cx)(pins:List (Addr × Obj))(σ:St)(Q:VK)(u:Value)(s':Shared):Prop:=∃ v H',Inv X pins σ H' s'/\RelV v u/\Q v H'
def TP(X:Cx)(pins:List (Addr × Obj))(σ:St)(Q:Bool->Hp->Prop)(b:Bool)(s':Shared):Prop:=∃ H',Inv X pins σ H' s'/\Q b H'
def AP(X:Cx)(pins:List (Addr × Obj))(σ:St)(Q:List V->Hp->Prop)(us:List Value)(s':Shared):Prop:=∃ vs H',Inv X pins σ H' s'/\Vals vs us/\Q vs H'
def SP(X:Cx)(pins:List (Addr × Obj))(D:Ends)(f:Flow)(s':Shared):Prop :=
 match f with
 | .next=>∃ σ' H',Inv X pins σ' H' s'/\D.nx σ' H'
 | .brk=>∃ σ' H',Inv X pins σ' H' s'/\D.bk σ' H'
 | .cont=>∃ σ' H',Inv X pins σ' H' s'/\D.ct σ' H'
 | .ret u=>∃ v σ' H',Inv X pins σ' H' s'/\RelV v u/\D.rt v H'
def PE(X:Cx)(e:Expr)(t:TE):Prop :=
 ∀ (pins:List (Addr × Obj)) (s:Shared) (σ:St) (H:Hp) (Q:VK),Inv X pins σ H s->t σ H Q->wpAny (model X.prog X.w) X.A (eval e X.env) (EP X pins σ Q) X.xe s
def PT(X:Cx)(e:Expr)(t:TT):Prop :=
 ∀ (pins:List (Addr × Obj)) (s:Shared) (σ:St) (H:Hp) (Q:Bool->Hp->Prop),Inv X pins σ H s->t σ H Q->wpAny (model X.prog X.w) X.A (isTrue e X.env (eval e X.env)) (TP X pins σ Q) X.xe s
def PW(X:Cx)(e:Expr)(t:TT):Prop :=
 ∀ (whole:Sem Value) (pins:List (Addr × Obj)) (s:Shared) (σ:St) (H:Hp) (Q:Bool->Hp->Prop),Inv X pins σ H s->t σ H Q->wpAny (model X.prog X.w) X.A (isTrue e X.env whole) (TP X pins σ Q) X.xe s
theorem PW.pt{X:Cx}{e:Expr}{t:TT}(h:PW X e t):PT X e t:=h _
def PA(X:Cx)(es:List Expr)(t:TA):Prop :=
 ∀ (pos:Pos) (pins:List (Addr × Obj)) (s:Shared) (σ:St) (H:Hp) (Q:List V->Hp->Prop),Inv X pins σ H s->t σ H Q->wpAny (model X.prog X.w) X.A (spliced (backTo pos (starEach es X.env))) (AP X pins σ Q) X.xe s
def PS(X:Cx)(st:Stmt)(t:TS):Prop :=
 ∀ (pins:List (Addr × Obj)) (s:Shared) (σ:St) (H:Hp) (D:Ends),Inv X pins σ H s->t D σ H->wpAny (model X.prog X.w) X.A (exec st X.env) (SP X pins D) X.xe s
def PSs(X:Cx)(st:List Stmt)(t:TS):Prop :=
 ∀ (pins:List (Addr × Obj)) (s:Shared) (σ:St) (H:Hp) (D:Ends),Inv X pins σ H s->t D σ H->wpAny (model X.prog X.w) X.A (execs st X.env) (SP X pins D) X.xe s
theorem thn{α:Type}{t:Sem α}{Q Q':α->Shared->Prop}{M:Model}{A:Around}{E:Value->Shared->Prop}{s:Shared}(h:wpAny M A t Q E s)(hQ:∀ a s,Q a s->Q' a s):wpAny M A t Q' E s:=wpAny_mono h hQ λ_ _ x=>x
section
variable {X : Cx}
def tVar(i:Nat):TE:=λσ H Q=>∃ v,σ[i]? = some (some v)/\Q v H
def tC(v:V):TE:=λ_ H Q=>Q v H
theorem zap{i:Nat}{x:Str}{pos:Pos}(hN:X.N[i]? = some x)(hv:Vis X.env.scope x)(hd:(x == ("__debug__" : Str))=false:=by decide)(hcd:(x == ("__classdict__" : Str))=false:=by decide):PE X (.Name x pos) (tVar i):=by
 intro pins s σ H Q I h
 obtain⟨v,e,h⟩:=h
 obtain⟨m,hn,hl⟩:=I.loc
 obtain⟨u,r,l⟩:=hl i x v hN e hv
 have fin:EP X pins σ Q u s:=⟨v,H,I,r,h⟩
 rcases l with ⟨hk,hm⟩|⟨hk,c,hc,hcell⟩
 ·exact wpAny_Name (wpAny_loadName_local I.ok.kind hk hn hm fin) hd
 ·rcases hk with hk|hk
  ·exact wpAny_Name (wpAny_loadName_cell I.ok.kind hk hc hcell fin) hd
  ·exact wpAny_Name (wpAny_loadName_free I.ok.kind hk hc hcell fin hcd) hd
theorem zat{i j pos}:PE X (.Constant (.int i) j pos) (tC (.int i)):=λ_ _ _ H _ I h=>wpAny_Constant_int ⟨.int i,H,I.tok _,⟨_,rfl⟩,h⟩
theorem z5m{b j pos}:PE X (.Constant (.bool b) j pos) (tC (.bl b)):=λ_ _ _ H _ I h=>Constant_bool ⟨.bl b,H,I,rfl,h⟩
theorem zs9{j pos}:PE X (.Constant .none j pos) (tC .non):=λ_ _ _ H _ I h=>Constant_none ⟨.non,H,I,rfl,h⟩
theorem z2f{x j pos}:PE X (.Constant (.str x) j pos) (tC (.str x)):=λ_ _ _ H _ I h=>Calls.Constant_str ⟨.str x,H,I.tok _,⟨_,rfl⟩,h⟩
def Gl(X:Cx)(x:Str):Prop:=X.env.kindOf x=some .globalImplicit
theorem zej{E:Value->Shared->Prop}{pins:List (Addr × Obj)}{s:Shared}{σ:St}{H:Hp}{x:Str}{u:Value}{pos:Pos}{Q:Value->Shared->Prop}(I:Inv X pins σ H s)(hg:Gl X x)(hm:X.mg x=some u)(h:Q u s)
 (hd:(x == ("__debug__" : Str))=false:=by decide):wpAny (model X.prog X.w) X.A (eval (.Name x pos) X.env) Q E s :=
 YD I.ok.kind hg (Calls.loadGlobal_global (by rw[I.ok.glob];exact I.mod.glob.keeps I.bk) hm h) hd
theorem zcd{E:Value->Shared->Prop}{pins:List (Addr × Obj)}{s:Shared}{σ:St}{H:Hp}{x:Str}{u:Value}{pos:Pos}{Q:Value->Shared->Prop}(I:Inv X pins σ H s)(hg:Gl X x)(hm:X.mg x=none)(hv:bootBuiltins x=some u)(h:Q u s)
 (hn:x ≠ "__name__" := by decide) (hd:(x == ("__debug__" : Str))=false:=by decide):wpAny (model X.prog X.w) X.A (eval (.Name x pos) X.env) Q E s:=by
 obtain⟨mb,h1,h2⟩:=I.mod.blt
 exact YD I.ok.kind hg (Calls.loadGlobal_builtin (by rw[I.ok.glob];exact I.mod.glob.keeps I.bk) hm (by rw[I.ok.blt];exact h1.keeps I.bk) ((h2 x hn).trans hv) h) hd
variable {a b : Expr} {ta tb : TE} {pos : Pos}
def tB(t:TE):TT:=λσ H Q=>t σ H λx H1=>∃ c,x = .bl c/\Q c H1
theorem z1a{e:Expr}{t:TE}(h:PE X e t)(he:∀ whole,isTrue e X.env whole=(do let v <- whole;standAt e.pos;holding [v] (truthy v)):=by intro _;rfl):PT X e (tB t):=by
 intro pins s σ H Q I hw
 refine isTrue_plain (thn (h pins s σ H _ I hw) λv s1 ⟨x,H1,I1,r1,q1⟩=>?_) (he _)
 obtain⟨d,rfl,q⟩:=q1
 cases r1
 exact wpAny_truthy_bool ⟨H1,I1,q⟩
variable {tA tB' : TT} {rest : List Expr}
def tAnd(t u:TT):TT:=λσ H Q=>t σ H λc H1=>if c=true then u σ H1 Q else Q false H1
def tOr(t u:TT):TT:=λσ H Q=>t σ H λc H1=>if c=true then Q true H1 else u σ H1 Q
def tNot(t:TT):TT:=λσ H Q=>t σ H λc H1=>Q (!c) H1
theorem zxe(ha:PT X a tA):PW X (.BoolOp .And [a] pos) tA:=by
 intro wh pins s σ H Q I h
 refine isTrue_and (thn (ha pins s σ H Q I h) λc s1 e=>?_)
 cases c with
 | true=>exact isTrue_and_nil e
 | false=>exact e
theorem z0e(ha:PT X a tA):PW X (.BoolOp .Or [a] pos) tA:=by
 intro wh pins s σ H Q I h
 refine isTrue_or (thn (ha pins s σ H Q I h) λc s1 e=>?_)
 cases c with
 | false=>exact isTrue_or_nil e
 | true=>exact e
theorem z0f(ha:PT X a tA)(hb:PW X (.BoolOp .And (b::rest) pos) tB'):PW X (.BoolOp .And (a::b::rest) pos) (tAnd tA tB'):=by
 intro wh pins s σ H Q I h
 refine isTrue_and (thn (ha pins s σ H _ I h) λc s1 ⟨H1,I1,q1⟩=>?_)
 cases c with
 | true=>exact hb wh pins s1 σ H1 Q I1 q1
 | false=>exact⟨H1,I1,q1⟩
theorem z5c(ha:PT X a tA)(hb:PW X (.BoolOp .Or (b::rest) pos) tB'):PW X (.BoolOp .Or (a::b::rest) pos) (tOr tA tB'):=by
 intro wh pins s σ H Q I h
 refine isTrue_or (thn (ha pins s σ H _ I h) λc s1 ⟨H1,I1,q1⟩=>?_)
 cases c with
 | true=>exact⟨H1,I1,q1⟩
 | false=>exact hb wh pins s1 σ H1 Q I1 q1
theorem z4d(ha:PT X a tA):PT X (.UnaryOp .Not a pos) (tNot tA):=by
 intro pins s σ H Q I h
 exact isTrue_not (ha pins s σ H (λc H1=>Q (!c) H1) I h)
def zww(ta tb:TE):TE:=λσ H Q=>ta σ H λx H1=>∃ c,x = .bl c/\if c=true then tb σ H1 Q else Q (.bl false) H1
def tOrV(ta tb:TE):TE:=λσ H Q=>ta σ H λx H1=>∃ c,x = .bl c/\if c=true then Q (.bl true) H1 else tb σ H1 Q
def zwo(ta:TE):TE:=λσ H Q=>ta σ H λx H1=>∃ c,x = .bl c/\Q (.bl (!c)) H1
theorem z1g{op}{t:TE}(h:PE X a t):PE X (.BoolOp op [a] pos) t:=λpins s σ H Q I hw=>BoolOp_one (h pins s σ H Q I hw)
theorem z1r(ha:PE X a ta)(hb:PE X (.BoolOp .And (b::rest) pos) tb):PE X (.BoolOp .And (a::b::rest) pos) (zww ta tb):=by
 intro pins s σ H Q I h
 refine BoolOp_and (thn (ha pins s σ H _ I h) λv s1 ⟨x,H1,I1,r1,q1⟩=>?_)
 obtain⟨c,rfl,q1⟩:=q1
 cases r1
 refine wpAny_truthy_bool ?_
 cases c with
 | true=>exact hb pins s1 σ H1 Q I1 q1
 | false=>exact⟨.bl false,H1,I1,rfl,q1⟩
theorem z4q(ha:PE X a ta)(hb:PE X (.BoolOp .Or (b::rest) pos) tb):PE X (.BoolOp .Or (a::b::rest) pos) (tOrV ta tb):=by
 intro pins s σ H Q I h
 refine BoolOp_or (thn (ha pins s σ H _ I h) λv s1 ⟨x,H1,I1,r1,q1⟩=>?_)
 obtain⟨c,rfl,q1⟩:=q1
 cases r1
 refine wpAny_truthy_bool ?_
 cases c with
 | false=>exact hb pins s1 σ H1 Q I1 q1
 | true=>exact⟨.bl true,H1,I1,rfl,q1⟩
theorem z1b(ha:PE X a ta):PE X (.UnaryOp .Not a pos) (zwo ta):=by
 intro pins s σ H Q I h
 refine UnaryOp_ (thn (ha pins s σ H _ I h) λv s1 ⟨x,H1,I1,r1,q1⟩=>?_)
 obtain⟨c,rfl,q1⟩:=q1
 cases r1
 exact not_of (wpAny_truthy_bool ⟨.bl (!c),H1,I1,rfl,q1⟩)
def tIf(t:TT)(ta tb:TE):TE:=λσ H Q=>t σ H λc H1=>if c=true then ta σ H1 Q else tb σ H1 Q
theorem zu3{c:Expr}(hc:PT X c tA)(ha:PE X a ta)(hb:PE X b tb):PE X (.IfExp c a b pos) (tIf tA ta tb):=by
 intro pins s σ H Q I h
 refine wpAny_IfExp (thn (hc pins s σ H _ I h) λd s1 ⟨H1,I1,q1⟩=>?_)
 cases d with
 | true=>exact ha pins s1 σ H1 Q I1 q1
 | false=>exact hb pins s1 σ H1 Q I1 q1
end
def SqL(K:Qa)(H:Hp)(a:Addr)(xs:List V):Prop :=
 Rd H a (.lst xs) \/
  ∃ (o:Obj) (its:Array Value) (n:Nat),K.lookup a=some o/\o.cls = .type "list" /\ o.dict=none/\o.data = .seq its n/\its.size<=sizeLine/\Vals xs its.toList
def SqT(K:Qa)(H:Hp)(a:Addr)(xs:List V):Prop :=
 Rd H a (.tup xs) \/
  ∃ (o:Obj) (its:Array Value) (n:Nat),K.lookup a=some o/\o.cls = .type "tuple" /\ o.data = .seq its n/\its.size<=sizeLine/\Vals xs its.toList
def absV:Value->Option V
 | .none=>some .non
 | .bool b=>some (.bl b)
 | .int i _=>some (.int i)
 | .str x _=>some (.str x)
 | .bytes b _=>some (.byt b)
 | .float b _=>some (.flt b)
 | .ref a=>some (.ref a)
 | .type n=>some (.ty n)
 | _=>none
theorem RelV.abs{x:V}{u:Value}(r:RelV x u):absV u=some x:=by
 cases x with
 | non=>cases r;rfl
 | bl _=>cases r;rfl
 | int _=>obtain⟨t,rfl⟩:=r;rfl
 | str _=>obtain⟨t,rfl⟩:=r;rfl
 | byt _=>obtain⟨t,rfl⟩:=r;rfl
 | flt _=>obtain⟨t,rfl⟩:=r;rfl
 | ref _=>cases r;rfl
 | ty _=>cases r;rfl
theorem RelV.inj{x y:V}{u:Value}(r:RelV x u)(q:RelV y u):x=y:=Zy (r.abs.symm.trans q.abs)
theorem Vals.inj:∀ {xs ys:List V} {us:List Value},Vals xs us->Vals ys us->xs=ys
 | _,_,_,.nil,.nil=>rfl
 | _,_,_,.cons r t,.cons r' t'=>by rw[r.inj r',Vals.inj t t']
section
variable {X : Cx} {pins : List (Addr × Obj)} {σ : St} {H : Hp} {s : Shared} {a : Addr} {xs ys : List V}
theorem SqL.of{K:Qa}(h:H a=some (.lst xs)):SqL K H a xs := .inl (.inl h)
theorem SqT.of{K:Qa}(h:H a=some (.tup xs)):SqT K H a xs := .inl (.inl h)
theorem Inv.list(I:Inv X pins σ H s)(h:SqL X.K H a xs):∃ its:List Value,Vals xs its/\PlainL s.heap a its.toArray/\xs.length<=sizeLine:=by
 rcases h with h|⟨o,its,n,hk,hc,hd,hs,hz,r⟩
 ·obtain⟨z,its,n,r,e⟩:=h.ok I.hok
  exact⟨its,r,⟨_,n,e,rfl,rfl,rfl⟩,z⟩
 ·refine⟨its.toList,r,⟨o,n,I.kIn a o hk,hc,hd,by simpa using hs⟩,?_⟩
  have e:=r.length
  simp only[Jv] at e
  omega
theorem Inv.tuple(I:Inv X pins σ H s)(h:SqT X.K H a xs):∃ its:List Value,Vals xs its/\IsTup s.heap a its.toArray/\xs.length<=sizeLine:=by
 rcases h with h|⟨o,its,n,hk,hc,hs,hz,r⟩
 ·obtain⟨z,its,r,p⟩:=h.ok I.hok
  exact⟨its,r,p,z⟩
 ·refine⟨its.toList,r,⟨o,I.kIn a o hk,hc,n,by simpa using hs⟩,?_⟩
  have e:=r.length
  simp only[Jv] at e
  omega
theorem Inv.list_inj(I:Inv X pins σ H s)(h:SqL X.K H a xs)(h':SqL X.K H a ys):xs=ys:=by
 obtain⟨its,r,⟨o,n,e,_,_,d⟩,_⟩:=I.list h
 obtain⟨its',r',⟨o',n',e',_,_,d'⟩,_⟩:=I.list h'
 rw[e] at e';cases e'
 rw[d] at d'
 injection d' with d1 _
 have:its=its':=by simpa using congrArg zg d1
 subst this
 exact r.inj r'
theorem Inv.tuple_inj(I:Inv X pins σ H s)(h:SqT X.K H a xs)(h':SqT X.K H a ys):xs=ys:=by
 obtain⟨its,r,⟨o,e,_,n,d⟩,_⟩:=I.tuple h
 obtain⟨its',r',⟨o',e',_,n',d'⟩,_⟩:=I.tuple h'
 rw[e] at e';cases e'
 rw[d] at d'
 injection d' with d1 _
 have:its=its':=by simpa using congrArg zg d1
 subst this
 exact r.inj r'
end
abbrev Cx.wish(X:Cx)(E:Value->Shared->Prop):Cx:={ X with xe:=E }
abbrev Cx.nox(X:Cx):Cx:=X.wish λ_ _=>False
theorem Cx.Ok.wish{X:Cx}(ok:X.Ok)(E:Value->Shared->Prop):(X.wish E).Ok :=
 ⟨ok.mod,ok.kind,ok.glob,ok.blt,ok.above,ok.inj,ok.has,ok.cab,ok.hd,ok.frames,ok.stk,ok.exf,ok.bs,ok.bsz,ok.noex,ok.exfs,ok.funs,ok.frf⟩
theorem Cx.Ok.unwish{X:Cx}{E:Value->Shared->Prop}(ok:(X.wish E).Ok):X.Ok :=
 ⟨ok.mod,ok.kind,ok.glob,ok.blt,ok.above,ok.inj,ok.has,ok.cab,ok.hd,ok.frames,ok.stk,ok.exf,ok.bs,ok.bsz,ok.noex,ok.exfs,ok.funs,ok.frf⟩
section
variable {X : Cx} {pins : List (Addr × Obj)} {σ : St} {H : Hp} {s : Shared} {E : Value → Shared → Prop}
theorem Inv.wish(I:Inv X pins σ H s)(E:Value->Shared->Prop):Inv (X.wish E) pins σ H s:=⟨I.ok.wish E,I.os,I.bare,I.base,I.loc,I.cell,I.free,I.freeC,I.pin,I.hok,I.len⟩
theorem Inv.unwish(I:Inv (X.wish E) pins σ H s):Inv X pins σ H s:=⟨I.ok.unwish,I.os,I.bare,I.base,I.loc,I.cell,I.free,I.freeC,I.pin,I.hok,I.len⟩
theorem SP.unwish{D:Ends}{f:Flow}{s':Shared}(h:SP (X.wish E) pins D f s'):SP X pins D f s':=by
 cases f with
 | next=>obtain⟨σ',H',I,q⟩:=h;exact⟨σ',H',I.unwish,q⟩
 | brk=>obtain⟨σ',H',I,q⟩:=h;exact⟨σ',H',I.unwish,q⟩
 | cont=>obtain⟨σ',H',I,q⟩:=h;exact⟨σ',H',I.unwish,q⟩
 | ret u=>obtain⟨v,σ',H',I,r,q⟩:=h;exact⟨v,σ',H',I.unwish,r,q⟩
theorem PT.nox{e:Expr}{t:TT}(h:PT X.nox e t):PT X e t:=λpins s σ H Q I hw =>
 wpAny_mono (h pins s σ H Q (I.wish _) hw) (λ_ _ ⟨H',I',q⟩=>⟨H',I'.unwish,q⟩) λ_ _ z=>ZF z
theorem PSs.nox{st:List Stmt}{t:TS}(h:PSs X.nox st t):PSs X st t:=λpins s σ H D I hw =>
 wpAny_mono (h pins s σ H D (I.wish _) hw) (λ_ _ q=>q.unwish) λ_ _ z=>ZF z
end
section
variable {X : Cx} {st : Stmt} {rest : List Stmt} {t u : TS} {e : Expr} {te : TE} {pos : Pos}
def zi4:TS:=λD σ H=>D.nx σ H
def tSeq(t u:TS):TS:=λD σ H=>t { D with nx:=u D } σ H
theorem zhk:PSs X [] zi4:=λ_ _ σ H _ I h=>wpAny_execs_nil ⟨σ,H,I,h⟩
theorem zbg(h1:PS X st t)(h2:PSs X rest u):PSs X (st::rest) (tSeq t u):=by
 intro pins s σ H D I h
 refine wpAny_execs_cons (thn (h1 pins s σ H { D with nx:=u D } I h) λf s1 q=>?_)
 cases f with
 | next =>
   obtain⟨σ',H',I',q⟩:=q
   exact h2 pins s1 σ' H' D I' q
 | ret v=>exact q
 | brk=>exact q
 | cont=>exact q
theorem zcp(h1:PS X st t):PSs X [st] t:=by
 intro pins s σ H D I h
 refine wpAny_execs_cons (thn (h1 pins s σ H D I h) λf s1 q=>?_)
 cases f with
 | next=>exact wpAny_execs_nil q
 | ret v=>exact q
 | brk=>exact q
 | cont=>exact q
theorem Inv.quiet{pins:List (Addr × Obj)}{σ:St}{H:Hp}{s:Shared}(I:Inv X pins σ H s):interactive X.env=false:=by simp[interactive,I.ok.kind]
def zpt(te:TE):TS:=λD σ H=>te σ H λ_ H1=>D.nx σ H1
theorem zzo(he:PE X e te)(hs:swapsWith e none pos.line X.env=pure false:=by rfl):PS X (.Expr e pos) (zpt te):=by
 intro pins s σ H D I h
 exact wpAny_Expr_any (thn (he pins s σ H _ I h) λv s1 ⟨x,H1,I1,r1,q1⟩=>⟨σ,H1,I1,q1⟩) I.quiet hs
def tRet(te:TE):TS:=λD σ H=>te σ H D.rt
theorem zgr(he:PE X e te):PS X (.Return (some e) pos) (tRet te):=by
 intro pins s σ H D I h
 exact wpAny_Return_some (thn (he pins s σ H _ I h) λv s1 ⟨x,H1,I1,r1,q1⟩=>⟨x,σ,H1,I1,r1,q1⟩)
def tIfS(c:TT)(t u:TS):TS:=λD σ H=>c σ H λb H1=>if b=true then t D σ H1 else u D σ H1
theorem zhl{c:Expr}{a b:List Stmt}{tc:TT}(hc:PT X c tc)(ha:PSs X a t)(hb:PSs X b u):PS X (.If c a b pos) (tIfS tc t u):=by
 intro pins s σ H D I h
 refine wpAny_If (thn (hc pins s σ H _ I h) λd s1 ⟨H1,I1,q1⟩=>?_)
 cases d with
 | true=>exact ha pins s1 σ H1 D I1 q1
 | false=>exact hb pins s1 σ H1 D I1 q1
end
abbrev TG:=V->St->Hp->(St->Hp->Prop)->Prop
abbrev TGs:=List V->St->Hp->(St->Hp->Prop)->Prop
def PG(X:Cx)(target:Expr)(t:TG):Prop :=
 ∀ (pins:List (Addr × Obj)) (s:Shared) (σ:St) (H:Hp) (v:V) (u:Value) (Q:St->Hp->Prop),Inv X pins σ H s->RelV v u->t v σ H Q ->
   wpAny (model X.prog X.w) X.A (assign target X.env u) (λ_ s'=>∃ σ' H',Inv X pins σ' H' s'/\Q σ' H') X.xe s
def PGs(X:Cx)(ts:List Expr)(t:TGs):Prop :=
 ∀ (pins:List (Addr × Obj)) (s:Shared) (σ:St) (H:Hp) (vs:List V) (us:List Value) (Q:St->Hp->Prop),Inv X pins σ H s->Vals vs us->t vs σ H Q ->
   wpAny (model X.prog X.w) X.A (assignInOrder ((assignEach ts X.env).map (·.2)) us) (λ_ s'=>∃ σ' H',Inv X pins σ' H' s'/\Q σ' H') X.xe s
abbrev TSet:=V->V->V->Hp->(Hp->Prop)->Prop
def PSet(X:Cx)(t:TSet):Prop :=
 ∀ (pins:List (Addr × Obj)) (s:Shared) (σ:St) (H:Hp) (o i v:V) (ov iv u:Value) (Q:Hp->Prop),Inv X pins σ H s->RelV o ov->RelV i iv->RelV v u->t o i v H Q ->
   wpAny (model X.prog X.w) X.A (setItem ov iv u) (λ_ s'=>∃ H',Inv X pins σ H' s'/\Q H') X.xe s
section
variable {X : Cx} {pos : Pos}
def zbi(i:Nat):TG:=λv σ H Q=>Q (σ.set i (some v)) H
theorem zpm{i:Nat}{x:Str}(hN:X.N.Nodup)(hi:X.N[i]? = some x)(hx:Loc X.env.scope x)(hf:X.fn x=true\/X.env.scope.names.lookup x=some .local:=by first|exact .inl rfl|exact .inr rfl|assumption):PG X (.Name x pos) (zbi i):=by
 intro pins s σ H v u Q I r h
 exact wpAny_assign_Name (zdq I hN hi hx r (λs' I'=>⟨_,H,I',h⟩) hf)
def gNil:TGs:=λvs σ H Q=>vs = []/\Q σ H
def zju(t:TG)(u:TGs):TGs:=λvs σ H Q=>∃ v r,vs=v::r/\t v σ H λσ' H'=>u r σ' H' Q
theorem zxm:PGs X [] gNil:=by
 intro pins s σ H vs us Q I r h
 obtain⟨e,h⟩:=h
 subst e
 cases r
 exact assignInOrder_nil ⟨σ,H,I,h⟩
theorem zvj{e:Expr}{es:List Expr}{t:TG}{u:TGs}(h1:PG X e t)(h2:PGs X es u)
 (hs:(assignEach (e::es) X.env).map (·.2)=assign e X.env::(assignEach es X.env).map (·.2):=by rfl):PGs X (e::es) (zju t u):=by
 intro pins s σ H vs us Q I r h
 obtain⟨v,vr,e1,h⟩:=h
 subst e1
 cases r with
 | cons r rr =>
   rw[hs]
   refine assignInOrder_cons (thn (h1 pins s σ H _ _ _ I r h) λ_ s1 ⟨σ1,H1,I1,q1⟩=>?_)
   exact h2 pins s1 σ1 H1 _ _ Q I1 rr q1
def gTup(K:Qa)(n:Nat)(t:TGs):TG:=λv σ H Q=>∃ a xs,v = .ref a/\SqT K H a xs/\xs.length=n/\t xs σ H Q
theorem zqv{es:List Expr}{k:Nat}{t:TGs}{n:Nat}(hc:X.calm=true)(h:PGs X es t)
 (hn:(assignEach es X.env).length=n:=by rfl) (hst:(assignEach es X.env).findIdx? (·.1)=none:=by rfl):PG X (.Tuple es k pos) (gTup X.K n t):=by
 intro pins s σ H v u Q I r hw
 obtain⟨a,xs,e1,hq,hl,hw⟩:=hw
 subst e1
 cases r
 obtain⟨its,rv,ht,hz⟩:=I.tuple hq
 refine assign_Tuple_tuple (I.ok.hd hc) ht (by simp[hn,<- hl,rv.length]) hst λh' hx=>?_
 have I1:Inv X pins σ H { s with heap:=h' }:=I.kept (t':=s.toks) λb o e=>hx b o (Q8 (Qk e)) e
 exact h pins _ σ H xs _ Q I1 (by simpa using rv) hw
def gSub(to ti:TE)(t:TSet):TG:=λv σ H Q=>to σ H λo H1=>ti σ H1 λi H2=>t o i v H2 λH3=>Q σ H3
theorem ziw{o i:Expr}{to ti:TE}{t:TSet}(ho:PE X o to)(hi:PE X i ti)(hs:PSet X t)
 (ha:∀ v,assign (.Subscript o i pos) X.env v=(do
  let ov <- holding [v] (eval o X.env)
  let iv <- holding [v,ov] (eval i X.env)
  standAt pos
  holding [v,ov,iv] (setItem ov iv v)
  release [v,ov,iv] []):=by intro _;rfl):PG X (.Subscript o i pos) (gSub to ti t):=by
 intro pins s σ H v u Q I r h
 rw[ha]
 refine wpAny_bind (wpAny_holding (thn (ho pins s σ H _ I h) λov s1 ⟨x,H1,I1,r1,q1⟩=>?_))
 refine wpAny_bind (wpAny_holding (thn (hi pins s1 σ H1 _ I1 q1) λiv s2 ⟨y,H2,I2,r2,q2⟩=>?_))
 refine wpAny_bind (wpAny_standAt (wpAny_bind (wpAny_holding (thn (hs pins s2 σ H2 x y v ov iv u _ I2 r1 r2 r q2) λ_ s3 ⟨H3,I3,q3⟩=>?_))))
 exact wpAny_release ⟨σ,H3,I3,q3⟩
def tAsg(te:TE)(g:TG):TS:=λD σ H=>te σ H λx H1=>g x σ H1 D.nx
theorem zgq{tg e:Expr}{te:TE}{g:TG}(he:PE X e te)(hg:PG X tg g)(hs:swapsWithSole [tg] e pos.line X.env=pure false:=by rfl)(hw:swappedStores [tg] e X.env=pure none:=by rfl)
 (h1:(assignEach [tg] X.env).map (·.2) = [assign tg X.env]:=by rfl):PS X (.Assign [tg] e pos) (tAsg te g):=by
 intro pins s σ H D I h
 refine wpAny_Assign_stores (thn (he pins s σ H _ I h) λv s1 ⟨x,H1,I1,r1,q1⟩=>?_) hs hw
 rw[h1]
 exact thn (hg pins s1 σ H1 x v _ I1 r1 q1) λ_ s2 q=>q
theorem zcn{i:Nat}{x:Str}{e:Expr}{te:TE}{pos':Pos}(hN:X.N.Nodup)(hi:X.N[i]? = some x)(hx:Loc X.env.scope x)(he:PE X e te)(hs:swapsWith e (some (.Name x pos')) pos.line X.env=pure false:=by rfl)(hf:X.fn x=true\/X.env.scope.names.lookup x=some .local:=by first|exact .inl rfl|exact .inr rfl|assumption) :
 PS X (.Assign [.Name x pos'] e pos) (tAsg te (zbi i)):=by
 intro pins s σ H D I h
 refine wpAny_Assign_Name (thn (he pins s σ H _ I h) λv s1 ⟨y,H1,I1,r1,q1⟩=>?_) hs
 exact zdq I1 hN hi hx r1 (λs2 I2=>⟨_,H1,I2,q1⟩) hf
def tPar(i j:Nat)(ta:TA):TS:=λD σ H=>ta σ H λvs H1=>∃ v w,vs = [v,w]/\D.nx ((σ.set i (some v)).set j (some w)) H1
theorem z2v{i j:Nat}{x y:Str}{a b:Expr}{ta:TA}{px py pt:Pos}{kt k2 pt2}(hc:X.calm=true)(hN:X.N.Nodup)(hi:X.N[i]? = some x)(hj:X.N[j]? = some y)(hij:i ≠ j)
 (hx:X.env.scope.names.lookup x=some .local) (hy:X.env.scope.names.lookup y=some .local) (ha:PA X [a,b] ta)
 (hw:swappedStores [.Tuple [.Name x px,.Name y py] kt pt] (.Tuple [a,b] k2 pt2) X.env=pure (some [x,y]))
 (hs:swapsWithSole [.Tuple [.Name x px,.Name y py] kt pt] (.Tuple [a,b] k2 pt2) pos.line X.env=pure false:=by rfl) :
 PS X (.Assign [.Tuple [.Name x px,.Name y py] kt pt] (.Tuple [a,b] k2 pt2) pos) (tPar i j ta):=by
 intro pins s σ H D I h
 rw[exec_Assign_arm]
 refine wpAny_bind (wpAny_standAt ?_)
 rw[hs]
 refine wpAny_bind (wpAny_pure ?_)
 rw[if_neg (by decide)]
 refine wpAny_bind (Tuple_ (thn (ha _ pins s σ H _ I h) λus s1 ⟨vs,H1,I1,r1,q1⟩=>?_))
 obtain⟨v,w,e1,q1⟩:=q1
 subst e1
 obtain⟨u1,u2,rfl,rv,rw'⟩:∃ u1 u2,us = [u1,u2]/\RelV v u1/\RelV w u2:=by
  cases r1 with
  | cons p q =>
    cases q with
    | cons p' q' =>
      cases q'
      exact⟨_,_,rfl,p,p'⟩
 refine wpAny_newObj_type ?_ (by show 2<=sizeLine;decide)
 have I2:Inv X pins σ H1 { s1 with heap:=s1.heap.push { cls := .type "tuple", data := .seq [u1,u2].toArray } }:=I1.kept (t':=s1.toks) λb o e=>Qc _ e
 rw[hw]
 refine wpAny_bind (wpAny_pure ?_)
 show wpAny (model X.prog X.w) X.A (do rule "assign.swapped-stores"; let items <- unpackItems (.ref s1.heap.objs.size) 2 none;assignInOrder [λv=>bindName X.env y v,λv=>bindName X.env x v] items.reverse;pure Flow.next) _ _ _
 refine wpAny_bind (wpAny_rule (wpAny_bind (unpackItems_tuple (items:=#[u1,u2]) (I.ok.hd hc) (je s1.heap _) λh' hx'=>?_)))
 have I3:=I2.kept (h':=h') (t':=s1.toks) λb o e=>hx' b o (Q8 (Qk e)) e
 show wpAny _ _ (assignInOrder [λv=>bindName X.env y v,λv=>bindName X.env x v] [u2,u1] >>= λ_=>pure Flow.next) _ _ _
 refine wpAny_bind (assignInOrder_cons (wpAny_bindName (zdq I3 hN hj (.inl hy) rw' (λs2 I4=>?_) (.inr hy))))
 refine assignInOrder_cons (wpAny_bindName (zdq I4 hN hi (.inl hx) rv (λs3 I5=>assignInOrder_nil (wpAny_pure ?_)) (.inr hx)))
 rw[List.set_comm _ _ (ZD hij)] at I5
 exact⟨_,H1,I5,q1⟩
end
structure It where
 go:Nat->Hp->Prop
 yld:Nat->Hp->V->Hp->Prop
 stop:Nat->Hp->Prop
def FpOk(X:Cx)(pins:List (Addr × Obj))(H:Hp)(b:Addr):Prop :=
 H b=none/\b ≠ X.env.locals/\b ∉ X.fs/\(b ∈ X.ex\/X.s₀.heap.objs.size<=b)/\(∀ x c,X.env.cells.lookup x=some c->c ≠ b)/\∀ p ∈ X.pn++pins,p.1 ≠ b
theorem Inv.fpOk{X:Cx}{pins:List (Addr × Obj)}{σ:St}{H H':Hp}{s:Shared}{b:Addr}(I:Inv X pins σ H s)(hb:s.heap.objs.size<=b)(hn:H' b=none):FpOk X pins H' b:=by
 refine⟨hn,J5 (Q5 I.lt hb),I.nofs hb,.inr (Q4 I.sz hb),λx c e z=>?_,λp hp z=>?_⟩
 ·obtain⟨v,q⟩:=I.cell x c e
  exact absurd (Q5 q.lt (by rw[z];exact hb)) (QS _)
 ·exact absurd (Q5 (Qk (I.pin p hp).1) (by rw[z];exact hb)) (QS _)
structure Turn (P:Program) (w:World) (K:Qa) (tg:Expr) (J:It) (fp:List Addr) (it:Addr) (tn:Nat->Heap->Prop):Prop where
 mem:it ∈ fp
 obj:∀ i h,tn i h->∀ b ∈ fp,∃ o,h.get? b=some o/\∀ v,o.data ≠ .cell v
 keep:∀ i h h',tn i h->(∀ b ∈ fp,∀ o,h.get? b=some o->h'.get? b=some o)->tn i h'
 item:∀ (X:Cx),X.prog=P->X.w=w->X.K=K->X.calm=true->∀ (i:Nat) (pins:List (Addr × Obj)) (s:Shared) (σ:St) (H:Hp) (E:Value->Shared->Prop),Inv X pins σ H s->(∀ b ∈ fp,FpOk X pins H b)->tn i s.heap->J.go i H ->
  wpAny (model P w) X.A (pyNext (.ref it)) (λr s1=>∃ u,r=some u /\
   wpAny (model P w) X.A (letOwnedTupleGo tg (.ref it) u) (λ_ s2=>∃ x H',Inv X pins σ H' s2/\RelV x u/\J.yld i H x H'/\tn (i+1) s2.heap/\∀ b ∈ fp,H' b=none) E s1) E s
 done:∀ (X:Cx),X.prog=P->X.w=w->X.K=K->X.calm=true->∀ (i:Nat) (pins:List (Addr × Obj)) (s:Shared) (σ:St) (H:Hp) (E:Value->Shared->Prop),Inv X pins σ H s->(∀ b ∈ fp,FpOk X pins H b)->tn i s.heap->J.stop i H ->
  wpAny (model P w) X.A (pyNext (.ref it)) (λr s1=>r=none/\Inv X pins σ H s1) E s
 self:∀ (A:Around) (i:Nat) (s:Shared) (Q:Value->Shared->Prop) (E:Value->Shared->Prop),tn i s.heap->Q (.ref it) s->wpAny (model P w) A (pyIter (.ref it)) Q E s
abbrev TI:=St->Hp->(It->Hp->Prop)->Prop
def PIE(X:Cx)(pins:List (Addr × Obj))(σ:St)(tg:Expr)(R:It->Hp->Prop)(itv:Value)(s2:Shared):Prop :=
 ∃ (it:Addr) (fp:List Addr) (tn:Nat->Heap->Prop) (J:It) (H':Hp),itv = .ref it/\Inv X pins σ H' s2/\Turn X.prog X.w X.K tg J fp it tn/\tn 0 s2.heap/\(∀ b ∈ fp,FpOk X pins H' b)/\R J H'
def PI(X:Cx)(tg iter:Expr)(wi:TI):Prop :=
 ∀ (pins:List (Addr × Obj)) (s:Shared) (σ:St) (H:Hp) (R:It->Hp->Prop),Inv X pins σ H s->wi σ H R ->
   wpAny (model X.prog X.w) X.A (eval iter X.env) (λv s1=>wpAny (model X.prog X.w) X.A (pyIter v) (PIE X pins σ tg R) X.xe s1) X.xe s
theorem zlv{M:Model}{A:Around}{E:Value->Shared->Prop}{s:Shared}{tg:Expr}{it:Addr}{u:Value}{o:Obj}{n:String}{vs:Array Value}{Q:Unit->Shared->Prop}(ho:s.heap.get? it=some o)(hc:o.cls = .type n)(hd:o.data = .fields vs)
 (hn:["enumerate", "zip", "dict_itemiterator", "dict_reverseitemiterator", "odict_iterator", "itertools.zip_longest", "itertools.pairwise"].contains n=false) (hQ:Q () s):wpAny M A (letOwnedTupleGo tg (.ref it) u) Q E s:=by
 unfold letOwnedTupleGo
 cases tg <;> first
  | exact wpAny_pure hQ
  | (cases u <;> first
   | exact wpAny_pure hQ
   | (refine wpAny_bind (wpAny_load ho ?_)
      rw[hc,hd]
      show wpAny M A (if(["enumerate", "zip", "dict_itemiterator", "dict_reverseitemiterator", "odict_iterator", "itertools.zip_longest", "itertools.pairwise"].contains n && vs[0]? == some (rawInt _))=true then _ else _) Q E s
      rw[if_neg (by intro h;rw[hn,Z5] at h;cases h)]
      exact wpAny_pure hQ))
def Itl(K:Qa)(a:Addr):It :=
 ⟨λi H=>∃ xs x,SqL K H a xs/\xs[i]? = some x,λi H x H'=>H'=H/\∀ xs,SqL K H a xs->xs[i]? = some x,λi H=>∃ xs,SqL K H a xs/\xs.length<=i⟩
def Itt(K:Qa)(a:Addr):It :=
 ⟨λi H=>∃ xs x,SqT K H a xs/\xs[i]? = some x,λi H x H'=>H'=H/\∀ xs,SqT K H a xs->xs[i]? = some x,λi H=>∃ xs,SqT K H a xs/\xs.length<=i⟩
def Itr(lo:Int)(n:Nat):It:=⟨λi _=>i<n,λi H x H'=>H'=H/\x = .int (lo+i),λi _=>n<=i⟩
theorem zsi{P:Program}{w:World}{K:Qa}{tg:Expr}(a it:Addr):Turn P w K tg (Itl K a) [it] it (λi h=>h.IsListIter it a i) where
 mem:=by simp
 obj:=λi h st b hb=>by
  have e:b=it:=by simpa using hb
  subst e
  obtain⟨o,e,c,d⟩:=st
  exact⟨o,e,λv z=>by rw[d] at z;cases z⟩
 keep:=λi h h' st k=>st.at λo e=>k it (by simp) o e
 item:=by
  intro X hP hw hK hc i pins s σ H E I hf st hg
  subst hP hw hK
  obtain⟨xs,x,hq,hx⟩:=hg
  obtain⟨its,rv,p,hz⟩:=I.list hq
  obtain⟨u,hu,ru⟩:=rv.get hx
  obtain⟨f0,f1,f2,f3,f4,f5⟩:=hf it (by simp)
  refine wpAny_pyNext_list_item st p.isList (x:=u) (by simpa using hu) λh' st' sb=>?_
  have I1:Inv X pins σ H { s with heap:=h' }:=I.turned (t':=s.toks) (λb o hb e=>(sb.2 b hb).trans e) f0 f1 f3 f4 f5
  obtain⟨o,e,c,d⟩:=id st'
  exact⟨u,rfl,zlv (s:={ s with heap:=h' }) e c d (by decide) ⟨x,H,I1,ru,⟨rfl,λys hy=>by rw[I.list_inj hy hq];exact hx⟩,st',λb hb=>(hf b hb).1⟩⟩
 done:=by
  intro X hP hw hK hc i pins s σ H E I hf st hg
  subst hP hw hK
  obtain⟨xs,hq,hx⟩:=hg
  obtain⟨its,rv,p,hz⟩:=I.list hq
  obtain⟨f0,f1,f2,f3,f4,f5⟩:=hf it (by simp)
  have hl:=rv.length
  exact wpAny_pyNext_list_end (I.ok.hd hc) st p.isList (by simp;omega) λh' eb=>⟨rfl,I.turned (t':=s.toks) (λb o hb e=>eb b o hb e) f0 f1 f3 f4 f5⟩
 self:=λ_ _ _ _ _ st h=>wpAny_pyIter_listiter st h
theorem zpn{P:Program}{w:World}{K:Qa}{tg:Expr}(a it:Addr):Turn P w K tg (Itt K a) [it] it (λi h=>h.IsTupleIter it a i) where
 mem:=by simp
 obj:=λi h st b hb=>by
  have e:b=it:=by simpa using hb
  subst e
  obtain⟨o,e,c,d⟩:=st
  exact⟨o,e,λv z=>by rw[d] at z;cases z⟩
 keep:=λi h h' st k=>st.at λo e=>k it (by simp) o e
 item:=by
  intro X hP hw hK hc i pins s σ H E I hf st hg
  subst hP hw hK
  obtain⟨xs,x,hq,hx⟩:=hg
  obtain⟨its,rv,p,hz⟩:=I.tuple hq
  obtain⟨u,hu,ru⟩:=rv.get hx
  obtain⟨f0,f1,f2,f3,f4,f5⟩:=hf it (by simp)
  refine wpAny_pyNext_tuple_item st (show s.heap.IsTuple a its.toArray from p) (x:=u) (by simpa using hu) λh' st' sb=>?_
  have I1:Inv X pins σ H { s with heap:=h' }:=I.turned (t':=s.toks) (λb o hb e=>(sb.2 b hb).trans e) f0 f1 f3 f4 f5
  obtain⟨o,e,c,d⟩:=id st'
  exact⟨u,rfl,zlv (s:={ s with heap:=h' }) e c d (by decide) ⟨x,H,I1,ru,⟨rfl,λys hy=>by rw[I.tuple_inj hy hq];exact hx⟩,st',λb hb=>(hf b hb).1⟩⟩
 done:=by
  intro X hP hw hK hc i pins s σ H E I hf st hg
  subst hP hw hK
  obtain⟨xs,hq,hx⟩:=hg
  obtain⟨its,rv,p,hz⟩:=I.tuple hq
  obtain⟨f0,f1,f2,f3,f4,f5⟩:=hf it (by simp)
  have hl:=rv.length
  exact wpAny_pyNext_tuple_end (I.ok.hd hc) st (show s.heap.IsTuple a its.toArray from p) (by simp;omega) λh' eb=>⟨rfl,I.turned (t':=s.toks) (λb o hb e=>eb b o hb e) f0 f1 f3 f4 f5⟩
 self:=λ_ _ _ _ _ st h=>wpAny_pyIter_tupleiter st h
theorem zqo{P:Program}{w:World}{K:Qa}{tg:Expr}(it:Addr)(lo:Int)(n:Nat):Turn P w K tg (Itr lo n) [it] it (λi h=>IsRangeIter h it (lo+(i:Nat) * 1) ((n:Int) - (i:Nat)) 1) where
 mem:=by simp
 obj:=λi h st b hb=>by
  have e:b=it:=by simpa using hb
  subst e
  exact⟨_,st,λv z=>by
   have z':Data.fields _=Data.cell v:=z
   cases z'⟩
 keep:=λi h h' st k=>k it (by simp) _ st
 item:=by
  intro X hP hw hK hc i pins s σ H E I hf st hg
  subst hP hw hK
  obtain⟨f0,f1,f2,f3,f4,f5⟩:=hf it (by simp)
  have W:=Walks.range (prog:=X.prog) (w:=X.w) (I.ok.hd hc) it lo 1 n
  refine W.item i s _ _ hg st λv h' tk hv st' kk=>?_
  obtain⟨t,rfl⟩:=hv
  have I1:Inv X pins σ H { s with heap:=h',toks:=tk }:=I.turned (λb o hb e=>kk b o (by simpa using hb) e) f0 f1 f3 f4 f5
  refine⟨_,rfl,zlv (s:={ s with heap:=h',toks:=tk }) (n := "range_iterator") st' rfl rfl (by decide) ⟨.int (lo+i),H,I1,⟨t,?_⟩,⟨rfl,rfl⟩,st',λb hb=>(hf b hb).1⟩⟩
  rw[Int.mul_one]
 done:=by
  intro X hP hw hK hc i pins s σ H E I hf st hg
  subst hP hw hK
  obtain⟨f0,f1,f2,f3,f4,f5⟩:=hf it (by simp)
  exact wpAny_pyNext_range_end (I.ok.hd hc) st (by have:n<=i:=hg;omega) λh' eb=>⟨rfl,I.turned (t':=s.toks) (λb o hb e=>eb b o hb e) f0 f1 f3 f4 f5⟩
 self:=λ_ _ _ _ _ st h=>wpAny_pyIter_rangeiter st h
section
variable {X : Cx} {tg : Expr}
def zpy(K:Qa)(tl:TE):TI:=λσ H R=>tl σ H λx H1=>∃ a,x = .ref a/\(∃ xs,SqL K H1 a xs)/\R (Itl K a) H1
def iTup(K:Qa)(tl:TE):TI:=λσ H R=>tl σ H λx H1=>∃ a,x = .ref a/\(∃ xs,SqT K H1 a xs)/\R (Itt K a) H1
theorem zye{l:Expr}{tl:TE}(hl:PE X l tl):PI X tg l (zpy X.K tl):=by
 intro pins s σ H R I h
 refine thn (hl pins s σ H _ I h) λv s1 ⟨x,H1,I1,r1,q1⟩=>?_
 obtain⟨a,e,⟨xs,hq⟩,q⟩:=q1
 subst e
 cases r1
 obtain⟨its,rv,p,hz⟩:=I1.list hq
 refine wpAny_pyIter_list p.isList ?_
 refine⟨s1.heap.objs.size,[s1.heap.objs.size],_,_,H1,rfl,I1.kept (t':=s1.toks) λb o e=>Qc _ e,zsi a _,⟨_,Qq _ rfl,rfl,rfl⟩,λb hb=>?_,q⟩
 have e:b=s1.heap.objs.size:=by simpa using hb
 subst e
 exact I1.fpOk (Qo _) (I1.hok.fresh (Qo _))
theorem z3y{l:Expr}{tl:TE}(hl:PE X l tl):PI X tg l (iTup X.K tl):=by
 intro pins s σ H R I h
 refine thn (hl pins s σ H _ I h) λv s1 ⟨x,H1,I1,r1,q1⟩=>?_
 obtain⟨a,e,⟨xs,hq⟩,q⟩:=q1
 subst e
 cases r1
 obtain⟨its,rv,p,hz⟩:=I1.tuple hq
 refine wpAny_pyIter_tuple (show s1.heap.IsTuple a its.toArray from p) ?_
 refine⟨s1.heap.objs.size,[s1.heap.objs.size],_,_,H1,rfl,I1.kept (t':=s1.toks) λb o e=>Qc _ e,zpn a _,⟨_,Qq _ rfl,rfl,rfl⟩,λb hb=>?_,q⟩
 have e:b=s1.heap.objs.size:=by simpa using hb
 subst e
 exact I1.fpOk (Qo _) (I1.hok.fresh (Qo _))
theorem zt4{pins:List (Addr × Obj)}{σ:St}{H:Hp}{s:Shared}{R:It->Hp->Prop}{E:Value->Shared->Prop}{lo hi:Int}{t u v:Tok}{tk:Nat}(I:Inv X pins σ H s)(h1:-(2 ^ 62)<=lo)(h2:lo<2 ^ 62)(h3:-(2 ^ 62)<=hi)(h4:hi<2 ^ 62)
 (q:R (Itr lo (hi - lo).toNat) H):wpAny (model X.prog X.w) X.A (pyIter (.ref s.heap.objs.size)) (PIE X pins σ tg R) E { s with heap:=s.heap.push { cls := .type "range", data := .fields #[.int lo t,.int hi u,.int 1 v] },toks:=tk }:=by
 refine wpAny_pyIter_range (IsRange.new ..) (small_one h1 h2 h3 h4) ?_
 have I1:Inv X pins σ H { s with heap:=s.heap.push { cls := .type "range", data := .fields #[.int lo t,.int hi u,.int 1 v] },toks:=tk }:=I.kept λb o e=>Qc _ e
 refine⟨(s.heap.push { cls := .type "range", data := .fields #[.int lo t,.int hi u,.int 1 v] }).objs.size,[(s.heap.push { cls := .type "range", data := .fields #[.int lo t,.int hi u,.int 1 v] }).objs.size],_,_,H,rfl,
  I1.kept (t':=tk) λb o e=>Qc _ e,zqo _ lo (hi - lo).toNat,?_,λb hb=>?_,q⟩
 ·have e1:lo+((0:Nat):Int) * 1=lo:=by simp
  have e2:(((hi - lo).toNat:Nat):Int) - ((0:Nat):Int)=Builtin.Range.rangeSize lo hi 1:=by rw[rangeSize_one];split <;> omega
  show IsRangeIter _ _ (lo+((0:Nat):Int) * 1) ((((hi - lo).toNat:Nat):Int) - ((0:Nat):Int)) 1
  rw[e1,e2]
  exact Qq _ rfl
 ·have e:b=(s.heap.push { cls := .type "range", data := .fields #[.int lo t,.int hi u,.int 1 v] }).objs.size:=by simpa using hb
  subst e
  exact I1.fpOk (Qo _) (I1.hok.fresh (Qo _))
def zw0(ta:TA):TI:=λσ H R=>ta σ H λvs H1=>∃ j:Int,vs = [.int j]/\-(2 ^ 62)<=j/\j<2 ^ 62/\R (Itr 0 j.toNat) H1
theorem zrw{a:Expr}{ta:TA}{p pos:Pos}(hg:Gl X "range")(hm:X.mg "range" = none)(ha:PA X [a] ta)(hs:starEach [a] X.env = [(false,eval a X.env)]:=by rfl):PI X tg (.Call (.Name "range" p) [a] [] pos) (zw0 ta):=by
 intro pins s σ H R I h
 refine Call_ (zcd I hg hm boot_range (ZJ (thn (ha pos pins s σ H _ I h) λus s1 ⟨vs,H1,I1,r1,q1⟩=>?_) hs rfl))
 obtain⟨j,e,q1,q2,q⟩:=q1
 subst e
 cases r1 with
 | cons r rr =>
   cases rr
   obtain⟨t,rfl⟩:=r
   exact call_range_1 (zt4 I1 (by omega) (by omega) q1 q2 (by simpa using q))
def tFor(wi:TI)(g:TG)(tb:TS):TS:=λD σ H=>wi σ H λJ H1=>∃ W:Nat->Nat->St->Hp->Prop,(∃ m,W 0 m σ H1)/\∀ i m σ H,W i m σ H ->
 (J.stop i H/\D.nx σ H)\/(J.go i H/\∃ N:St->Hp->Prop,(∀ σ' H',N σ' H'->∃ m',m'<m/\W (i+1) m' σ' H')/\∀ x H',J.yld i H x H'->g x σ H' λσ2 H2=>tb { D with nx:=N,ct:=N,bk:=D.nx } σ2 H2)
def zfo(fp:List Addr)(h:Heap):List (Addr × Obj):=fp.filterMap λb=>(h.get? b).map λo=>(b,o)
theorem zco{fp:List Addr}{h:Heap}{b:Addr}{o:Obj}(hb:b ∈ fp)(e:h.get? b=some o):(b,o) ∈ zfo fp h:=jM.mpr ⟨b,hb,by rw[e];rfl⟩
theorem ztk{fp:List Addr}{h:Heap}{p:Addr × Obj}(hp:p ∈ zfo fp h):p.1 ∈ fp/\h.get? p.1=some p.2:=by
 obtain⟨b,hb,e⟩:=jM.mp hp
 cases q:h.get? b with
 | none=>rw[q] at e;cases e
 | some o =>
   rw[q] at e
   have e':(b,o)=p:=Zy e
   subst e'
   exact⟨hb,q⟩
theorem Inv.pinned{pins:List (Addr × Obj)}{σ:St}{H:Hp}{s:Shared}{fp:List Addr}(I:Inv X pins σ H s)(hf:∀ b ∈ fp,FpOk X pins H b)(ho:∀ b ∈ fp,∃ o,s.heap.get? b=some o/\∀ v,o.data ≠ .cell v):Inv X (pins++zfo fp s.heap) σ H s :=
 I.pins_of λp hp=>(Q6.mp hp).elim (λz=>I.pin p (Qw _ z)) λz=>by
  obtain⟨hb,e⟩:=ztk z
  obtain⟨f0,f1,f2,_⟩:=hf p.1 hb
  obtain⟨o,e',d⟩:=ho p.1 hb
  rw[e] at e';cases e'
  exact⟨e,f0,f1,f2,d⟩
theorem Inv.unpinned{pins pl:List (Addr × Obj)}{σ:St}{H:Hp}{s:Shared}(I:Inv X (pins++pl) σ H s):Inv X pins σ H s:=I.pins_of λp hp=>I.pin p (Qw _ (Jm _ hp))
theorem z4g{iter:Expr}{body:List Stmt}{wi:TI}{g:TG}{tb:TS}{pos:Pos}(hp:PassesOwn (model X.prog X.w) X.A X.env X.xe)(hc:X.calm=true)(hi:PI X tg iter wi)(hg:PG X tg g)(hb:PSs X body tb)
 (hs:∀ x,foldedSetIterable iter X.env x=pure x:=by intro _;rfl):PS X (.For tg iter body [] pos) (tFor wi g tb):=by
 intro pins s σ H D I h
 refine wpAny_For (thn (hi pins s σ H _ I h) λv s1 h1=>thn h1 λitv s2 h2=>?_) hs
 obtain⟨it,fp,tn,J,H2,e,I2,T,st2,f2,W,⟨m0,w0⟩,turn⟩:=h2
 subst e
 -- what stays true of the iterator's objects through the loop
 have stat:∀ {H':Hp},(∀ b ∈ fp,H' b=none)->∀ b ∈ fp,FpOk X pins H' b:=λhn b hb=>⟨hn b hb,(f2 b hb).2⟩
 refine codeAny_forLoop_any (λn s'=>∃ i σ' H',Inv X pins σ' H' s'/\tn i s'.heap/\(∀ b ∈ fp,H' b=none)/\W i n σ' H') ?_ m0 ⟨0,σ,H2,I2,st2,λb hb=>(f2 b hb).1,w0⟩
 rintro n s3 ⟨i,σ3,H3,I3,st3,fr3,w3⟩
 rcases turn i n σ3 H3 w3 with ⟨stop,qn⟩|⟨go,N,hN,step⟩
 ·refine wpAny_passesOwn hp (thn (T.done X rfl rfl rfl hc i pins s3 σ3 H3 X.xe I3 (stat fr3) st3 stop) λr s4 ⟨hr,I4⟩=>?_)
  subst hr
  exact wpAny_execs_nil ⟨σ3,H3,I4,qn⟩
 ·refine wpAny_passesOwn hp (thn (T.item X rfl rfl rfl hc i pins s3 σ3 H3 X.xe I3 (stat fr3) st3 go) λr s4 ⟨u,hr,h4⟩=>?_)
  subst hr
  refine wpAny_passesOwn hp (thn h4 λ_ s5 ⟨x,H5,I5,r5,y5,st5,fr5⟩=>?_)
  have I5':=I5.pinned (stat fr5) (T.obj _ _ st5)
  refine wpAny_passesOwn hp (thn (hg _ s5 σ3 H5 x u _ I5' r5 (step x H5 y5)) λ_ s6 ⟨σ6,H6,I6,q6⟩=>?_)
  refine wpAny_passesOwn hp (thn (hb _ s6 σ6 H6 _ I6 q6) λf s7 q7=>?_)
  have again:∀ {σ7:St} {H7:Hp},Inv X (pins++zfo fp s5.heap) σ7 H7 s7->N σ7 H7->∃ m,m<n/\∃ i σ' H',Inv X pins σ' H' s7/\tn i s7.heap/\(∀ b ∈ fp,H' b=none)/\W i m σ' H':=λ{σ7 H7} I7 n7=>by
   obtain⟨m',hm,w7⟩:=hN σ7 H7 n7
   refine⟨m',hm,i+1,σ7,H7,I7.unpinned,T.keep _ _ _ st5 λb hb o e=>(I7.pin (b,o) (Qw _ (Qw _ (zco hb e)))).1,λb hb=>?_,w7⟩
   obtain⟨o,e,d⟩:=T.obj _ _ st5 b hb
   exact(I7.pin (b,o) (Qw _ (Qw _ (zco hb e)))).2.1
  cases f with
  | next=>obtain⟨σ7,H7,I7,n7⟩:=q7;exact again I7 n7
  | cont=>obtain⟨σ7,H7,I7,n7⟩:=q7;exact again I7 n7
  | brk=>obtain⟨σ7,H7,I7,q7⟩:=q7;exact⟨σ7,H7,I7.unpinned,q7⟩
  | ret v=>obtain⟨x7,σ7,H7,I7,r7,q7⟩:=q7;exact⟨x7,σ7,H7,I7.unpinned,r7,q7⟩
end
abbrev R2:=V->V->Hp->VK->Prop
def OpR(X:Cx)(f:Value->Value->Sem Value)(r:R2):Prop :=
 ∀ (pins:List (Addr × Obj)) (s:Shared) (σ:St) (H:Hp) (x y:V) (v u:Value) (Q:VK),Inv X pins σ H s->RelV x v->RelV y u->r x y H Q ->
   wpAny (model X.prog X.w) X.A (f v u) (EP X pins σ Q) X.xe s
def UnR(X:Cx)(f:Value->Sem Value)(r:V->Hp->VK->Prop):Prop :=
 ∀ (pins:List (Addr × Obj)) (s:Shared) (σ:St) (H:Hp) (x:V) (v:Value) (Q:VK),Inv X pins σ H s->RelV x v->r x H Q ->
   wpAny (model X.prog X.w) X.A (f v) (EP X pins σ Q) X.xe s
def CallR(X:Cx)(f:Value)(r:List V->Hp->VK->Prop):Prop :=
 ∀ (pins:List (Addr × Obj)) (s:Shared) (σ:St) (H:Hp) (xs:List V) (us:List Value) (Q:VK),Inv X pins σ H s->Vals xs us->r xs H Q ->
   wpAny (model X.prog X.w) X.A (call f us) (EP X pins σ Q) X.xe s
def tOp(r:R2)(ta tb:TE):TE:=λσ H Q=>ta σ H λx H1=>tb σ H1 λy H2=>r x y H2 Q
def tUn(r:V->Hp->VK->Prop)(ta:TE):TE:=λσ H Q=>ta σ H λx H1=>r x H1 Q
def rI(C:Int->Int->Prop)(g:Int->Int->V):R2:=λx y H Q=>∃ i j,x = .int i/\y = .int j/\C i j/\Q (g i j) H
def rI0(g:Int->Int->V):R2:=λx y H Q=>∃ i j,x = .int i/\y = .int j/\Q (g i j) H
def rU(g:Int->V):V->Hp->VK->Prop:=λx H Q=>∃ i,x = .int i/\Q (g i) H
section
variable {X : Cx} {a b c : Expr} {ta tb tc : TE} {pos : Pos}
theorem binT(ha:PE X a ta)(hb:PE X b tb){pins:List (Addr × Obj)}{s:Shared}{σ:St}{H:Hp}{R:V->V->Hp->Prop}(I:Inv X pins σ H s)
 (h:ta σ H λx H1=>tb σ H1 λy H2=>R x y H2) {Q:Value->Shared->Prop} {f:Value->Value->Sem Value}
 (hf:∀ v u s2 x y H2,Inv X pins σ H2 s2->RelV x v->RelV y u->R x y H2->wpAny (model X.prog X.w) X.A (f v u) Q X.xe s2) :
 wpAny (model X.prog X.w) X.A (eval a X.env) (λv s₁=>wpAny (model X.prog X.w) X.A (eval b X.env) (λu s₂=>wpAny (model X.prog X.w) X.A (f v u) Q X.xe s₂) X.xe s₁) X.xe s:=by
 refine thn (ha pins s σ H _ I h) λv s1 ⟨x,H1,I1,r1,q1⟩=>?_
 refine thn (hb pins s1 σ H1 _ I1 q1) λu s2 ⟨y,H2,I2,r2,q2⟩=>?_
 exact hf v u s2 x y H2 I2 r1 r2 q2
theorem zbf{op:Operator}{r:R2}(ho:OpR X (binaryOp op) r)(ha:PE X a ta)(hb:PE X b tb):PE X (.BinOp a op b pos) (tOp r ta tb):=by
 intro pins s σ H Q I h
 exact wpAny_BinOp (binT ha hb I h λv u s2 x y H2 I2 rx ry q=>ho pins s2 σ H2 x y v u Q I2 rx ry q)
theorem z4i{op:UnaryOp}{r:V->Hp->VK->Prop}(ho:UnR X (unaryOp op) r)(ha:PE X a ta):PE X (.UnaryOp op a pos) (tUn r ta):=by
 intro pins s σ H Q I h
 exact UnaryOp_ (thn (ha pins s σ H _ I h) λv s1 ⟨x,H1,I1,r1,q1⟩=>ho pins s1 σ H1 x v Q I1 r1 q1)
theorem opI{f:Value->Value->Sem Value}{C:Int->Int->Prop}{g:Int->Int->Int}
 (rule:∀ (i j:Int) (t u:Tok) (s:Shared) (Q:Value->Shared->Prop) (E:Value->Shared->Prop),C i j->Q (.int (g i j) s.toks) { s with toks:=s.toks+1 }->wpAny (model X.prog X.w) X.A (f (.int i t) (.int j u)) Q E s) :
 OpR X f (rI C λi j => .int (g i j)):=by
 intro pins s σ H x y v u Q I rx ry h
 obtain⟨i,j,rfl,rfl,hc,q⟩:=h
 obtain⟨t,rfl⟩:=rx
 obtain⟨t',rfl⟩:=ry
 exact rule i j t t' s _ _ hc ⟨.int (g i j),H,I.tok _,⟨_,rfl⟩,q⟩
theorem opI0{f:Value->Value->Sem Value}{g:Int->Int->Int}
 (rule:∀ (i j:Int) (t u:Tok) (s:Shared) (Q:Value->Shared->Prop) (E:Value->Shared->Prop),Q (.int (g i j) s.toks) { s with toks:=s.toks+1 }->wpAny (model X.prog X.w) X.A (f (.int i t) (.int j u)) Q E s) :
 OpR X f (rI0 λi j => .int (g i j)):=by
 intro pins s σ H x y v u Q I rx ry h
 obtain⟨i,j,rfl,rfl,q⟩:=h
 obtain⟨t,rfl⟩:=rx
 obtain⟨t',rfl⟩:=ry
 exact rule i j t t' s _ _ ⟨.int (g i j),H,I.tok _,⟨_,rfl⟩,q⟩
theorem opB0{f:Value->Value->Sem Value}{g:Int->Int->Bool}
 (rule:∀ (i j:Int) (t u:Tok) (s:Shared) (Q:Value->Shared->Prop) (E:Value->Shared->Prop),Q (.bool (g i j)) s->wpAny (model X.prog X.w) X.A (f (.int i t) (.int j u)) Q E s) :
 OpR X f (rI0 λi j => .bl (g i j)):=by
 intro pins s σ H x y v u Q I rx ry h
 obtain⟨i,j,rfl,rfl,q⟩:=h
 obtain⟨t,rfl⟩:=rx
 obtain⟨t',rfl⟩:=ry
 exact rule i j t t' s _ _ ⟨.bl (g i j),H,I,rfl,q⟩
def CDiv(i j:Int):Prop:=0<j/\j<1073741824
def CPow(i j:Int):Prop:=0<=j/\j<=1000000/\i.natAbs<2 ^ 64
def CMul(i j:Int):Prop:=(-(2 ^ 64)<i/\i<2 ^ 64)\/(-(2 ^ 64)<j/\j<2 ^ 64)
theorem CMul.ok{i j:Int}(h:CMul i j):IntMulOk i j:=by
 rcases h with ⟨h1,h2⟩|⟨h1,h2⟩
 ·exact .of_left (intBits_le_64 h1 h2)
 ·exact .of_right (intBits_le_64 h1 h2)
theorem op_add:OpR X (binaryOp .Add) (rI0 λi j => .int (i+j)):=opI0 λ_ _ _ _ _ _ _ q=>add_int q
theorem z0m:OpR X (binaryOp .Sub) (rI0 λi j => .int (i - j)):=opI0 λ_ _ _ _ _ _ _ q=>sub_int q
theorem op_mul:OpR X (binaryOp .Mult) (rI CMul λi j => .int (i * j)):=opI λ_ _ _ _ _ _ _ hc q=>mul_int q hc.ok
theorem zpa:OpR X (binaryOp .FloorDiv) (rI CDiv λi j => .int (i / j)):=opI λi j _ _ _ _ _ hc q=>by
 have h1:(0:Int)<j:=hc.1
 have h2:j<1073741824:=hc.2
 exact floordiv_int (by omega) (by rw[Int.fdiv_eq_ediv_of_nonneg i (by omega)];exact q) (.inl (PyProof.noPylong_small (by omega)))
theorem zdm:OpR X (binaryOp .Mod) (rI (λ_ j=>0<j) λi j => .int (i % j)):=opI λi j _ _ _ _ _ hc q=>by
 have h1:(0:Int)<j:=hc
 exact mod_int' (by omega) (by rw[Int.fmod_eq_emod_of_nonneg i (by omega)];exact q)
theorem z3f:OpR X (binaryOp .Pow) (rI CPow λi j => .int (i ^ j.toNat)):=opI λ_ _ _ _ _ _ _ hc q=>pow_int_small hc.1 hc.2.1 hc.2.2 q
theorem unI{f:Value->Sem Value}{g:Int->Int}
 (rule:∀ (i:Int) (t:Tok) (s:Shared) (Q:Value->Shared->Prop) (E:Value->Shared->Prop),Q (.int (g i) s.toks) { s with toks:=s.toks+1 }->wpAny (model X.prog X.w) X.A (f (.int i t)) Q E s) :
 UnR X f (rU λi => .int (g i)):=by
 intro pins s σ H x v Q I rx h
 obtain⟨i,rfl,q⟩:=h
 obtain⟨t,rfl⟩:=rx
 exact rule i t s _ _ ⟨.int (g i),H,I.tok _,⟨_,rfl⟩,q⟩
theorem z3b:UnR X (unaryOp .USub) (rU λi => .int (-i)):=unI λ_ _ _ _ _ q=>neg_int q
end
section
variable {X : Cx} {a b c : Expr} {ta tb tc : TE} {pos : Pos}
theorem zfq{pins:List (Addr × Obj)}{σ:St}{H:Hp}{s:Shared}{Q:VK}{k k':Bool}(I:Inv X pins σ H s)(q:Q (.bl k) H)(e:k=k'):EP X pins σ Q (.bool k') s:=by
 subst e
 exact⟨.bl k,H,I,rfl,q⟩
theorem zp7:OpR X (compareOp .Lt) (rI0 λi j => .bl (decide (i<j))):=opB0 λ_ _ _ _ _ _ _ q=>lt_int q
theorem zpp:OpR X (compareOp .LtE) (rI0 λi j => .bl (decide (i<=j))):=opB0 λ_ _ _ _ _ _ _ q=>le_int q
theorem zlj:OpR X (compareOp .Gt) (rI0 λi j => .bl (decide (j<i))):=opB0 λ_ _ _ _ _ _ _ q=>gt_int q
theorem zv8:OpR X (compareOp .GtE) (rI0 λi j => .bl (decide (j<=i))):=opB0 λ_ _ _ _ _ _ _ q=>ge_int q
theorem op_in_str:OpR X (compareOp .In) (λx y H Q=>∃ i j,x = .str i/\y = .str j/\Q (.bl (!(QE j i 0 j.length 1).isEmpty)) H):=by
 intro pins s σ H x y v u Q I rx ry h
 obtain⟨i,j,rfl,rfl,q⟩:=h
 obtain⟨t,rfl⟩:=rx
 obtain⟨t',rfl⟩:=ry
 exact in_str (zfq I q rfl)
theorem zmy:OpR X (compareOp .Is) (λx y H Q=>y = .non/\Q (.bl (decide (x = .non))) H):=by
 intro pins s σ H x y v u Q I rx ry h
 obtain⟨rfl,q⟩:=h
 cases ry
 refine is_none_gen (zfq I q ?_)
 cases x <;> first
  | (cases rx;rfl)
  | (obtain⟨t,rfl⟩:=rx;rfl)
theorem zow:OpR X (compareOp .IsNot) (λx y H Q=>y = .non/\Q (.bl (!decide (x = .non))) H):=by
 intro pins s σ H x y v u Q I rx ry h
 obtain⟨rfl,q⟩:=h
 cases ry
 refine isnot_none_gen (zfq I q ?_)
 cases x <;> first
  | (cases rx;rfl)
  | (obtain⟨t,rfl⟩:=rx;rfl)
theorem op_notin_str:OpR X (compareOp .NotIn) (λx y H Q=>∃ i j,x = .str i/\y = .str j/\Q (.bl (!(!(QE j i 0 j.length 1).isEmpty))) H):=by
 intro pins s σ H x y v u Q I rx ry h
 obtain⟨i,j,rfl,rfl,q⟩:=h
 obtain⟨t,rfl⟩:=rx
 obtain⟨t',rfl⟩:=ry
 exact notIn_str (zfq I q rfl)
theorem OpR.or{f:Value->Value->Sem Value}{r r':R2}(h:OpR X f r)(h':OpR X f r'):OpR X f (λx y H Q=>r x y H Q\/r' x y H Q):=by
 intro pins s σ H x y v u Q I rx ry q
 rcases q with q|q
 ·exact h pins s σ H x y v u Q I rx ry q
 ·exact h' pins s σ H x y v u Q I rx ry q
theorem zbm(b:Expr){op:CmpOp}(h:op ≠ .In:=by decide)(h2:op ≠ .NotIn:=by decide):behindInMarks op b=false:=by
 have e1:(op == CmpOp.In)=false:=by cases op <;> first|rfl|exact absurd rfl h
 have e2:(op == CmpOp.NotIn)=false:=by cases op <;> first|rfl|exact absurd rfl h2
 cases b <;> simp[behindInMarks,e1,e2]
theorem zxb{op:CmpOp}{r:R2}(ho:OpR X (compareOp op) r)(ha:PE X a ta)(hb:PE X b tb)(hm:behindInMarks op b=false):PE X (.Compare a [op] [b] pos) (tOp r ta tb):=by
 intro pins s σ H Q I h
 exact wpAny_Compare1 (binT ha hb I h λv u s2 x y H2 I2 rx ry q=>ho pins s2 σ H2 x y v u Q I2 rx ry q) hm
def zhz(t:TE):TT:=λσ H Q=>t σ H λx H'=>∃ k,x = .bl k/\Q k H'
theorem zeh{op:CmpOp}{r:R2}(ho:OpR X (compareOp op) r)(ha:PE X a ta)(hb:PE X b tb)(hm:behindInMarks op b=false):PT X (.Compare a [op] [b] pos) (zhz (tOp r ta tb)):=by
 intro pins s σ H Q I h
 refine wpAny_isTrue_Compare1 (thn (ha pins s σ H _ I h) λv s1 ⟨x,H1,I1,r1,q1⟩=>thn (hb pins s1 σ H1 _ I1 q1) λu s2 ⟨y,H2,I2,r2,q2⟩ =>
  thn (ho pins s2 σ H2 x y v u _ I2 r1 r2 q2) λc s3 ⟨z,H3,I3,r3,k,e,q3⟩=>?_) hm
 subst e
 cases r3
 exact wpAny_truthy_bool ⟨H3,I3,q3⟩
def zrq(r r':R2)(ta tb tc:TE):TE:=λσ H Q=>ta σ H λx H1=>tb σ H1 λy H2=>r x y H2 λz H3=>∃ k,z = .bl k /\
 (if k=true then tc σ H3 λw' H4=>r' y w' H4 Q else Q (.bl false) H3)
theorem zuw{op op':CmpOp}{r r':R2}(ho:OpR X (compareOp op) r)(ho':OpR X (compareOp op') r')(ha:PE X a ta)(hb:PE X b tb)(hc:PE X c tc)
 (hm:lastMarks [op,op'] [b,c]=false:=by with_unfolding_all rfl):PE X (.Compare a [op,op'] [b,c] pos) (zrq r r' ta tb tc):=by
 intro pins s σ H Q I h
 refine Compare_chain (thn (ha pins s σ H _ I h) λv s1 ⟨x,H1,I1,r1,q1⟩=>chain_link (thn (hb pins s1 σ H1 _ I1 q1) λu s2 ⟨y,H2,I2,r2,q2⟩ =>
  thn (ho pins s2 σ H2 x y v u _ I2 r1 r2 q2) λd s3 ⟨z,H3,I3,r3,k,e,q3⟩=>?_)) hm
 subst e
 cases r3
 refine wpAny_truthy_bool ?_
 cases k with
 | false=>exact ite_ff ⟨.bl false,H3,I3,rfl,q3⟩
 | true=>exact ite_tt (chain_last (thn (hc pins s3 σ H3 _ I3 q3) λw' s4 ⟨z',H4,I4,r4,q4⟩=>ho' pins s4 σ H4 y z' u w' Q I4 r2 r4 q4))
theorem zg8:(sizeLine:Nat)<2 ^ 63:=by rw[sizeLine_eq];decide
theorem op_add_str:OpR X (binaryOp .Add) (λx y H Q=>∃ i j,x = .str i/\y = .str j/\i.length+j.length<=sizeLine/\Q (.str (i++j)) H):=by
 intro pins s σ H x y v u Q I rx ry h
 obtain⟨i,j,rfl,rfl,hz,q⟩:=h
 obtain⟨t,rfl⟩:=rx
 obtain⟨t',rfl⟩:=ry
 exact add_str (λt' tk=>⟨.str (i++j),H,I.tok _,⟨_,rfl⟩,q⟩) hz
theorem ze7{x:V}{us:List Value}(r:Vals [x] us):∃ u,us = [u]/\RelV x u:=by
 cases r with
 | cons r1 r2=>cases r2;exact⟨_,rfl,r1⟩
theorem zr2:CallR X (.type "int") (λxs H Q=>(∃ i,xs = [.int i]/\Q (.int i) H)\/∃ k,xs = [.bl k]/\Q (.int (if k then 1 else 0)) H):=by
 intro pins s σ H xs us Q I r h
 rcases h with ⟨i,rfl,q⟩|⟨k,rfl,q⟩
 ·obtain⟨u,rfl,t,rfl⟩:=ze7 r
  exact call_int_int ⟨.int i,H,I,⟨_,rfl⟩,q⟩
 ·obtain⟨u,rfl,r1⟩:=ze7 r
  cases r1
  exact call_int_bool ⟨.int (if k then 1 else 0),H,I.tok _,⟨_,rfl⟩,q⟩
theorem zl3:CallR X (.type "str") (λxs H Q=>∃ i,xs = [.int i]/\i.natAbs.log2<1920/\Q (.str (toString i)) H):=by
 intro pins s σ H xs us Q I r h
 obtain⟨i,rfl,hz,q⟩:=h
 obtain⟨u,rfl,t,rfl⟩:=ze7 r
 exact PySem.P.str_of_int hz ⟨.str _,H,I.tok _,⟨_,rfl⟩,q⟩
def LenV(K:Qa)(x:V)(H:Hp)(n:Nat):Prop :=
 match x with
 | .str y=>y.length<=sizeLine/\n=y.length
 | .byt y=>y.size<=sizeLine/\n=y.size
 | .ref p=>(∃ xs,SqL K H p xs/\n=xs.length)\/∃ xs,SqT K H p xs/\n=xs.length
 | _=>False
theorem zfu:CallR X (.builtin "len") (λxs H Q=>∃ x n,xs = [x]/\LenV X.K x H n/\Q (.int n) H):=by
 intro pins s σ H xs us Q I r h
 obtain⟨x,n,rfl,e,q⟩:=h
 obtain⟨u,rfl,rx⟩:=ze7 r
 have hl:=zg8
 have hs:sizeLine=16777216:=sizeLine_eq
 cases x with
 | str y =>
   obtain⟨t,rfl⟩:=rx
   obtain⟨hy,e'⟩:y.length<=sizeLine/\n=y.length:=e
   subst e'
   exact len_str (by omega) ⟨.int _,H,I.tok _,⟨_,rfl⟩,q⟩
 | byt y =>
   obtain⟨t,rfl⟩:=rx
   obtain⟨hy,e'⟩:y.size<=sizeLine/\n=y.size:=e
   subst e'
   exact PySem.W.len_bytes (by omega) ⟨.int _,H,I.tok _,⟨_,rfl⟩,q⟩
 | ref p =>
   cases rx
   have e':(∃ xs,SqL X.K H p xs/\n=xs.length)\/∃ xs,SqT X.K H p xs/\n=xs.length:=e
   rcases e' with ⟨xs,hx,e'⟩|⟨xs,hx,e'⟩
   ·subst e'
    obtain⟨its,r',pl,hz⟩:=I.list hx
    have hlen:=r'.length
    exact Calls.call_len_list pl.isList (by simp only[Qx];omega) ⟨.int xs.length,H,I.tok _,⟨_,by simp only[Qx];rw[hlen]⟩,q⟩
   ·subst e'
    obtain⟨its,r',pl,hz⟩:=I.tuple hx
    have hlen:=r'.length
    exact len_tuple pl (by simp only[Qx];omega) ⟨.int xs.length,H,I.tok _,⟨_,by simp only[Qx];rw[hlen]⟩,q⟩
 | _=>exact(show False from e).elim
end
structure ObjM (h:Heap) (x dx C:Addr) (mA:Str->Option Value):Prop where
 obj:h.get? x=some (jt C dx)
 ns:h.Ns1 dx mA
 ne:dx ≠ x
theorem zk2{h:Heap}{dx:Addr}{mA:Str->Option Value}(n:h.Ns1 dx mA):∃ od,h.get? dx=some od/\∀ name,Ye name od=some (mA name):=by
 obtain⟨o,es,ep,ho,hd,hk,_,hm⟩:=n
 refine⟨o,ho,λname=>?_⟩
 have e:=hm name
 unfold nsFind findBy at e
 rw[<- Array.find?_toList] at e
 unfold Ye
 rw[hd]
 dsimp only
 split
 ·rename_i y q
  rw[q] at e
  exact congrArg some e
 ·rename_i q
  rw[q] at e
  have a:es.toList.any (·.refKey)=false:=by
   rw[List.any_eq_false]
   intro y hy
   obtain⟨z,t,hkey⟩:=hk y (j3.mp hy)
   simp[DictEntry.refKey,hkey]
  have a':¬ es.toList.any (·.refKey)=true:=by rw[a];exact Qn
  rw[if_neg a']
  exact congrArg some e
theorem ObjM.look{h:Heap}{x dx C:Addr}{mA:Str->Option Value}(I:ObjM h x dx C mA):∃ od,JG h x (jt C dx) C (some od)/\∀ name,Ye name od=some (mA name) :=
 let ⟨od,ho,hl⟩:=zk2 I.ns
 ⟨od,⟨I.obj,rfl,rfl,ho⟩,hl⟩
def putF(f:Str)(v:V):List (Str × V)->List (Str × V)
 | [] => [(f,v)]
 | (g,x)::r=>if g=f then(g,v)::r else(g,x)::putF f v r
theorem zh9(f g:Str)(v:V):∀ fs:List (Str × V),(putF f v fs).lookup g=if g=f then some v else fs.lookup g
 | []=>by
   show J2 g [(f,v)]=_
   by_cases h:g=f
   ·have hb:(g == f)=true:=beq_iff_eq.mpr h
    simp only[J2,hb,if_pos h]
   ·have hb:(g == f)=false:=beq_eq_false_iff_ne.mpr h
    simp only[J2,hb,if_neg h]
 | (k,x)::r=>by
   have ih:=zh9 f g v r
   rw[show putF f v ((k,x)::r)=(if k=f then(k,v)::r else(k,x)::putF f v r) from rfl]
   by_cases hk:k=f
   ·rw[if_pos hk]
    by_cases h:g=k
    ·have hb:(g == k)=true:=beq_iff_eq.mpr h
     simp only[J2,hb,if_pos (h.trans hk)]
    ·have hb:(g == k)=false:=beq_eq_false_iff_ne.mpr h
     simp only[J2,hb,if_neg (λe:g=f=>h (e.trans hk.symm))]
   ·rw[if_neg hk]
    by_cases h:g=k
    ·have hb:(g == k)=true:=beq_iff_eq.mpr h
     simp only[J2,hb,if_neg (λe:g=f=>hk (h.symm.trans e))]
    ·have hb:(g == k)=false:=beq_eq_false_iff_ne.mpr h
     simp only[J2,hb]
     exact ih
section
variable {P : Program} {w : World} {H H' : Hp} {h h' : Heap} {a C dx : Addr} {fs fs' : List (Str × V)}
theorem zza(hok:HOk P w H h)(e:H a=some (.ins C dx fs)):∃ mA,ObjM h a dx C mA/\(∀ f,RelO (fs.lookup f) (mA f))/\zf mA (fs.map (·.1))/\fs.length<=1000/\H dx=some (.own a):=by
 obtain⟨d,z,ne,ob,mA,n,r,q⟩:=(show ObjOk P w H h a (.ins C dx fs) from hok a _ e)
 exact⟨mA,⟨ob,n,ne⟩,r,q,z,d⟩
end
structure Cls (K:Qa) (C:Addr):Prop where
 pg:qq K C Str.empty=true
 hd:YW K C=true
 po:PySem.W.plainOver K C=true
 sa:QQ K (.ref C) "__setattr__" = some (some (.builtin "object.__setattr__"))
theorem Cls.get{K:Qa}{C:Addr}(c:Cls K C)(f:Str):qq K C f=true:=c.pg
section
variable {X : Cx} {pins : List (Addr × Obj)} {σ : St} {H : Hp} {s : Shared} {a C dx : Addr} {fs : List (Str × V)} {f : Str} {v : V} {A : Around} {E : Value → Shared → Prop}
theorem zz2{prog:Program}{w:World}{env:Env}{e:Expr}{f:Str}{pos:Pos}{s:Shared}{Q:Value->Shared->Prop}(hb:attributeBase e f env (eval e env)=eval e env)
 (h:wpAny (model prog w) A (eval e env) (λo s₁=>wpAny (model prog w) A (getAttr o f true) Q E s₁) E s):wpAny (model prog w) A (eval (.Attribute e f pos) env) Q E s :=
 Attribute_any_ h (by rw[arm_eval_Attribute,hb])
end
section
variable {X : Cx} {pins : List (Addr × Obj)} {σ : St} {H : Hp} {s : Shared} {A : Around} {E : Value → Shared → Prop} {Q : Value → Shared → Prop} {c : Value} {b : Bool}
inductive TyOf (K:Qa) (H:Hp):V->Value->Prop where
 | non:TyOf K H .non (.type "NoneType")
 | bl (x:Bool):TyOf K H (.bl x) (.type "bool")
 | int (i:Int):TyOf K H (.int i) (.type "int")
 | str (x:Str):TyOf K H (.str x) (.type "str")
 | flt (x:UInt64):TyOf K H (.flt x) (.type "float")
 | lst {a:Addr} {xs:List V} (e:H a=some (.lst xs)):TyOf K H (.ref a) (.type "list")
 | frz {a:Addr} {o:Obj} {xs:List V} (e:H a=some (.frz o (.lst xs))):TyOf K H (.ref a) (.type "list")
 | tup {a:Addr} {xs:List V} (e:H a=some (.tup xs)):TyOf K H (.ref a) (.type "tuple")
 | dK {a:Addr} {kvs:List (Key × V)} (e:H a=some (.dK kvs)):TyOf K H (.ref a) (.type "dict")
 | dT {a:Addr} {kvs:List (List Key × V)} (e:H a=some (.dT kvs)):TyOf K H (.ref a) (.type "dict")
 | ins {a C dx:Addr} {fs:List (Str × V)} (e:H a=some (.ins C dx fs)) (cl:Cls K C) (ha:QQ K (.ref C) "__class__" = some (some (.builtin "object.__class__")))
  (hn:YX K (.builtin "object.__class__") "__get__" = some (some (.builtin "getset_descriptor.__get__"))) (htk:ju K (.builtin "object.__class__")=some true)
  (hm:QW K C (.type "object")=some true):TyOf K H (.ref a) (.ref C)
theorem zdz{x:V}{u t:Value}(I:Inv X pins σ H s)(rx:RelV x u)(ty:TyOf X.K H x t)(e:Zi X.K t c=some b)(h:∀ tk,Q (.bool b) { s with toks:=tk }) :
 wpAny (model X.prog X.w) A (call (.builtin "isinstance") [u,c]) Q E s:=by
 cases ty with
 | non=>cases (show u=Zh from rx);exact Zt PySem.W.kitx_none I.kIn jn e (λz=>nomatch z) h
 | bl y=>cases (show u=Jr y from rx);exact Zt PySem.W.kitx_bool I.kIn jn e (λz=>nomatch z) h
 | int i=>obtain⟨t,q⟩:=(show ∃ t,u=jE i t from rx);cases q;exact Zt PySem.W.kitx_int I.kIn jn e (λz=>nomatch z) h
 | str y=>obtain⟨t,q⟩:=(show ∃ t,u=Yp y t from rx);cases q;exact Zt PySem.W.kitx_str I.kIn jn e (λz=>nomatch z) h
 | flt y=>obtain⟨t,q⟩:=(show ∃ t,u=Value.float y t from rx);cases q;exact Zt PySem.W.kitx_float I.kIn jn e (λz=>nomatch z) h
 | @lst a xs ea =>
   cases (show u=QC a from rx)
   obtain⟨_,_,n,_,h1⟩:=(show ObjOk X.prog X.w H s.heap a (.lst xs) from I.hok a _ ea)
   exact Zt jX I.kIn ⟨_,h1,rfl⟩ e (λz=>nomatch z) h
 | @frz a ob xs ea =>
   cases (show u=QC a from rx)
   obtain⟨_,_,_,n,_,h1⟩:=(show ObjOk X.prog X.w H s.heap a (.frz ob (.lst xs)) from I.hok a _ ea)
   exact Zt jX I.kIn ⟨_,h1,rfl⟩ e (λz=>nomatch z) h
 | @tup a xs ea =>
   cases (show u=QC a from rx)
   obtain⟨_,_,_,p⟩:=(show ObjOk X.prog X.w H s.heap a (.tup xs) from I.hok a _ ea)
   obtain⟨o,h1,h2,_⟩:=p
   exact Zt jN I.kIn ⟨o,h1,h2⟩ e (λz=>nomatch z) h
 | @dK a kvs ea =>
   cases (show u=QC a from rx)
   obtain⟨_,_,vs,_,p⟩:=(show ObjOk X.prog X.w H s.heap a (.dK kvs) from I.hok a _ ea)
   obtain⟨o,es,ep,h1,h2,_⟩:=p
   exact Zt jY I.kIn ⟨o,h1,h2.1⟩ e (λz=>nomatch z) h
 | @dT a kvs ea =>
   cases (show u=QC a from rx)
   obtain⟨_,_,xs,_,o,es,ep,h1,h2,_⟩:=(show ObjOk X.prog X.w H s.heap a (.dT kvs) from I.hok a _ ea)
   exact Zt jY I.kIn ⟨o,h1,h2.1⟩ e (λz=>nomatch z) h
 | @ins a C dx fs ea cl ha hn htk hm =>
   cases (show u=QC a from rx)
   obtain⟨mA,O,_⟩:=zza I.hok ea
   obtain⟨od,J,_⟩:=O.look
   exact Zt (PySem.W.kitx_own (cl.get _) cl.hd ha hn htk hm) I.kIn J e (λz=>nomatch z) h
end
structure Room (k:Nat) (A:Around):Prop where
 hd:A.handled=none
 dp:A.depth+3 * k+5<recursionLimit
 un:A.units+16 * k+200<cLine
 gd:A.guards=some []
theorem Room.mono{j k:Nat}{A:Around}(r:Room k A)(h:j<=k):Room j A:=⟨r.hd,by have:=r.dp;omega,by have:=r.un;omega,r.gd⟩
theorem Room.deeper{k:Nat}{A:Around}(r:Room (k+1) A)(env:Env):Room k (A.deeper env) :=
 ⟨r.hd,by have:=r.dp;show A.depth+1+3 * k+5<_;omega,by have:=r.un;show A.units+3+16 * k+200<_;omega,r.gd⟩
theorem zqb{A:Around}{C:Addr}{us:List Value}{kw:List (Str × Value)}:(A.under (.builtin "type.__call__" ⟨.ref C::us,kw⟩)).depth=A.depth+1:=by
 first|rfl|simp[jo,Code.weight,Code.isCreation,Code.isGuard,Code.isCaller,Code.frames,jZ,guardIds]
theorem zqh{A:Around}{C:Addr}{us:List Value}{kw:List (Str × Value)}:(A.under (.builtin "type.__call__" ⟨.ref C::us,kw⟩)).units=A.units+1:=by
 first|rfl|simp[jo,Code.cUnits,Code.frames,jZ]
theorem Room.make{k:Nat}{A:Around}(r:Room (k+1) A)(C:Addr)(us:List Value)(kw:List (Str × Value)):Room k (A.under (.builtin "type.__call__" ⟨.ref C::us,kw⟩)) :=
 ⟨r.hd,by have:=r.dp;rw[zqb];omega,by have:=r.un;rw[zqh];omega,by first|exact r.gd|(simpa[jo,Code.isGuard,guardIds] using r.gd)⟩
theorem Room.depth{k:Nat}{A:Around}(r:Room k A):A.depth<recursionLimit:=by have:=r.dp;omega
theorem Room.units{k:Nat}{A:Around}(r:Room k A):A.units+64<cLine:=by have:=r.un;omega
def tNil:TA:=λ_ H Q=>Q [] H
def zbu(ta:TE)(tr:TA):TA:=λσ H Q=>ta σ H λx H1=>tr σ H1 λxs H2=>Q (x::xs) H2
section
variable {X : Cx} {e : Expr} {es : List Expr} {te : TE} {t : TA} {pos : Pos}
theorem zcl:PA X [] tNil:=λ_ _ _ _ H Q I h=>ZU ⟨[],H,I,.nil,h⟩
theorem zbo(ha:PE X e te)(hr:PA X es t)(hs:starEach (e::es) X.env=(false,eval e X.env)::starEach es X.env:=by rfl):PA X (e::es) (zbu te t):=by
 intro pos pins s σ H Q I h
 rw[hs]
 show wpAny _ _ (spliced ((false,eval e X.env)::backTo pos (starEach es X.env))) _ _ s
 refine Zw (thn (ha pins s σ H _ I h) λu s1 ⟨x,H1,I1,r1,q1⟩=>?_)
 exact thn (hr pos pins s1 σ H1 _ I1 q1) λus s2 ⟨xs,H2,I2,r2,q2⟩=>⟨x::xs,H2,I2,.cons r1 r2,q2⟩
def tTup(t:TA):TE:=λσ H Q=>t σ H λxs H1=>xs.length<=sizeLine/\∀ p,H1 p=none->Q (.ref p) (upd H1 p (.tup xs))
def tLst(t:TA):TE:=λσ H Q=>t σ H λxs H1=>xs.length<=sizeLine/\∀ p,H1 p=none->Q (.ref p) (upd H1 p (.lst xs))
theorem zte{x1}(h:PA X es t):PE X (.Tuple es x1 pos) (tTup t):=by
 intro pins s σ H Q I hq
 refine wpAny_Tuple_spliced (thn (h pos pins s σ H _ I hq) λus s1 ⟨xs,H1,I1,r,z,q⟩=>⟨by rw[<- r.length];exact z,?_⟩)
 have hf:H1 s1.heap.objs.size=none:=I1.hok.fresh (Qo _)
 refine⟨.ref s1.heap.objs.size,upd H1 s1.heap.objs.size (.tup xs),I1.laid (t':=s1.toks) (λb u e=>Qc _ e) (Qo _) ?_,rfl,q _ hf⟩
 exact⟨z,us,r,⟨_,Qq _ rfl,rfl,_,rfl⟩⟩
theorem zta(h:PA X es t):PE X (.List es pos) (tLst t):=by
 intro pins s σ H Q I hq
 refine wpAny_List_spliced (thn (h pos pins s σ H _ I hq) λus s1 ⟨xs,H1,I1,r,z,q⟩=>⟨by rw[<- r.length];exact z,?_⟩)
 have hf:H1 s1.heap.objs.size=none:=I1.hok.fresh (Qo _)
 refine⟨.ref s1.heap.objs.size,upd H1 s1.heap.objs.size (.lst xs),I1.laid (t':=s1.toks) (λb u e=>Qc _ e) (Qo _) ?_,rfl,q _ hf⟩
 exact⟨z,us,0,r,Qq _ rfl⟩
end
abbrev Sp:=List V->Hp->VK->XK->Prop
abbrev CXT:=List Env->Hp->Shared->XK->Value->Shared->Prop
structure Env0 (P:Program) (w:World) (K:Qa) (mg:Str->Option Value) (base:Heap) (A:Around) (outer:List Env) (s:Shared) (H:Hp):Prop where
 frames:A.frames=some outer
 mod:Mod K mg base
 bs:∀ b o,base.get? b=some o->s.heap.get? b=some o/\H b=none
 bsz:base.objs.size<=s.heap.objs.size
 funs:s.heap.FunFrames base outer
 frf:∀ b ∈ frs outer,H b=none
 hok:HOk P w H s.heap
 bare:AllBare s.gens
def CE(outer:List Env)(P:Program)(w:World)(H:Hp)(s:Shared)(Q:VK)(u:Value)(s':Shared):Prop :=
 ∃ v H',s'.os=s.os/\AllBare s'.gens/\Un (frs outer) [] H H' s.heap s'.heap/\HOk P w H' s'.heap/\RelV v u/\Q v H'
def CR(CX:CXT)(outer:List Env)(P:Program)(w:World)(H:Hp)(s:Shared)(Q:VK)(E:XK)(r:Result)(s':Shared):Prop :=
 match r with
 | .ok (.ret u)=>CE outer P w H s Q u s'
 | .ok _=>False
 | .error e=>CX outer H s E e s'
structure FnOk (P:Program) (w:World) (K:Qa) (mg:Str->Option Value) (base:Heap) (CX:CXT) (k:Nat) (f:Addr) (fd:FuncData) (ps:List Str) (sp:Sp):Prop where
 len:∀ vs H Q E,sp vs H Q E->vs.length=ps.length
 run:∀ (A:Around) (outer:List Env) (s:Shared) (H:Hp) (args:Args) (us:List Value) (vs:List V) (Q:VK) (E:XK),Room k A->Env0 P w K mg base A outer s H->BindsTo s fd args (ps.zip us)->Vals vs us->sp vs H Q E ->
  codeAny (model P w) A (.call (.ref f) args) (CR CX outer P w H s Q E) s
theorem FnOk.mono{P:Program}{w:World}{K:Qa}{mg:Str->Option Value}{base:Heap}{CX:CXT}{j k:Nat}{f:Addr}{fd:FuncData}{ps:List Str}{sp:Sp}(F:FnOk P w K mg base CX j f fd ps sp)(h:j<=k) :
 FnOk P w K mg base CX k f fd ps sp:=⟨F.len,λA outer s H args us vs Q E hr=>F.run A outer s H args us vs Q E (hr.mono h)⟩
theorem Env0.make{P:Program}{w:World}{K:Qa}{mg:Str->Option Value}{base:Heap}{A:Around}{outer:List Env}{s:Shared}{H:Hp}(e:Env0 P w K mg base A outer s H)(C:Addr)(us:List Value)(kw:List (Str × Value)) :
 Env0 P w K mg base (A.under (.builtin "type.__call__" ⟨.ref C::us,kw⟩)) outer s H:=⟨by first|exact e.frames|(simpa[jo,Code.envs,jZ,pushEnvs] using e.frames),e.mod,e.bs,e.bsz,e.funs,e.frf,e.hok,e.bare⟩
section
variable {X : Cx} {pins : List (Addr × Obj)} {σ : St} {H : Hp} {s s' : Shared}
theorem Inv.env0(I:Inv X pins σ H s):Env0 X.prog X.w X.K X.mg X.base X.A X.stack s H :=
 ⟨I.ok.frames,I.ok.mod,I.bs,Q4 I.ok.bsz I.sz,I.stack,I.stkFree,I.hok,I.bare⟩
theorem Inv.after{Q:VK}{u:Value}(I:Inv X pins σ H s)(h:CE X.stack X.prog X.w H s Q u s'):EP X pins σ Q u s':=by
 obtain⟨v,H',os,bare,un,hok,r,q⟩:=h
 obtain⟨hh,g,d,t,os'⟩:=s'
 obtain rfl:os'=s.os:=os
 exact⟨v,H',I.call (h':=hh) (g':=g) (d':=d) (t':=t) (ch := []) un hok bare (λb z=>absurd z (by simp)),r,q⟩
end
def ze0(sp:Sp)(dvs:List V)(E:XK)(t:TA):TE:=λσ H Q=>t σ H λvs H1=>sp (vs++dvs) H1 Q E
def Binds(K:Qa)(fd:FuncData)(ps:List Str)(ds:List Value):Prop :=
 ∀ (s:Shared) (us:List Value),K.In s.heap->(us++ds).length=ps.length->BindsTo s fd ⟨us,[]⟩ (ps.zip (us++ds))
theorem Binds.all{K:Qa}{fd:FuncData}{ps:List Str}(h:∀ us:List Value,us.length=ps.length->bindArgs fd ⟨us,[]⟩=pure (ps.zip us)):Binds K fd ps []:=λs us _ hl=>by
 rw[Z8] at hl ⊢
 exact .of_eq (h us hl)
def zmo(CX:CXT)(X:Cx)(E:XK):Prop:=∀ (pins:List (Addr × Obj)) (σ:St) (H:Hp) (s:Shared) (e:Value) (s':Shared),Inv X pins σ H s->CX X.stack H s E e s'->X.xe e s'
section
variable {X : Cx} {CX : CXT} {k : Nat} {f C : Addr} {fd : FuncData} {ps : List Str} {sp : Sp} {dvs : List V} {ds : List Value} {E : XK} {x m : Str} {p pos apos : Pos} {e o : Expr} {es : List Expr} {ta : TE} {t : TA}
theorem z2l{pins:List (Addr × Obj)}{σ:St}{H:Hp}{s:Shared}{Q:VK}{us:List Value}{vs:List V}(F:FnOk X.prog X.w X.K X.mg X.base CX k f fd ps sp)(hr:Room k X.A)(hb:Binds X.K fd ps ds)(hd:Vals dvs ds)(hx:zmo CX X E)
 (I:Inv X pins σ H s) (r:Vals vs us) (h:sp (vs++dvs) H Q E):wpAny (model X.prog X.w) X.A (call (.ref f) us) (EP X pins σ Q) X.xe s:=by
 have r2:Vals (vs++dvs) (us++ds):=r.append hd
 have hl:(us++ds).length=ps.length:=by rw[<- r2.length];exact F.len _ _ _ _ h
 refine wpAny_call (codeAny_mono (F.run X.A X.stack s H ⟨us,[]⟩ (us++ds) (vs++dvs) Q E hr I.env0 (hb s us I.kIn hl) r2 h) λr s' hq=>?_)
 cases r with
 | error e=>exact hx pins σ H s e s' I hq
 | ok fl =>
   cases fl with
   | ret u=>exact I.after hq
   | next=>exact ZF hq
   | brk=>exact ZF hq
   | cont=>exact ZF hq
theorem zoe(F:FnOk X.prog X.w X.K X.mg X.base CX k f fd ps sp)(hr:Room k X.A)(hg:Gl X x)(hm:X.mg x=some (.ref f))(hk:ZB X.K (.ref f)=true)(hb:Binds X.K fd ps ds)(hd:Vals dvs ds)(hx:zmo CX X E)
 (ha:PA X (e::es) t) (hdb:(x == ("__debug__" : Str))=false:=by decide) (he:starEach (e::es) X.env=(false,eval e X.env)::starEach es X.env:=by rfl) (hpl:(backTo pos (starEach es X.env)).any (·.1)=false:=by rfl) :
 PE X (.Call (.Name x p) (e::es) [] pos) (ze0 sp dvs E t):=by
 intro pins s σ H Q I h
 refine wpAny_Call_Name_kw (zej I hg hm ?_ hdb)
 refine YE (h₀:=X.base) I.ok.mod.kin hk (thn (ha pos pins s σ H _ I h) λus s1 ⟨vs,H1,I1,r,q⟩=>⟨I1.kIn,?_⟩) he hpl
 exact z2l F hr hb hd hx I1 r q
end
structure FnScope (N P:List Str) (sc:Scope):Prop where
 kind:sc.kind = .function
 co:sc.isCoroutine=false
 gen:sc.isGenerator=false
 nd:N.Nodup
 pre:N.take P.length=P
 par:∀ x ∈ P,sc.names.lookup x=some .local\/sc.names.lookup x=some .cell
 nofree:∀ y ∈ sc.names,y.2 ≠ .free
theorem zlb{kindOf:Str->Option NameKind}{x:Str}:∀ {binds:List (Str × Value)} {m:Str->Option Value},(∀ v,(x,v) ∉ binds)->bindL kindOf binds m x=m x
 | [],_,_=>rfl
 | (n,v)::r,m,h=>by
   unfold bindL
   rw[zlb λw hw=>h w (Qe _ hw)]
   split
   ·have:x ≠ n:=by rintro rfl;exact h v Qj
    simp[this]
   ·rfl
theorem zld{kindOf:Str->Option NameKind}{x:Str}:∀ {binds:List (Str × Value)} {m:Str->Option Value},(∀ v,(x,v) ∉ binds)->bindC kindOf binds m x=m x
 | [],_,_=>rfl
 | (n,v)::r,m,h=>by
   unfold bindC
   rw[zld λw hw=>h w (Qe _ hw)]
   split
   ·rfl
   ·have:x ≠ n:=by rintro rfl;exact h v Qj
    simp[this]
theorem zkw{kindOf:Str->Option NameKind}{x:Str}{v:Value}:∀ {P:List Str} {vs:List Value} {i:Nat} {m:Str->Option Value},P.Nodup->P[i]? = some x->vs[i]? = some v->kindOf x=some .local ->
 bindL kindOf (P.zip vs) m x=some v
 | [],_,_,_,_,h,_,_=>by simp at h
 | _::_,[],_,_,_,_,h,_=>by simp at h
 | p::P,w::vs,0,m,nd,h1,h2,hk=>by
   simp at h1 h2;subst h1;subst h2
   show bindL kindOf ((p,w)::P.zip vs) m p=_
   unfold bindL
   rw[zlb λv hv=>(Jk.mp nd).1 (JC hv).1,if_pos hk]
   simp
 | p::P,w::vs,i+1,m,nd,h1,h2,hk=>by
   show bindL kindOf ((p,w)::P.zip vs) m x=_
   unfold bindL
   exact zkw (i:=i) (Jk.mp nd).2 (by simpa using h1) (by simpa using h2) hk
theorem zky{kindOf:Str->Option NameKind}{x:Str}{v:Value}:∀ {P:List Str} {vs:List Value} {i:Nat} {m:Str->Option Value},P.Nodup->P[i]? = some x->vs[i]? = some v->kindOf x ≠ some .local ->
 bindC kindOf (P.zip vs) m x=some v
 | [],_,_,_,_,h,_,_=>by simp at h
 | _::_,[],_,_,_,_,h,_=>by simp at h
 | p::P,w::vs,0,m,nd,h1,h2,hk=>by
   simp at h1 h2;subst h1;subst h2
   show bindC kindOf ((p,w)::P.zip vs) m p=_
   unfold bindC
   rw[zld λv hv=>(Jk.mp nd).1 (JC hv).1,if_neg hk]
   simp
 | p::P,w::vs,i+1,m,nd,h1,h2,hk=>by
   show bindC kindOf ((p,w)::P.zip vs) m x=_
   unfold bindC
   exact zky (i:=i) (Jk.mp nd).2 (by simpa using h1) (by simpa using h2) hk
def start(N:List Str)(vs:List V):St:=vs.map some++Qf (N.length - vs.length) none
def cxOf(CX:CXT)(P:Program)(w:World)(K:Qa)(mg:Str->Option Value)(base:Heap)(N:List Str)(qual:Str)(scope:Scope)(f:Addr)(cd:Value)(A:Around)(outer:List Env)(s:Shared)(H:Hp)(E:XK):Cx where
 prog:=P
 w:=w
 K:=K
 mg:=mg
 base:=base
 A:=A.deeper (envOfC qual scope s.heap.objs.size f cd)
 N:=N
 s₀:=s
 H₀:=H
 env:=envOfC qual scope s.heap.objs.size f cd
 outer:=outer
 stack:=envOfC qual scope s.heap.objs.size f cd::outer
 ex := []
 calm:=true
 fn:=λ_=>true
 pn := []
 xe:=λe s'=>wpAny (model P w) (A.deeper (envOfC qual scope s.heap.objs.size f cd)) (leaving (envOfC qual scope s.heap.objs.size f cd) e) (λ_ s''=>CX outer H s E e s'') (λe' s''=>CX outer H s E e' s'') s'
theorem zm6{sc:Scope}{n:Nat}{x:Str}(h:sc.names.lookup x=some .cell):∃ c,(cellsFrom n sc.names []).lookup x=some c:=by
 have q:=Yf sc.names n [] (.inl h)
 exact JR.mp q
theorem zst{CX:CXT}{P:Program}{w:World}{K:Qa}{mg:Str->Option Value}{base:Heap}{N ps:List Str}{qual:Str}{scope:Scope}{f:Addr}{cd:Value}{A:Around}{outer:List Env}{s s1:Shared}{H:Hp}{E:XK}{us:List Value}{vs:List V}
 (S:FnScope N ps scope) (hd:A.handled=none) (e0:Env0 P w K mg base A outer s H) (hl:vs.length=ps.length) (r:Vals vs us)
 (x:InCallC s s.heap.objs.size (bindL (envOfC qual scope s.heap.objs.size f cd).kindOf (ps.zip us) λ_=>none) (cellsFrom (s.heap.objs.size+1) scope.names []) (bindC (envOfC qual scope s.heap.objs.size f cd).kindOf (ps.zip us) λ_=>none) s1) :
 Inv (cxOf CX P w K mg base N qual scope f cd A outer s H E) [] (start N vs) H s1:=by
 have hpl:ps.length<=N.length:=by have:=congrArg List.length S.pre;rw[Qz] at this;omega
 obtain⟨h1,tk,rfl,hk⟩:=x.done
 have noA:∀ b:Addr,b ∉ (cxOf CX P w K mg base N qual scope f cd A outer s H E).ex:=λb z=>absurd (show b ∈ ([]:List Addr) from z) (by simp)
 refine⟨⟨e0.mod,S.kind,rfl,rfl,Qo _,λy z c h1 h2=>?_,λy hy=>?_,λy c _ h=>?_,λ_=>hd,Around.frames_deeper e0.frames,.inr ⟨rfl,rfl⟩,λb z=>absurd z (noA b),e0.bs,e0.bsz,λb _ _=>noA b,λb z=>absurd z (noA b),e0.funs,e0.frf⟩,
  rfl,e0.bare,Un.kept hk,⟨_,x.toInCall.ns,λi y v h1 h2 h3=>?_⟩,λy c h=>⟨_,x.cell y c h⟩,e0.hok.fresh (Qo _),λy c h=>?_,λp hp=>absurd (show p ∈ ([]:List (Addr × Obj)) from hp) (by simp),e0.hok.kept hk,?_⟩
 ·exact name_of_addr x.apart (Z0 h1) (Z0 h2)
 ·have hy:scope.names.lookup y=some .cell\/scope.names.lookup y=some .free:=hy
  rcases hy with hy|hy
  ·exact zm6 hy
  ·exact absurd rfl (S.nofree _ (Z0 hy))
 ·exact Yd (x.above y c (Z0 h))
 ·have hi:i<vs.length:=by
   unfold start at h2
   by_cases hi:i<vs.length
   ·exact hi
   ·rw[Z6 (by simpa using hi)] at h2
    rw[Z4] at h2
    split at h2 <;> cases h2
  have ha:vs[i]? = some v:=by
   unfold start at h2
   rw[QU (by simpa using hi),Qy] at h2
   cases e:vs[i]? with
   | none=>rw[e] at h2;cases h2
   | some a=>rw[e] at h2;cases h2;rfl
  obtain⟨u,hu,rv⟩:=r.get ha
  have hp:ps[i]? = some y:=by
   rw[<- S.pre,List.getElem?_take_of_lt (by omega)];exact h1
  have ndP:ps.Nodup:=by rw[<- S.pre];exact S.nd.sublist (List.take_sublist _ _)
  refine⟨u,rv,?_⟩
  rcases S.par y (Zn hp) with k|k
  ·exact .inl ⟨k,zkw ndP hp hu k⟩
  ·obtain⟨c,e⟩:=zm6 (n:=s.heap.objs.size+1) k
   refine .inr ⟨.inl k,c,e,?_⟩
   have q:=x.cell y c e
   rw[zky ndP hp hu (by show scope.names.lookup y ≠ _;rw[k];decide)] at q
   exact q
 ·exact e0.hok.fresh (Yd (x.above y c (Z0 h)))
 ·unfold start
  show _=N.length
  rw[Qg,Qb,QN]
  omega
theorem zqn{CX:CXT}{P:Program}{w:World}{K:Qa}{mg:Str->Option Value}{base:Heap}{k:Nat}{f:Addr}{name qual:Str}{params:Arguments}{body:List Stmt}{scope:Scope}{dV kV doc pm cdv ct oc:Value}{an od:Option Addr}
 {osl:Array (Option Value)} {N ps:List Str} {sp:Sp} (lk:K.lookup f=some ⟨oc,od,.func (Zx name qual params body scope dV kV doc pm an cdv ct),osl⟩) (hcd:Jy K cdv qual=true) (S:FnScope N ps scope)
 (len:∀ vs H Q E,sp vs H Q E->vs.length=ps.length)
 (hbody:∀ (A:Around) (outer:List Env) (s:Shared) (H:Hp) (vs:List V) (Q:VK) (E:XK),Room k (A.deeper (envOfC qual scope s.heap.objs.size f cdv))->sp vs H Q E ->
  ∃ t,PSs (cxOf CX P w K mg base N qual scope f cdv A outer s H E) body t/\t { nx:=λ_ H'=>Q .non H',rt:=Q } (start N vs) H) :
 FnOk P w K mg base CX (k+1) f (Zx name qual params body scope dV kV doc pm an cdv ct) ps sp:=by
 refine⟨len,λA outer s H args us vs Q E hr e0 hb r hsp=>?_⟩
 have hl:=len _ _ _ _ hsp
 have KX:K.In s.heap:=e0.mod.kin.keeps λb o e=>(e0.bs b o e).1
 have lim:s.heap.NoLimit:=e0.mod.nolimit.keeps λb o e=>(e0.bs b o e).1
 have hkind:∀ y ∈ ps.zip us,scope.names.lookup y.1=some .local\/(scope.names.lookup y.1=some .cell/\((cellsFrom (s.heap.objs.size+1) scope.names []).lookup y.1).isSome=true):=λ⟨n,v⟩ hy=>by
  rcases S.par n (JC hy).1 with q|q
  ·exact .inl q
  ·exact .inr ⟨q,Yf _ _ _ (.inl q)⟩
 refine codeAny_call_function hr.depth (KX _ _ lk) rfl S.co S.gen rfl (PySem.W.codeRec_of KX hcd) (hb _ _ _ _ ?_)
 refine wpAny_newFunctionEnv_cells S.kind hkind λenv he s1 x=>?_
 subst he
 refine⟨lim.keeps x.toInCall.keep,codeAny_func ?_⟩
 obtain⟨t,ht,hq⟩:=hbody A outer s H vs Q E (hr.deeper _) hsp
 have I:Inv (cxOf CX P w K mg base N qual scope f cdv A outer s H E) [] (start N vs) H s1:=zst S hr.hd e0 hl r x
 refine wpAny_mono (ht [] s1 (start N vs) H _ I hq) (λfl s' hs=>?_) λe s' hs=>hs
 have fin:∀ {σ':St} {H':Hp} {v:V} {u:Value},Inv (cxOf CX P w K mg base N qual scope f cdv A outer s H E) [] σ' H' s'->RelV v u->Q v H'->CE outer P w H s Q u s' :=
  λ{σ' H' v u} J rv q=>⟨v,H',J.os,J.bare,J.base,J.hok,rv,q⟩
 cases fl with
 | ret u =>
   obtain⟨v,σ',H',J,rv,q⟩:=hs
   exact fin J rv q
 | next =>
   obtain⟨σ',H',J,q⟩:=hs
   exact fin (v:=V.non) (u:=Zh) J rfl q
 | brk =>
   obtain⟨_,_,_,q⟩:=hs
   exact ZF q
 | cont =>
   obtain⟨_,_,_,q⟩:=hs
   exact ZF q
section
variable {X : Cx} {x : Str} {p pos : Pos} {e : Expr} {es : List Expr} {t : TA} {id T : String} {r : List V → Hp → VK → Prop}
def tCB(r:List V->Hp->VK->Prop)(t:TA):TE:=λσ H Q=>t σ H λvs H1=>r vs H1 Q
theorem zfv(hc:CallR X (.builtin id) r)(hg:Gl X x)(hm:X.mg x=none)(hv:bootBuiltins x=some (.builtin id))(ha:PA X (e::es) t)(hn:x ≠ "__name__" := by decide)(hdb:(x == ("__debug__" : Str))=false:=by decide)
 (he:starEach (e::es) X.env=(false,eval e X.env)::starEach es X.env:=by rfl) (hpl:(backTo pos (starEach es X.env)).any (·.1)=false:=by rfl):PE X (.Call (.Name x p) (e::es) [] pos) (tCB r t):=by
 intro pins s σ H Q I h
 refine wpAny_Call_Name_kw (zcd I hg hm hv ?_ hn hdb)
 exact Z9 (thn (ha pos pins s σ H _ I h) λus s1 ⟨vs,H1,I1,r1,q1⟩=>hc pins s1 σ H1 vs us Q I1 r1 q1) he hpl
theorem zk0(hc:CallR X (.type T) r)(hg:Gl X x)(hm:X.mg x=none)(hv:bootBuiltins x=some (.type T))(ha:PA X (e::es) t)(hn:x ≠ "__name__" := by decide)(hdb:(x == ("__debug__" : Str))=false:=by decide)
 (he:starEach (e::es) X.env=(false,eval e X.env)::starEach es X.env:=by rfl) (hpl:(backTo pos (starEach es X.env)).any (·.1)=false:=by rfl):PE X (.Call (.Name x p) (e::es) [] pos) (tCB r t):=by
 intro pins s σ H Q I h
 refine wpAny_Call_Name_kw (zcd I hg hm hv ?_ hn hdb)
 exact ZJ (thn (ha pos pins s σ H _ I h) λus s1 ⟨vs,H1,I1,r1,q1⟩=>hc pins s1 σ H1 vs us Q I1 r1 q1) he hpl
end
end L2
namespace HT
open PySem PyProof.Rows
section
variable {prog : Program} {w : World} {A : Around} {E : Value → Shared → Prop} {s : Shared}
theorem cat_tup{t b:Addr}{vs ws:List Value}{Q:Value->Shared->Prop}(ht:IsTup s.heap t vs.toArray)(hb:IsTup s.heap b ws.toArray)(hv:vs ≠ [])
 (h1:ws = []->Q (.ref t) s) (h2:ws ≠ []->Q (.ref s.heap.objs.size) { s with heap:=s.heap.push { cls := .type "tuple", data := .seq (vs++ws).toArray } })
 (hsz:vs.length+ws.length<=sizeLine):wpAny (model prog w) A (binaryOp .Add (.ref t) (.ref b)) Q E s:=by
 obtain⟨⟨cls,dd,data,sl⟩,ho,hc,n,hd⟩:=id ht
 obtain⟨⟨cls2,dd2,data2,sl2⟩,ho2,hc2,n2,hd2⟩:=id hb
 simp only at hc hd hc2 hd2
 subst hc hd hc2 hd2
 have e:vs.toArray++ws.toArray=(vs++ws).toArray:=by simp
 by_cases hw:ws = []
 ·exact concat_meets ⟨_,ho,rfl⟩ ⟨_,ho2,rfl⟩ noFill_tuple_add seq_tuple_add Yg Ya (JS _ _)
   (tuple_addW1 t b vs.toArray ws.toArray n n2 dd dd2 sl sl2 (by simpa using hv) (by simp[hw])) ⟨ho,ho2,h1 hw⟩
 ·refine concat_meets ⟨_,ho,rfl⟩ ⟨_,ho2,rfl⟩ noFill_tuple_add seq_tuple_add Yg Ya (JS _ _)
   (tuple_addW2 t b vs.toArray ws.toArray n n2 dd dd2 sl sl2 (by simpa using hv) (by simpa using hw) (by rw[Qx,Qx];exact hsz)) ⟨ho,ho2,?_⟩
  rw[e]
  exact h2 hw
def sIx(n d:Nat):Option Int->Nat
 | none=>d
 | some v=>if v<0 then(v+(n:Int)).toNat else min v.toNat n
theorem sIx_le(n d:Nat)(hd:d<=n)(o:Option Int):sIx n d o<=n:=by
 cases o with
 | none=>exact hd
 | some v =>
   show(if v<0 then(v+(n:Int)).toNat else min v.toNat n)<=n
   by_cases hv:v<0
   ·rw[if_pos hv];omega
   ·rw[if_neg hv];exact Nat.min_le_right _ _
theorem clip_eq(v:Int)(n d:Nat):(if v<0 then max (v+(n:Int)) 0 else min v (n:Int))=((sIx n d (some v):Nat):Int):=by
 show(if v<0 then max (v+(n:Int)) 0 else min v (n:Int))=(((if v<0 then(v+(n:Int)).toNat else min v.toNat n):Nat):Int)
 by_cases hv:v<0
 ·simp only[if_pos hv];omega
 ·simp only[if_neg hv];omega
theorem zp8(lo hi:Option Int)(n:Nat):JN lo hi 1 (n:Int)=(((sIx n 0 lo:Nat):Int),((sIx n n hi:Nat):Int)):=by
 have h1:¬ ((1:Int)<0):=by omega
 unfold JN
 simp only[h1,if_false]
 refine Prod.ext ?_ ?_
 ·cases lo with
  | none=>rfl
  | some v=>exact clip_eq v n 0
 ·cases hi with
  | none=>rfl
  | some v=>exact clip_eq v n n
theorem zqg(i j:Nat):Ji (i:Int) (j:Int) 1=j - i:=by
 unfold Ji
 have h1:(1:Int) > 0:=by omega
 simp only[h1,if_true,Int.ediv_one]
 split <;> omega
theorem ziy{v:Value}{o:Option Int}{Q:Option Int->Shared->Prop}(p:IsPart v o)(h:Q o s):wpAny (model prog w) A (Builtin.Slice.slicePartIndex v) Q E s:=by
 cases p with
 | none=>exact slicePart_none h
 | int i t=>exact slicePart_int h
theorem sliceApplied_gen{sl:Addr}{vl vu:Value}{lo hi:Option Int}{n:Nat}{Q:Int × Int × Nat->Shared->Prop}(hs:s.heap.IsSliceOf sl vl vu .none)(pl:IsPart vl lo)(pu:IsPart vu hi)
 (h:Q (((sIx n 0 lo:Nat):Int),1,sIx n n hi - sIx n 0 lo) s):wpAny (model prog w) A (YF (.ref sl) (pure (n:Int))) Q E s:=by
 obtain⟨os,hos,hcs,hds⟩:=id hs
 unfold YF Builtin.Slice.sliceFields
 refine wpAny_bind (wpAny_bind (wpAny_field hos hds (x:=vl) rfl (wpAny_bind (wpAny_field hos hds (x:=vu) rfl (wpAny_bind (wpAny_field hos hds (x := .none) rfl (wpAny_pure ?_)))))))
 refine wpAny_bind (slicePart_none ?_)
 show wpAny _ _ (if((1:Int) == 0)=true then _ else _) _ _ s
 rw[if_neg (by decide)]
 refine wpAny_bind (ziy pl (wpAny_bind (ziy pu (wpAny_bind (wpAny_pure ?_)))))
 show wpAny _ _ (match JN lo hi 1 (n:Int) with|(lo,hi)=>pure (lo,(1:Int),Ji lo hi 1)) _ _ s
 rw[zp8 lo hi n]
 show wpAny _ _ (pure (((sIx n 0 lo:Nat):Int),(1:Int),Ji ((sIx n 0 lo:Nat):Int) ((sIx n n hi:Nat):Int) 1)) _ _ s
 rw[zqg]
 exact wpAny_pure h
theorem zuh(xs:Array Value)(i k:Nat):((Jb k).filterMap λ(m:Nat)=>xs[((i:Int)+(m:Int) * 1).toNat]?).toArray=((xs.toList.drop i).take k).toArray:=by
 have e:(λ(m:Nat)=>xs[((i:Int)+(m:Int) * 1).toNat]?)=λm=>xs[i+m]?:=by
  funext m
  have:((i:Int)+(m:Int) * 1).toNat=i+m:=by omega
  rw[this]
 rw[e]
 have:=pick_run xs i k
 rw[List.filterMap_map] at this
 have e2:((λx=>xs[x]?) ∘ λx=>i+x)=λm=>xs[i+m]?:=rfl
 rw[e2] at this
 rw[this]
theorem getItem_tuple_cut{t sl:Addr}{items:Array Value}{vl vu:Value}{lo hi:Option Int}{Q:Value->Shared->Prop}(ht:IsTup s.heap t items)(hs:s.heap.IsSliceOf sl vl vu .none)(pl:IsPart vl lo)(pu:IsPart vu hi)
 (hw:¬ (sIx items.size 0 lo=0/\sIx items.size items.size hi=items.size))
 (h:Q (.ref s.heap.objs.size) { s with heap:=s.heap.push { cls := .type "tuple", data := .seq ((items.toList.drop (sIx items.size 0 lo)).take (sIx items.size items.size hi - sIx items.size 0 lo)).toArray } })
 (hsz:items.size<=sizeLine):wpAny (model prog w) A (getItem (.ref t) (.ref sl)) Q E s:=by
 have htake:sizeOk (.seq ((items.toList.drop (sIx items.size 0 lo)).take (sIx items.size items.size hi - sIx items.size 0 lo)).toArray):=by
  show((items.toList.drop (sIx items.size 0 lo)).take (sIx items.size items.size hi - sIx items.size 0 lo)).toArray.size<=sizeLine
  rw[Qx,Qz,QD,Jv]
  omega
 have hj:sIx items.size items.size hi<=items.size:=sIx_le _ _ (Qo _) hi
 obtain⟨os,hos,hcs,hds⟩:=id hs
 have hTs:s.TypeIs (.ref sl) "slice" := ⟨os,hos,hcs⟩
 unfold getItem
 try with_reducible refine wpAny_holding ?_
 first|refine wpAny_bind (wpAny_pure ?_)|skip
 refine wpAny_bind (wpAny_sequenceKey ht.typeIs (by decide) ?_)
 refine wpAny_bind (wpAny_callSpecial?_slot (name:=Qp "__getitem__") ht.typeIs Zp
  (wpAny_call_entry Zp ht.typeIs entry_tuple_getitem ?_ (args_tuple_getitem _ _)))
 show wpAny _ _ (YG (.ref t) >>= _) _ _ s
 refine wpAny_bind (tupleItemsOf_ ht ?_)
 refine wpAny_bind (wpAny_typeOf hTs ?_)
 rw[if_pos (by decide)]
 refine wpAny_bind (sliceApplied_gen hs pl pu ?_)
 have hno:¬ ((((sIx items.size 0 lo:Nat):Int) == 0 && (1:Int) == 1 && (sIx items.size items.size hi - sIx items.size 0 lo) == items.size)=true):=by
  intro q
  rw[Qv,Qv] at q
  have q1:((sIx items.size 0 lo:Nat):Int)=0:=eq_of_beq q.1.1
  have q2:sIx items.size items.size hi - sIx items.size 0 lo=items.size:=eq_of_beq q.2
  exact hw ⟨by omega,by omega⟩
 show wpAny _ _ (if(((sIx items.size 0 lo:Nat):Int) == 0 && (1:Int) == 1 && (sIx items.size items.size hi - sIx items.size 0 lo) == items.size)=true then _ else _) _ _ s
 rw[if_neg hno,zuh]
 first
  | exact wpAny_bind (m:=Js _) (wpAny_newObj_type (wpAny_pure ⟨_,rfl,wpAny_pure h⟩) htake)
  | exact wpAny_bind (m:=Js _) (wpAny_newObj_type (wpAny_bind (wpAny_pure (wpAny_pure ⟨_,rfl,wpAny_pure h⟩))) htake)
  | exact wpAny_bind (wpAny_bind (m:=Js _) (wpAny_newObj_type (wpAny_pure (wpAny_pure ⟨_,rfl,wpAny_pure h⟩)) htake))
  | exact wpAny_bind (wpAny_bind (m:=Js _) (wpAny_newObj_type (wpAny_pure ⟨_,rfl,wpAny_pure h⟩) htake))
end
end HT
namespace L2
open PySem PySem.Spec PyProof.Rows
abbrev TO:=St->Hp->(Option Int->Hp->Prop)->Prop
def PO(X:Cx)(e:Option Expr)(t:TO):Prop :=
 ∀ (pins:List (Addr × Obj)) (s:Shared) (σ:St) (H:Hp) (Q:Option Int->Hp->Prop),Inv X pins σ H s->t σ H Q ->
   wpAny (model X.prog X.w) X.A (evalPart e X.env) (λu s'=>∃ o H',Inv X pins σ H' s'/\IsPart u o/\Q o H') X.xe s
def zon:TO:=λ_ H Q=>Q none H
def zw7(t:TE):TO:=λσ H Q=>t σ H λx H1=>∃ i,x = .int i/\Q (some i) H1
section
variable {X : Cx} {e : Expr} {te : TE} {lo hi : Option Expr} {tl th : TO} {pos p2 : Pos}
theorem zx9:PO X none zon:=by
 intro pins s σ H Q I h
 rw[evalPart_none]
 exact wpAny_pure ⟨none,H,I,.none,h⟩
theorem zyf(h:PE X e te):PO X (some e) (zw7 te):=by
 intro pins s σ H Q I hw
 rw[evalPart_some]
 refine thn (h pins s σ H _ I hw) λu s1 ⟨x,H1,I1,r1,q1⟩=>?_
 obtain⟨i,rfl,q⟩:=q1
 obtain⟨t,rfl⟩:=r1
 exact⟨some i,H1,I1,.int i t,q⟩
def SlR(X:Cx)(r:V->Option Int->Option Int->Hp->VK->Prop):Prop :=
 ∀ (pins:List (Addr × Obj)) (s:Shared) (σ:St) (H:Hp) (x:V) (v vl vu:Value) (lo hi:Option Int) (sl:Addr) (Q:VK),Inv X pins σ H s->RelV x v->s.heap.IsSliceOf sl vl vu .none->IsPart vl lo->IsPart vu hi->r x lo hi H Q ->
   ∃ T id,typeLookup (.type T) "__getitem__" = pure (some (.builtin id))/\s.TypeIs v T/\wpAny (model X.prog X.w) X.A (getItem v (.ref sl)) (EP X pins σ Q) X.xe s
theorem SlR.or{r r':V->Option Int->Option Int->Hp->VK->Prop}(h:SlR X r)(h':SlR X r'):SlR X (λx lo hi H Q=>r x lo hi H Q\/r' x lo hi H Q):=by
 intro pins s σ H x v vl vu lo hi sl Q I rx hs pl pu q
 rcases q with q|q
 ·exact h pins s σ H x v vl vu lo hi sl Q I rx hs pl pu q
 ·exact h' pins s σ H x v vl vu lo hi sl Q I rx hs pl pu q
def tSl(r:V->Option Int->Option Int->Hp->VK->Prop)(te:TE)(tl th:TO):TE:=λσ H Q=>te σ H λx H1=>tl σ H1 λl H2=>th σ H2 λu H3=>r x l u H3 Q
theorem zue{r:V->Option Int->Option Int->Hp->VK->Prop}(hr:SlR X r)(he:PE X e te)(hl:PO X lo tl)(hu:PO X hi th):PE X (.Subscript e (.Slice lo hi none p2) pos) (tSl r te tl th):=by
 intro pins s σ H Q I h
 refine Subscript_ (thn (he pins s σ H _ I h) λv s1 ⟨x,H1,I1,r1,q1⟩=>?_)
 refine wpAny_Slice (thn (hl pins s1 σ H1 _ I1 q1) λvl s2 ⟨l,H2,I2,pl,q2⟩=>thn (hu pins s2 σ H2 _ I2 q2) λvu s3 ⟨u,H3,I3,pu,q3⟩=>?_)
 rw[evalPart_none]
 refine wpAny_pure ?_
 have I4:Inv X pins σ H3 { s3 with heap:=s3.heap.push { cls := .type "slice", data := .fields #[vl,vu,.none] } }:=I3.kept (t':=s3.toks) λb ob q=>Qc _ q
 obtain⟨T,id,hT,ht,hg⟩:=hr pins { s3 with heap:=s3.heap.push { cls := .type "slice", data := .fields #[vl,vu,.none] } } σ H3 x v vl vu l u s3.heap.objs.size Q I4 r1 (Heap.IsSliceOf.new ..) pl pu q3
 show wpAny (model X.prog X.w) X.A (subscriptTail e (.Slice lo hi none p2) v (.ref s3.heap.objs.size)) (EP X pins σ Q) X.xe { s3 with heap:=s3.heap.push { cls := .type "slice", data := .fields #[vl,vu,.none] } }
 exact tail_any (ops := [.ref s3.heap.objs.size,v]) ht hT hg (by with_unfolding_all rfl)
def cutV(xs:List V)(lo hi:Option Int):List V:=(xs.drop (HT.sIx xs.length 0 lo)).take (HT.sIx xs.length xs.length hi - HT.sIx xs.length 0 lo)
theorem zia(xs:List V)(lo hi:Option Int):(cutV xs lo hi).length<=xs.length:=by
 unfold cutV
 rw[Qz,QD]
 omega
def rSlT(K:Qa):V->Option Int->Option Int->Hp->VK->Prop:=λx lo hi H Q=>∃ a xs,x = .ref a/\SqT K H a xs /\
 ¬ (HT.sIx xs.length 0 lo=0/\HT.sIx xs.length xs.length hi=xs.length)/\∀ p,H p=none->Q (.ref p) (upd H p (.tup (cutV xs lo hi)))
theorem sl_tup:SlR X (rSlT X.K):=by
 intro pins s σ H x v vl vu lo hi sl Q I rx hs pl pu h
 obtain⟨a,xs,rfl,hx,hw,q⟩:=h
 cases rx
 obtain⟨its,r,ht,hz⟩:=I.tuple hx
 have hlen:its.toArray.size=xs.length:=by rw[Qx];exact r.length.symm
 refine⟨"tuple", _,Zp.lookup,ht.typeIs,?_⟩
 refine HT.getItem_tuple_cut ht hs pl pu (by rw[hlen];exact hw) ?_ (by rw[hlen];exact hz)
 rw[hlen]
 refine⟨.ref s.heap.objs.size,_,I.laid (t':=s.toks) (o := .tup (cutV xs lo hi)) (λb ob q=>Qc _ q) (Qo _) ?_,rfl,q _ (I.hok.fresh (Qo _))⟩
 exact⟨Q4 (zia xs lo hi) hz,_,(r.drop (HT.sIx xs.length 0 lo)).take (HT.sIx xs.length xs.length hi - HT.sIx xs.length 0 lo),je _ _⟩
def zwn(K:Qa):R2:=λx y H Q=>∃ a b xs ys,x = .ref a/\y = .ref b/\SqT K H a xs/\SqT K H b ys/\xs ≠ []/\xs.length+ys.length<=sizeLine /\
 (ys = []->Q (.ref a) H)/\(ys ≠ []->∀ p,H p=none->Q (.ref p) (upd H p (.tup (xs++ys))))
theorem Vals.nil_iff{xs:List V}{us:List Value}(r:Vals xs us):us = []↔xs = []:=by
 cases r with
 | nil=>simp
 | cons _ _=>simp
theorem op_catT:OpR X (binaryOp .Add) (zwn X.K):=by
 intro pins s σ H x y v u Q I rx ry h
 obtain⟨a,b,xs,ys,rfl,rfl,ha,hb,hx,hz,q1,q2⟩:=h
 cases rx
 cases ry
 obtain⟨its,r1,p1,_⟩:=I.tuple ha
 obtain⟨its2,r2,p2,_⟩:=I.tuple hb
 refine HT.cat_tup p1 p2 (λz=>hx (r1.nil_iff.mp z)) (λz=>⟨.ref a,H,I,rfl,q1 (r2.nil_iff.mp z)⟩) (λz=>?_) (by rw[<- r1.length,<- r2.length];exact hz)
 refine⟨.ref s.heap.objs.size,_,I.laid (t':=s.toks) (o := .tup (xs++ys)) (λb ob q=>Qc _ q) (Qo _) ?_,rfl,q2 (λw=>z (r2.nil_iff.mpr w)) _ (I.hok.fresh (Qo _))⟩
 exact⟨by rw[Qg];exact hz,_,r1.append r2,je _ _⟩
end
def ixN(n:Nat)(i:Int):Option Nat:=if 0<=i then(if i<n then some i.toNat else none) else if -(n:Int)<=i then some (i+n).toNat else none
def atI{α:Type}(xs:List α)(i:Int):Option α:=(ixN xs.length i).bind λj=>xs[j]?
theorem zpf{n:Nat}{i:Int}{j:Nat}(h:ixN n i=some j):seqIndex? i n=some j/\j<n/\-(n:Int)<=i/\i<n:=by
 unfold ixN at h
 by_cases h0:0<=i
 ·rw[if_pos h0] at h
  by_cases h1:i<n
  ·rw[if_pos h1] at h
   have e:i.toNat=j:=Zy h
   exact⟨by rw[seqIndex_of h0 h1,e],by omega,by omega,h1⟩
  ·rw[if_neg h1] at h;cases h
 ·rw[if_neg h0] at h
  by_cases h1:-(n:Int)<=i
  ·rw[if_pos h1] at h
   have e:(i+n).toNat=j:=Zy h
   exact⟨by rw[seqIndex_neg (by omega) h1,e],by omega,h1,by omega⟩
  ·rw[if_neg h1] at h;cases h
theorem zj8{α:Type}{xs:List α}{i:Int}{v:α}(h:atI xs i=some v):∃ j,seqIndex? i xs.length=some j/\xs[j]? = some v/\j<xs.length/\-(xs.length:Int)<=i/\i<xs.length:=by
 unfold atI at h
 cases e:ixN xs.length i with
 | none=>rw[e] at h;cases h
 | some j =>
   rw[e] at h
   obtain⟨h1,h2,h3,h4⟩:=zpf e
   exact⟨j,h1,h,h2,h3,h4⟩
theorem zhe{α:Type}{xs:List α}{j:Nat}{v:α}(h:xs[j]? = some v):atI xs (j:Int)=some v:=by
 have hj:j<xs.length:=(Qs.mp h).1
 have e:ixN xs.length (j:Int)=some j:=by
  unfold ixN
  rw[if_pos (by omega),if_pos (by omega)];simp
 unfold atI;rw[e];exact h
def zo0(b:Expr):Prop:=∀ o i,subscripted b false o i=operate [o,i] (getItem o i)
def IxR(X:Cx)(r:R2):Prop :=
 ∀ (value slice:Expr) (pins:List (Addr × Obj)) (s:Shared) (σ:St) (H:Hp) (x y:V) (v u:Value) (Q:VK),Inv X pins σ H s->RelV x v->RelV y u->r x y H Q ->
   subscripted slice false v u=operate [v,u] (getItem v u)->wpAny (model X.prog X.w) X.A (subscriptTail value slice v u) (EP X pins σ Q) X.xe s
def MtR(X:Cx)(id:String)(r:V->List V->Hp->VK->Prop):Prop :=
 ∀ (pins:List (Addr × Obj)) (s:Shared) (σ:St) (H:Hp) (x:V) (xs:List V) (v:Value) (us:List Value) (Q:VK),Inv X pins σ H s->RelV x v->Vals xs us->r x xs H Q ->
   wpAny (model X.prog X.w) X.A (call (.builtin id) (v::us)) (EP X pins σ Q) X.xe s
section
variable {X : Cx} {a b : Expr} {ta tb : TE} {pos : Pos}
theorem IxR.or{r r':R2}(h:IxR X r)(h':IxR X r'):IxR X (λx y H Q=>r x y H Q\/r' x y H Q):=by
 intro value slice pins s σ H x y v u Q I rx ry q hs
 rcases q with q|q
 ·exact h value slice pins s σ H x y v u Q I rx ry q hs
 ·exact h' value slice pins s σ H x y v u Q I rx ry q hs
theorem zb1{r:R2}(hr:IxR X r)(ha:PE X a ta)(hb:PE X b tb)(hs:zo0 b):PE X (.Subscript a b pos) (tOp r ta tb):=by
 intro pins s σ H Q I h
 exact Subscript_ (binT ha hb I h λv u s2 x y H2 I2 rx ry q=>hr a b pins s2 σ H2 x y v u Q I2 rx ry q (hs _ _))
def rIxL(K:Qa):R2:=λx y H Q=>∃ p xs i v,x = .ref p/\y = .int i/\SqL K H p xs/\atI xs i=some v/\Q v H
def rIxT(K:Qa):R2:=λx y H Q=>∃ p xs i v,x = .ref p/\y = .int i/\SqT K H p xs/\atI xs i=some v/\Q v H
def rIxS:R2:=λx y H Q=>∃ z i c,x = .str z/\y = .int i/\z.length<=sizeLine/\atI z.cps.toList i=some c/\Q (.str ⟨#[c]⟩) H
theorem ix_list:IxR X (rIxL X.K):=by
 intro value slice pins s σ H x y v u Q I rx ry h hs
 obtain⟨p,xs,i,z,rfl,rfl,hq,he,q⟩:=h
 cases rx
 obtain⟨t,rfl⟩:=ry
 obtain⟨its,r,pl,hz⟩:=I.list hq
 obtain⟨j,h1,h2,h3,h4,h5⟩:=zj8 he
 obtain⟨w,ew,rw'⟩:=r.get h2
 have hl:=r.length
 have hn:=zg8
 have fin:EP X pins σ Q w s:=⟨z,H,I,rw',q⟩
 by_cases h0:0<=i
 ·have hj:i.toNat=j:=by
   rw[seqIndex_of h0 h5] at h1
   exact Zy h1
  exact item_listR pl.isList h0 (by omega) (by rw[hj];simpa using ew) fin hs
 ·have hj:(i+(its.toArray.size:Int)).toNat=j:=by
   rw[seqIndex_neg (by omega) h4] at h1
   rw[Qx,<- hl]
   exact Zy h1
  exact subscriptTail_builtinR (x:=w) pl.isList.typeIs slot_list_getitem.lookup
   (wpAny_getItem_list_neg (Q:=λr s'=>r=w/\EP X pins σ Q r s') pl.isList (by omega) (by rw[Qx] <;> omega) (by omega) (by rw[hj];simpa using ew) ⟨rfl,fin⟩) hs
theorem ix_tup:IxR X (rIxT X.K):=by
 intro value slice pins s σ H x y v u Q I rx ry h hs
 obtain⟨p,xs,i,z,rfl,rfl,hq,he,q⟩:=h
 cases rx
 obtain⟨t,rfl⟩:=ry
 obtain⟨its,r,pl,hz⟩:=I.tuple hq
 obtain⟨j,h1,h2,h3,h4,h5⟩:=zj8 he
 obtain⟨w,ew,rw'⟩:=r.get h2
 have hl:=r.length
 have hn:=zg8
 have fin:EP X pins σ Q w s:=⟨z,H,I,rw',q⟩
 exact subscriptTail_builtinR (x:=w) pl.typeIs slot_tuple_getitem.lookup
  (getItem_tuple (j:=j) (Q:=λr s'=>r=w/\EP X pins σ Q r s') pl (by omega) (by omega) (by rw[Qx,<- hl];exact h1) (by simpa using ew) ⟨rfl,fin⟩) hs
theorem z3n:IxR X rIxS:=by
 intro value slice pins s σ H x y v u Q I rx ry h hs
 obtain⟨z,i,c,rfl,rfl,hz,he,q⟩:=h
 obtain⟨t,rfl⟩:=rx
 obtain⟨t',rfl⟩:=ry
 obtain⟨j,h1,h2,h3,h4,h5⟩:=zj8 he
 have hl:z.cps.toList.length=z.length:=by simp[YH]
 rw[hl] at h1 h4 h5
 have hn:=zg8
 exact tail_any (typeIs_str s z t) slot_str_getitem.lookup (getItem_str (c:=c) (by
  have e1:decide (i < -(2 ^ 63:Int))=false:=decide_eq_false (by omega)
  have e2:decide (i ≥ 2 ^ 63)=false:=decide_eq_false (by omega)
  rw[e1,e2,qT]) (by rw[h1];simpa using h2) ⟨.str ⟨#[c]⟩,H,I.tok _,⟨_,rfl⟩,q⟩) hs
def rIx(K:Qa):R2:=λx y H Q=>rIxL K x y H Q\/rIxT K x y H Q\/rIxS x y H Q
theorem z2p:IxR X (rIx X.K):=ix_list.or (ix_tup.or z3n)
theorem zqr(its:List Value)(n j:Nat)(u:Value):YI (·.setIfInBounds j u) { cls := .type "list", data := .seq its.toArray n } = { cls := .type "list", data := .seq (its.set j u).toArray n }:=by
 simp[YI]
theorem Inv.lst{pins:List (Addr × Obj)}{σ:St}{H:Hp}{s:Shared}{p:Addr}{xs:List V}(I:Inv X pins σ H s)(h:H p=some (.lst xs)) :
 ∃ (its:List Value) (n:Nat),Vals xs its/\s.heap.get? p=some { cls := .type "list", data := .seq its.toArray n }/\xs.length<=sizeLine:=by
 obtain⟨z,its,n,r,e⟩:=I.hok p _ h
 exact⟨its,n,r,e,z⟩
theorem Inv.lstUpd{pins:List (Addr × Obj)}{σ:St}{H:Hp}{s:Shared}{p:Addr}{xs ys:List V}{its its':List Value}{n n':Nat}{f:Obj->Obj}(I:Inv X pins σ H s)(h:H p=some (.lst xs))
 (ho:s.heap.get? p=some { cls := .type "list", data := .seq its.toArray n }) (hf:f { cls := .type "list", data := .seq its.toArray n } = { cls := .type "list", data := .seq its'.toArray n' }) (r:Vals ys its') (hz:ys.length<=sizeLine) (t:Nat) :
 Inv X pins σ (upd H p (.lst ys)) { s with heap:=s.heap.update p f,toks:=t }:=by
 have e:(s.heap.update p f).get? p=some { cls := .type "list", data := .seq its'.toArray n' }:=by
  rw[Zj f ho (by rw[hf] <;> rfl),hf]
 refine I.write (x:=p) (e:=p) (by rw[h];trivial) (.inl rfl) (λb u hb q=>(QJ _ _ (ZD hb)).trans q) ⟨_,e⟩ ?_
 exact⟨hz,its',n',r,e⟩
def zjl:V->V->V->Hp->(Hp->Prop)->Prop:=λo i v H Q=>∃ p xs k j,o = .ref p/\i = .int k/\H p=some (.lst xs)/\ixN xs.length k=some j/\Q (upd H p (.lst (xs.set j v)))
theorem zgh:PSet X zjl:=by
 intro pins s σ H o i v ov iv u Q I ro ri rv h
 obtain⟨p,xs,k,j,rfl,rfl,hp,hj,q⟩:=h
 cases ro
 obtain⟨t,rfl⟩:=ri
 obtain⟨its,n,r,ho,hz⟩:=I.lst hp
 obtain⟨h1,h2,h3,h4⟩:=zpf hj
 have hl:=r.length
 have hn:=zg8
 have I':Inv X pins σ (upd H p (.lst (xs.set j v))) { s with heap:=s.heap.update p (YI (·.setIfInBounds j u)) } :=
  I.lstUpd hp ho (zqr its n j u) (r.set rv j) (by rw[QX];exact hz) s.toks
 by_cases h0:0<=k
 ·have hk:k.toNat=j:=by
   rw[seqIndex_of h0 h4] at h1
   exact Zy h1
  exact PySem.W.ki_setAt ho h0 (by omega) (by rw[Qx,<- hl];exact h4) (by rw[hk];exact⟨_,I',q⟩)
 ·have hk:(k+(its.toArray.size:Int)).toNat=j:=by
   rw[seqIndex_neg (by omega) h3] at h1
   rw[Qx,<- hl]
   exact Zy h1
  exact PySem.W.ki_setBack ho (by omega) (by rw[Qx,<- hl];exact h3) (by omega) (by rw[hk];exact⟨_,I',q⟩)
theorem zm7(lo hi:Option Int)(n:Nat):(sliceBounds lo hi none n).1=((HT.sIx n 0 lo:Nat):Int)/\(sliceBounds lo hi none n).2.1=((HT.sIx n n hi:Nat):Int)/\(sliceBounds lo hi none n).2.2=1:=by
 refine⟨?_,?_,rfl⟩
 ·cases lo with
  | none=>simp[sliceBounds,HT.sIx]
  | some i =>
    simp only[sliceBounds,HT.sIx,qs,show(1:Int) > 0 by decide,if_true]
    by_cases h:i<0
    ·simp only[h,if_true] <;> omega
    ·simp only[h,if_false] <;> omega
 ·cases hi with
  | none=>simp[sliceBounds,HT.sIx]
  | some i =>
    simp only[sliceBounds,HT.sIx,qs,show(1:Int) > 0 by decide,if_true]
    by_cases h:i<0
    ·simp only[h,if_true] <;> omega
    ·simp only[h,if_false] <;> omega
theorem zlh(its:List Value)(lo hi:Option Int):slicePick its.toArray lo hi none=((its.drop (HT.sIx its.length 0 lo)).take (HT.sIx its.length its.length hi - HT.sIx its.length 0 lo)).toArray:=by
 obtain⟨h1,h2,h3⟩:=zm7 lo hi its.toArray.size
 unfold slicePick
 rw[h1,h2,h3]
 simp only[sliceRange_one,pick_run,Qx] <;> rfl
def rSlL(K:Qa):V->Option Int->Option Int->Hp->VK->Prop:=λx lo hi H Q=>∃ a xs,x = .ref a/\SqL K H a xs/\∀ p,H p=none->Q (.ref p) (upd H p (.lst (cutV xs lo hi)))
theorem sl_list:SlR X (rSlL X.K):=by
 intro pins s σ H x v vl vu lo hi sl Q I rx hs pl pu h
 obtain⟨a,xs,rfl,hx,q⟩:=h
 cases rx
 obtain⟨its,r,ht,hz⟩:=I.list hx
 have hlen:=r.length
 refine⟨"list", _,slot_list_getitem.lookup,ht.isList.typeIs,?_⟩
 refine wpAny_getItem_list_slice ht.isList hs pl pu .none (by simp) ?_ (by rw[Qx] <;> omega)
 rw[zlh,<- hlen]
 refine⟨.ref s.heap.objs.size,_,I.laid (t':=s.toks) (o := .lst (cutV xs lo hi)) (λb ob q=>Qc _ q) (Qo _) ?_,rfl,q _ (I.hok.fresh (Qo _))⟩
 exact⟨Q4 (zia xs lo hi) hz,_,0,(r.drop (HT.sIx xs.length 0 lo)).take (HT.sIx xs.length xs.length hi - HT.sIx xs.length 0 lo),Qq _ rfl⟩
theorem CallR.or{f:Value}{r r':List V->Hp->VK->Prop}(h:CallR X f r)(h':CallR X f r'):CallR X f (λxs H Q=>r xs H Q\/r' xs H Q):=by
 intro pins s σ H xs us Q I rs q
 rcases q with q|q
 ·exact h pins s σ H xs us Q I rs q
 ·exact h' pins s σ H xs us Q I rs q
theorem zg1:CallR X (.type "list") (λxs H Q=>∃ p ys,xs = [.ref p]/\(SqL X.K H p ys\/SqT X.K H p ys)/\∀ l,H l=none->Q (.ref l) (upd H l (.lst ys))):=by
 intro pins s σ H xs us Q I r h
 obtain⟨p,ys,rfl,hq,q⟩:=h
 obtain⟨u,rfl,rx⟩:=ze7 r
 cases rx
 have fin:∀ (its:List Value),Vals ys its->ys.length<=sizeLine->∀ (h':Heap) (c':Nat),(∀ b o',s.heap.get? b=some o'->h'.get? b=some o') ->
  h'.get? s.heap.objs.size=some { cls := .type "list", dict:=none,data := .seq its.toArray c',slots:=#[] }->EP X pins σ Q (.ref s.heap.objs.size) { s with heap:=h' }:=λits r' hz h' c' kp e =>
  ⟨.ref s.heap.objs.size,_,I.laid (t':=s.toks) kp (Qo _) (show ObjOk X.prog X.w _ h' _ (.lst ys) from⟨hz,its,c',r',e⟩),rfl,q _ (I.hok.fresh (Qo _))⟩
 rcases hq with hq|hq
 ·obtain⟨its,r',pl,hz⟩:=I.list hq
  have hlen:=r'.length
  obtain⟨o,ho,hc,n,hd⟩:=pl.isList
  exact call_list_seq p (.inl rfl) ho hc hd (λh' c' kp e=>fin its r' hz h' c' kp e) (by simp only[Qx] <;> omega)
 ·obtain⟨its,r',pl,hz⟩:=I.tuple hq
  have hlen:=r'.length
  obtain⟨o,ho,hc,n,hd⟩:=pl
  exact call_list_seq p (.inr rfl) ho hc hd (λh' c' kp e=>fin its r' hz h' c' kp e) (by simp only[Qx] <;> omega)
theorem zlg:CallR X (.type "tuple") (λxs H Q=>∃ p ys,xs = [.ref p]/\((SqL X.K H p ys/\∀ l,H l=none->Q (.ref l) (upd H l (.tup ys)))\/(SqT X.K H p ys/\Q (.ref p) H))):=by
 intro pins s σ H xs us Q I r h
 obtain⟨p,ys,rfl,h⟩:=h
 obtain⟨u,rfl,rx⟩:=ze7 r
 cases rx
 rcases h with ⟨hq,q⟩|⟨hq,q⟩
 ·obtain⟨its,r',pl,hz⟩:=I.list hq
  have hlen:=r'.length
  refine call_tuple_list pl.isList (λh' kp=>?_) (by simp only[Qx] <;> omega)
  have I1:Inv X pins σ H { s with heap:=h' }:=I.kept (t':=s.toks) kp
  have I2:Inv X pins σ (upd H h'.objs.size (.tup ys)) { s with heap:=h'.push { cls := .type "tuple", data := .seq its.toArray } } :=
   I1.laid (t':=s.toks) (λb o e=>Qc _ e) (Qo _) (show ObjOk X.prog X.w _ _ _ (.tup ys) from⟨hz,its,r',je _ _⟩)
  exact⟨.ref h'.objs.size,_,I2,rfl,q _ (I1.hok.fresh (Qo _))⟩
 ·obtain⟨its,r',pl,hz⟩:=I.tuple hq
  exact call_tuple_same pl ⟨.ref p,H,I,rfl,q⟩
def tyV(K:Qa)(T:String)(x:V)(H:Hp):Prop:=match x with
 | .str _=>T = "str"
 | .int _=>T = "int"
 | .ref p=>(T = "list" /\ ∃ xs,SqL K H p xs)\/(T = "tuple" /\ ∃ o,K.lookup p=some o/\o.cls = .type "tuple" /\ o.dict=none) \/
  (T = "dict" /\ ((∃ kvs,H p=some (.dK kvs))\/∃ kvs,H p=some (.dT kvs)))\/(T = "set" /\ ∃ S n,H p=some (.set S n))
 | _=>False
theorem z1i{pins:List (Addr × Obj)}{σ:St}{H:Hp}{s:Shared}{T:String}{x:V}{v:Value}(I:Inv X pins σ H s)(r:RelV x v)(ty:tyV X.K T x H) :
 s.TypeIs v T/\∀ a,v = .ref a->∃ ob,s.heap.get? a=some ob/\ob.dict=none:=by
 cases x with
 | str z =>
   obtain⟨t,rfl⟩:=r
   cases (show T = "str" from ty)
   exact⟨typeIs_str s z t,λ_ e=>nomatch e⟩
 | int i =>
   obtain⟨t,rfl⟩:=r
   cases (show T = "int" from ty)
   exact⟨typeIs_int s i t,λ_ e=>nomatch e⟩
 | ref p =>
   cases r
   rcases ty with ⟨rfl,xs,hq⟩|⟨rfl,o,hk,hc,hd⟩|⟨rfl,hk⟩|⟨rfl,S,n,hk⟩
   ·obtain⟨its,_,pl,_⟩:=I.list hq
    refine⟨pl.isList.typeIs,λa e=>?_⟩
    cases e
    obtain⟨o,n,e,c,hd,_⟩:=pl
    exact⟨o,e,hd⟩
   ·refine⟨⟨o,I.kIn p o hk,hc⟩,λa e=>?_⟩
    cases e
    exact⟨o,I.kIn _ o hk,hd⟩
   ·have z:∃ o,s.heap.get? p=some o/\o.ExactDict:=by
     rcases hk with ⟨kvs,hk⟩|⟨kvs,hk⟩
     ·obtain⟨_,_,_,_,o,_,_,e,ex,_⟩:=I.hok p _ hk
      exact⟨o,e,ex⟩
     ·obtain⟨_,_,_,_,o,_,_,e,ex,_⟩:=I.hok p _ hk
      exact⟨o,e,ex⟩
    obtain⟨o,e,ex⟩:=z
    refine⟨⟨o,e,ex.1⟩,λa e2=>?_⟩
    cases e2
    exact⟨o,e,ex.2.1⟩
   ·obtain⟨o,_,_,_,e,ex,_⟩:=I.hok p _ hk
    refine⟨⟨o,e,ex.1⟩,λa e2=>?_⟩
    cases e2
    exact⟨o,e,ex.2.1⟩
 | _=>exact ZF ty
def tBM(K:Qa)(T:String)(r:V->List V->Hp->VK->Prop)(to:TE)(t:TA):TE:=λσ H Q=>to σ H λx H1=>tyV K T x H1/\t σ H1 λxs H2=>r x xs H2 Q
variable {o e : Expr} {es : List Expr} {to : TE} {t : TA} {name : Str} {apos cpos : Pos} {T id : String} {r : V → List V → Hp → VK → Prop}
theorem zjk(pa:PlainAttrs T)(slot:Slot T name id)(hty:typeOf (.builtin id)=pure (.type "method_descriptor"))(hm:MtR X id r)(ho:PE X o to)(ha:PA X (e::es) t)
 (hbase:attributeBase o name X.env (eval o X.env)=eval o X.env:=by rfl)
 (hfew:((backTo cpos (starEach (e::es) X.env)).all (λx=>!x.1) && (backToKw cpos (keywordEach [] X.env)).all (λx=>x.1.isSome)
  && decide ((e::es).length+([]:List Keyword).length+(if([]:List Keyword).isEmpty then 0 else 1)<30))=true:=by rfl)
 (hline:(apos.endLine == cpos.line)=true:=by rfl) (hs:starEach (e::es) X.env=(false,eval e X.env)::starEach es X.env:=by rfl) (hplain:(backTo cpos (starEach es X.env)).any (·.1)=false:=by rfl) :
 PE X (.Call (.Attribute o name apos) (e::es) [] cpos) (tBM X.K T r to t):=by
 intro pins s σ H Q I h
 refine wpAny_Call_method_late hbase hfew hline rfl (thn (ho pins s σ H _ I h) λv s1 ⟨x,H1,I1,r1,ty,q1⟩=>?_)
 obtain⟨h1,h2⟩:=z1i I1 r1 ty
 refine⟨T,id,pa,slot,hty,h1,h2,?_⟩
 have hA:=ha cpos pins s1 σ H1 _ I1 q1
 rw[hs] at hA ⊢
 refine Calls.callWith_builtin (by show(false || (backTo cpos (starEach es X.env)).any (·.1))=false;rw[hplain] <;> rfl) (Calls.evalArgs_plain ?_)
 exact thn hA λus s2 ⟨vs,H2,I2,r2,q2⟩=>hm pins s2 σ H2 x vs v us Q I2 r1 r2 q2
/- xs.append(e),list.index on a module's tuple .. are MtR facts of 06m -/
end
def MtM(X:Cx)(id:String)(r:V->List V->Hp->VK->Prop):Prop :=
 ∀ (pins:List (Addr × Obj)) (s:Shared) (σ:St) (H:Hp) (x:V) (xs:List V) (v:Value) (us:List Value) (Q:VK),Inv X pins σ H s->RelV x v->Vals xs us->r x xs H Q ->
   wpAny (model X.prog X.w) X.A (call (.builtin id) (v::us)) (EP X pins σ Q) X.xe s
theorem Vals.one:∀ {x:V} {us:List Value},Vals [x] us->∃ u,us = [u]/\RelV x u
 | _,_,h=>by
   cases h with
   | cons r t=>cases t;exact⟨_,rfl,r⟩
theorem Vals.two:∀ {x y:V} {us:List Value},Vals [x,y] us->∃ u v,us = [u,v]/\RelV x u/\RelV y v
 | _,_,_,h=>by
   cases h with
   | cons r t =>
     cases t with
     | cons q t=>cases t;exact⟨_,_,rfl,r,q⟩
theorem Vals.rep{xs:List V}{us:List Value}(h:Vals xs us):∀ k:Nat,Vals (Qf k xs).flatten (Qf k us).flatten
 | 0 => .nil
 | k+1=>by
   rw[QV,QV,QY,QY]
   exact Vals.append h (Vals.rep h k)
theorem zgs(its:List Value):∀ (k:Nat) (acc:List Value),
 Yq (λx1 x2=>x1++x2) acc.toArray (Qf k its.toArray)=(acc++(Qf k its).flatten).toArray
 | 0,acc=>by simp
 | k+1,acc=>by
   have e:acc.toArray++its.toArray=(acc++its).toArray:=by simp
   have e2:(acc++its)++(Qf k its).flatten=acc++(Qf (k+1) its).flatten:=by
    rw[QV,QY,Jn]
   rw[<- e2,<- zgs its k (acc++its),<- e,QV,Jl]
section
variable {X : Cx} {pins : List (Addr × Obj)} {σ : St} {H : Hp} {s : Shared} {l b : Addr} {xs ys zs : List V}
theorem Inv.lset{its its':List Value}{n:Nat}{f:Array Value->Array Value}{t':Nat}(I:Inv X pins σ H s)(hH:H l=some (.lst xs))
 (e:s.heap.get? l=some { cls := .type "list", data := .seq its.toArray n }) (hf:f its.toArray=its'.toArray) (hv:Vals ys its') (hz:ys.length<=sizeLine) :
 Inv X pins σ (upd H l (.lst ys)) { s with heap:=s.heap.update l (YI f),toks:=t' }:=by
 have q:=PySem.IsL.update e f
 rw[hf] at q
 refine I.write (x:=l) (e:=l) (by rw[hH];exact trivial) (.inl rfl) (λb' u hb hu=>(QJ s.heap (YI f) (ZD hb)).trans hu) ⟨_,q⟩ ?_
 exact⟨hz,its',_,hv,q⟩
theorem Inv.lnew{its:List Value}{t':Nat}(I:Inv X pins σ H s)(hv:Vals ys its)(hz:ys.length<=sizeLine) :
 Inv X pins σ (upd H s.heap.objs.size (.lst ys)) { s with heap:=s.heap.push { cls := .type "list", data := .seq its.toArray },toks:=t' } :=
 I.laid (λ_ _ q=>Qc _ q) (Qo _) ⟨hz,its,0,hv,Qq _ rfl⟩
theorem Inv.fresh(I:Inv X pins σ H s):H s.heap.objs.size=none:=I.hok.fresh (Qo _)
theorem Inv.lstM(I:Inv X pins σ H s)(hH:H l=some (.lst xs)):xs.length<=sizeLine/\∃ (its:List Value) (n:Nat),Vals xs its/\xs.length=its.length/\s.heap.get? l=some { cls := .type "list", data := .seq its.toArray n }:=by
 obtain⟨z,its,n,r,e⟩:=I.hok l _ hH
 exact⟨z,its,n,r,r.length,e⟩
theorem zuq{n:Nat}(h:n<=sizeLine):JT n=false:=by
 unfold JT
 exact decide_eq_false (by omega)
end
section
variable {X : Cx}
def zhv:V->List V->Hp->VK->Prop:=λx vs H Q=>∃ l xs y,x = .ref l/\vs = [y]/\H l=some (.lst xs)/\xs.length<sizeLine/\Q .non (upd H l (.lst (xs ++ [y])))
theorem zg2:MtM X "list.append" zhv:=by
 intro pins s σ H x vs v us Q I rx rv h
 obtain⟨l,xs,y,rfl,rfl,hH,hz,q⟩:=h
 cases rx
 obtain⟨u,rfl,ru⟩:=rv.one
 obtain⟨z,its,n,r,hl,e⟩:=I.lstM hH
 refine call_meets F.slot_list_append ⟨_,e,rfl⟩ F.entry_list_append (F.args_list_append_2 _ _) (PySem.list_append l its.toArray n u (by rw[Qx];omega)) ⟨e,?_⟩
 refine⟨.non,_,I.lset (its':=its ++ [u]) hH e (by simp) (r.append (.cons ru .nil)) ?_,rfl,q⟩
 rw[Qg,Zq]
 omega
def rCat:R2:=λx y H Q=>∃ l b xs zs,x = .ref l/\y = .ref b/\H l=some (.lst xs)/\H b=some (.lst zs)/\xs.length+zs.length<=sizeLine/\∀ p,H p=none->Q (.ref p) (upd H p (.lst (xs++zs)))
theorem op_cat:OpR X (binaryOp .Add) rCat:=by
 intro pins s σ H x y v u Q I rx ry h
 obtain⟨l,b,xs,zs,rfl,rfl,hH,hB,hz,q⟩:=h
 cases rx
 cases ry
 obtain⟨z,its,n,r,hl,e⟩:=I.lstM hH
 obtain⟨z2,its2,n2,r2,hl2,e2⟩:=I.lstM hB
 refine PySem.P.add_list e e2 ?_ (by rw[Qx,Qx];omega)
 have ea:its.toArray++its2.toArray=(its++its2).toArray:=by simp
 rw[ea]
 exact⟨.ref _,_,I.lnew (t':=s.toks) (r.append r2) (by rw[Qg];omega),rfl,q _ I.fresh⟩
def rRep:R2:=λx y H Q=>∃ l k xs,x = .ref l/\y = .int k/\H l=some (.lst xs)/\-(2 ^ 63)<=k/\k<2 ^ 63/\xs.length * k.toNat<=sizeLine /\
 ∀ p,H p=none->Q (.ref p) (upd H p (.lst (Qf k.toNat xs).flatten))
theorem zhx{α:Type}(xs:List α)(k:Nat):(Qf k xs).flatten.length=k * xs.length:=by
 induction k with
 | zero=>simp
 | succ k ih=>rw[QV,QY,Qg,ih,qc,Nat.add_comm]
theorem op_rep:OpR X (binaryOp .Mult) rRep:=by
 intro pins s σ H x y v u Q I rx ry h
 obtain⟨l,k,xs,rfl,rfl,hH,h1,h2,hz,q⟩:=h
 cases rx
 obtain⟨t,rfl⟩:=ry
 obtain⟨z,its,n,r,hl,e⟩:=I.lstM hH
 have hlen:its.toArray.size * k.toNat<=sizeLine:=by rw[Qx,<- hl];exact hz
 have hcap:¬ its.toArray.size * k.toNat > (2 ^ 63 - 1) / 8:=by
  have:(sizeLine:Nat)<=(2 ^ 63 - 1) / 8:=by decide
  omega
 have hfit:¬ (!Builtin.List.listFitsIndex k)=true:=by
  rw[fitsIndex_both h1 h2]
  exact Qn
 have hlong:¬ JT (its.toArray.size * k.toNat)=true:=by
  rw[zuq hlen]
  exact Qn
 have hnew:Yq (λx1 x2=>x1++x2) #[] (Qf (if its.toArray.isEmpty=true then 0 else k.toNat) its.toArray)=(Qf k.toNat its).flatten.toArray:=by
  have f0:∀ m:Nat,Yq (λx1 x2=>x1++x2) #[] (Qf m its.toArray)=(Qf m its).flatten.toArray:=λm=>by
   have:=zgs its m []
   rw[JU] at this
   exact this
  rw[f0]
  cases its with
  | nil=>simp
  | cons a r'=>rw[if_neg (by simp)]
 refine wpAny_binaryOp_repeat_ref (T := "list") (U := "int") (by decide) ⟨_,e,rfl⟩ (λs'=>typeIs_int s' k t) noFill_list_mul F.fills_int_mul Y0 repeat_list qt.lookup
  (call_meets Y0 (typeIs_int s k t) qu (qd _ _) (int___rmul___int_list k t l its.toArray n)
   ⟨e,rfl,⟨_,e,rfl⟩,call_meets F.slot_list_mul ⟨_,e,rfl⟩ F.entry_list_mul (F.args_list_mul_2 _ _) (AutoListH.list___mul___list_int_3 l its.toArray n k t hfit hcap hlong) ⟨e,?_⟩⟩)
 rw[hnew]
 exact⟨.ref _,_,I.lnew (t':=s.toks) (r.rep k.toNat) (by rw[zhx,jp];exact hz),rfl,q _ I.fresh⟩
end
end L2
namespace Att
open PySem PySem.W PySem.Calls PyProof.Rows
theorem zjm{P:Params}{h:Heap}:∀ (ns:List Int) (vs:List Value),WellAll P h vs (ns.map WData.int)->IntsAre vs ns:=by
 intro ns
 induction ns with
 | nil =>
   intro vs w
   rw[List.map_nil] at w
   cases w
   exact .nil
 | cons n ns ih =>
   intro vs w
   rw[Q2] at w
   cases w with
   | cons a b =>
     cases a
     exact .cons _ _ (ih _ b)
theorem zq6{l:OpenLaw}{n:Nat}(hn:l.most=some n){P:Params}{h:Heap}{args:List WData}{vals:List Value}
 (hpre:l.row.toRowW.claim.pre args=true) (hwl:WellAll P h vals args) :
 ∃ a vs ns,vals = [QC a]/\args = [WData.list (ns.map WData.int)]/\h.get? a=some { cls := .type "list", data := .seq vs.toArray }/\IntsAre vs ns/\ns.length<=n:=by
 have hsh:WShape.hasAll [] args [.list .int]=true:=(pre_splitW hpre).1
 have hc:l.pre.holds [] { args:=args }=true:=(pre_splitW hpre).2
 obtain⟨d,r,rfl,h1,h2⟩:=hasAllW_cons hsh
 obtain rfl:=hasAllW_nil h2
 obtain⟨xs,rfl,h3⟩:=hasW_list h1
 obtain⟨ns,rfl⟩:=items_int h3
 have hlen:ns.length<=n:=by
  unfold OpenLaw.pre at hc
  have h4:(WTm.not (.lt (.lit (.int (n:Int))) (.len (.arg 0)))).holds [] { args := [.list (ns.map .int)] }=true:=by
   have h4:=(holds_andW hc).1
   rw[hn] at h4
   exact h4
  have h5:=condW_of h4 (w_not (w_lt w_lit (w_len_list (w_arg rfl))))
  rw[Qb] at h5
  refine jf λq=>?_
  have q':(n:Int)<((ns.length:Nat):Int):=by omega
  first
   | (rw[decide_eq_true q'] at h5;exact absurd h5 (by decide))
   | (simp at h5;omega)
 cases hwl with
 | cons w1 w2 =>
   cases w2
   cases w1 with
   | list ho hall=>exact⟨_,_,ns,rfl,rfl,ho,zjm ns _ hall,hlen⟩
theorem zsx(l:OpenLaw)(args:List WData):l.row.toRowW.claim.post args (.bool true) args=true :=
 postW_of (r:=l.row.toRowW) (X:=(true == true))
  (show WShape.has [] (.bool true) .bool=true by first|rfl|decide|simp[WShape.has,WShape.arms,WShape.armsAll])
  (show(WTm.eq .res (.lit (.bool true))).value [] { args:=args,res:=some (.bool true),after:=args }=some (.bool (true == true)) from w_eq_bool (w_res rfl) w_lit) rfl
theorem attach_call{l:OpenLaw}{n:Nat}{q:Program}{loose:List Str}{XP:(Str->Option Value)->Heap->Prop}{YP:World->Heap->Prop}{d:DefRec}
 (hn:l.most=some n) (hdf:d.params.defaults = [])
 (call:∀ (w:World) (s₀ s₁:Shared) (mg mb:Str->Option Value) (fa:Addr) (o:Obj) (pm cd doc:Value) (a:Addr) (vs:List Value) (ns:List Int),
  Ground q loose [] XP w s₀ mg mb s₁.heap->YP w s₁.heap ->
  s₁.heap.get? fa=some o->o.data = .func (docDef d.name d.params d.body d.scope pm cd doc)->s₁.heap.CodeRec cd d.name->mg d.name=some (.ref fa) ->
  s₁.heap.get? a=some { cls := .type "list", data := .seq vs.toArray }->IntsAre vs ns->ns.length<=n->s₁.gens = #[] ->
  codeAny (model l.prog w) callerA (.call (.ref fa) ⟨[.ref a],[]⟩) (λr s'=>r = .ok (.ret (.bool true))/\OldK s₁.heap s'.heap/\s'.os=s₁.os/\AllBare s'.gens) s₁) :
 WalkO q loose XP YP l.row.toRowW d [] (λf vs=>qL f vs):=by
 intro w s₀ s₁ mg mb G Y fa o pm cd doc dV kV ho hd hcd hD hmg hg args vals as hpre hlay hrd hwl hlo
 obtain rfl:dV = .none:=Dflts.none hD hdf
 obtain rfl:kV = .none:=Dflts.noKw hD
 obtain⟨a,vs,ns,rfl,rfl,hobj,hints,hlen⟩:=zq6 hn hpre hwl
 refine enter_call (codeAny_mono (call w s₀ s₁ mg mb fa o pm cd doc a vs ns G Y ho (fd_plain hd) hcd hmg hobj hints hlen hg) λr s' hq=>?_)
 obtain⟨rfl,h2,h3,h4⟩:=hq
 exact⟨.inl ⟨.bool true,.bool true,[],rfl,λ_=>rfl,.bool true,zsx l _,λ_=>⟨List.Pairwise.nil,λ_ hm=>(nomatch hm)⟩⟩,h2,h3,h4⟩
end Att
namespace L2
open PySem PySem.Spec PyProof.Rows
theorem zk3:∀ {vs:List Value} {ns:List Int},IntsAre vs ns->Vals (ns.map V.int) vs
 | _,_,.nil => .nil
 | _,_,.cons n t h => .cons ⟨t,rfl⟩ (zk3 h)
def Only(H:Hp):Prop:=∀ b,H b=none\/∃ o xs,H b=some (.frz o (.lst xs))
theorem zuo{P:Program}{w:World}{K:Qa}{mg mb:Str->Option Value}{CX:CXT}{k:Nat}{fa a:Addr}{fd:FuncData}{x:Str}{sp:Sp}{s₁:Shared}{vs:List Value}{ns:List Int}
 (KX:K.In s₁.heap) (hns:s₁.heap.Ns mainGlobals mg) (hb:s₁.heap.Ns builtinsNs mb) (hbb:∀ x:Str,x ≠ "__name__" -> mb x=bootBuiltins x) (hlim:s₁.heap.NoLimit) (hg:s₁.gens = #[])
 (ha:s₁.heap.get? a=some { cls := .type "list", data := .seq vs.toArray }) (hi:IntsAre vs ns) (hl:ns.length<=sizeLine) (hr:Room k callerA)
 (F:∀ base:Heap,K.In base->base.Ns mainGlobals mg->FnOk P w K mg base CX k fa fd [x] sp) (hbind:∀ (s:Shared) (u:Value),BindsTo s fd ⟨[u],[]⟩ [(x,u)])
 (hsp:∀ H:Hp,Only H->SqL K H a (ns.map V.int)->sp [.ref a] H (λv _=>v = .bl true) λ_ _ _=>False)
 (hCX:∀ H e s',CX [] H s₁ (λ_ _ _=>False) e s'->False) :
 codeAny (model P w) callerA (.call (.ref fa) ⟨[.ref a],[]⟩) (λr s'=>r = .ok (.ret (.bool true))/\OldK s₁.heap s'.heap/\s'.os=s₁.os/\AllBare s'.gens) s₁:=by
 have rv:=zk3 hi
 have lenV:=hi.length
 -- from an abstract heap in which nothing but the script may be tracked
 have core:∀ H:Hp,Only H->SqL K H a (ns.map V.int)->HOk P w H s₁.heap->(∀ b,H b ≠ none->b=a)->(H a ≠ none->K.lookup a=none) ->
  codeAny (model P w) callerA (.call (.ref fa) ⟨[.ref a],[]⟩) (λr s'=>r = .ok (.ret (.bool true))/\OldK s₁.heap s'.heap/\s'.os=s₁.os/\AllBare s'.gens) s₁:=by
  intro H hO hS hok hA hK
  have base_of:∀ {b:Addr} {o:Obj},s₁.heap.get? b=some o->H b=none->(hidT s₁.heap H).get? b=some o:=λe n=>zt7 e n
  have noA:∀ {b:Addr} {o:Obj} {es:Array DictEntry} {ep:Nat},s₁.heap.get? b=some o->o.data = .dict es ep->H b=none:=λ{b o es ep} e d=>by
   cases q:H b with
   | none=>rfl
   | some u =>
     have e':b=a:=hA b (by rw[q];simp)
     subst e'
     rw[ha] at e;cases e
     have d':zh vs.toArray _=Data.dict es ep:=d
     cases d'
  have nsK:∀ {b:Addr} {m:Str->Option Value},s₁.heap.Ns b m->(hidT s₁.heap H).Ns b m:=λ{b m} ⟨o,es,ep,e,d,r⟩=>⟨o,es,ep,base_of e (noA e d),d,r⟩
  have hKb:K.In (hidT s₁.heap H):=λb o e=>base_of (KX b o e) (by
   cases q:H b with
   | none=>rfl
   | some u =>
     have e':b=a:=hA b (by rw[q];simp)
     subst e'
     rw[hK (by rw[q];simp)] at e;cases e)
  have hM:Mod K mg (hidT s₁.heap H):=⟨hKb,nsK hns,⟨mb,nsK hb,hbb⟩,let ⟨mc,h1,h2⟩:=hlim; ⟨mc,nsK h1,h2⟩⟩
  have e0:Env0 P w K mg (hidT s₁.heap H) callerA [] s₁ H:=⟨rfl,hM,λb o e=>zxc e,Yh (zs2 _ _),trivial,λb hb=>absurd (show b ∈ ([]:List Addr) from hb) (by simp),hok,.of_eq hg⟩
  refine codeAny_mono ((F _ hKb (nsK hns)).run callerA [] s₁ H ⟨[.ref a],[]⟩ [.ref a] [.ref a] _ _ hr e0 (hbind s₁ (.ref a)) (.cons rfl .nil) (hsp H hO hS)) λr s' h=>?_
  cases r with
  | error e=>exact(hCX H e s' h).elim
  | ok fl =>
    cases fl with
    | next=>exact ZF h
    | brk=>exact ZF h
    | cont=>exact ZF h
    | ret u =>
      obtain⟨v,H',os,bare,un,hok',r',q⟩:=h
      have q':v = .bl true:=q
      subst q'
      obtain rfl:u=Jr true:=r'
      refine⟨rfl,OldK.of_keep λb o e=>?_,os,bare⟩
      cases q:H b with
      | none=>exact un.keep b o e q (by intro z;exact absurd (show b ∈ ([]:List Addr) from z) (by simp)) (by simp)
      | some u =>
        rcases hO b with z|⟨ob,xs,z⟩
        ·rw[q] at z;cases z
        ·have z2:=un.frzs b ob _ z
         obtain⟨e1,_⟩:=hok b _ z
         obtain⟨e2,_⟩:=hok' b _ z2
         rw[e] at e1;cases e1
         exact e2
 cases hk:K.lookup a with
 | some o =>
   -- the script is one of the module's own objects
   have e:=KX a o hk
   rw[ha] at e
   cases e
   refine core (λ_=>none) (λ_ => .inl rfl) (.inr ⟨_,vs.toArray,_,hk,rfl,rfl,rfl,by rw[Qx,lenV];exact hl,by simpa using rv⟩) (λb u z=>by have z':(none:Option HO)=some u:=z;cases z') (λb z=>absurd rfl z) λz=>absurd rfl z
 | none =>
   refine core (λb=>if b=a then some (.frz { cls := .type "list", data := .seq vs.toArray } (.lst (ns.map V.int))) else none) (λb=>?_) (.inl (.inr ⟨{ cls := .type "list", data := .seq vs.toArray },if_pos rfl⟩)) (λb u z=>?_) (λb z=>?_) λ_=>hk
   ·by_cases hb:b=a
    ·exact .inr ⟨_,_,if_pos hb⟩
    ·exact .inl (if_neg hb)
   ·by_cases hb:b=a
    ·have z':=(if_pos hb).symm.trans z
     cases z'
     subst hb
     exact⟨ha,by rw[Qb];exact hl,vs,_,rv,ha⟩
    ·have z':=(if_neg hb).symm.trans z
     cases z'
   ·by_cases hb:b=a
    ·exact hb
    ·exact absurd (if_neg hb) z
theorem walk_of{l:jv}{n k:Nat}{q:Program}{loose:List Str}{XP:(Str->Option Value)->Heap->Prop}{YP:World->Heap->Prop}{d:DefRec}{K:Params->Qa}{CX:World->CXT}{sp:World->Sp}{x:Str}
 (hn:l.most=some n) (hn2:n<=sizeLine) (hdf:d.params.defaults = []) (hr:Room k callerA)
 (hY:∀ (w:World) (h:Heap),YP w h->(K w.params).In h)
 (F:∀ (w:World) (mg:Str->Option Value) (fa:Addr) (h:Heap),(K w.params).In h->h.Ns mainGlobals mg->mg d.name=some (.ref fa) ->
  ∃ fd:FuncData,(∀ (s:Shared) (u:Value),BindsTo s fd ⟨[u],[]⟩ [(x,u)]) /\
    ∀ base:Heap,(K w.params).In base->base.Ns mainGlobals mg->FnOk l.prog w (K w.params) mg base (CX w) k fa fd [x] (sp w))
 (hsp:∀ (w:World) (H:Hp) (a:Addr) (ns:List Int),ns.length<=n->Only H->SqL (K w.params) H a (ns.map V.int)->sp w [.ref a] H (λv _=>v = .bl true) λ_ _ _=>False)
 (hCX:∀ (w:World) (H:Hp) (s:Shared) (e:Value) (s':Shared),CX w [] H s (λ_ _ _=>False) e s'->False) :
 qU q loose XP YP l.row.toRowW d [] (λf vs=>qL f vs):=by
 refine Att.attach_call hn hdf λw s₀ s₁ mg mb fa o pm cd doc a vs ns G Y ho hd hcd hmg hobj hints hlen hg=>?_
 have KX:=hY w _ Y
 obtain⟨fd,hb,hF⟩:=F w mg fa _ KX G.T.g hmg
 exact zuo KX G.T.g G.T.b G.T.builtins G.T.nolimit hg hobj hints (Q4 hlen hn2) hr hF hb (λH hO hS=>hsp w H a ns hlen hO hS) λH e s'=>hCX w H s₁ e s'
def zce(s:Stmt):Arguments:=match s with
 | .FunctionDef _ a _ _ _ _ _ _ _ _=>a
 | _=>{ posonlyargs := [],args := [],vararg:=none,kwonlyargs := [],kw_defaults := [],kwarg:=none,defaults := [] }
def zbn(s:Stmt):List Stmt:=match s with
 | .FunctionDef _ _ b _ _ _ _ _ _ _=>b
 | _ => []
def zah(s:Stmt):Scope:=match s with
 | .FunctionDef _ _ _ _ _ _ sc _ _ _=>sc
 | _=>{ kind := .function,names := [],isGenerator:=false,isCoroutine:=false }
abbrev CX0:CXT:=λ_ _ _ _ _ _=>False
abbrev E0:XK:=λ_ _ _=>False
theorem zwd{X:Cx}:zmo CX0 X E0:=λ_ _ _ _ _ _ _ h=>h.elim
structure Fun (K:Qa) (x qual:Str) (st:Stmt) (f:Addr) (fd:FuncData):Prop where
 ex:∃ (oc:Value) (od:Option Addr) (kV doc pm:Value) (an:Option Addr) (cdv ct:Value) (osl:Array (Option Value)),
  fd=Zx x qual (zce st) (zbn st) (zah st) .none kV doc pm an cdv ct/\K.lookup f=some ⟨oc,od,.func fd,osl⟩/\Jy K cdv qual=true
 kp:ZB K (.ref f)=true
section
variable {P : Program} {w : World} {K : Qa} {mg : Str → Option Value} {base : Heap}
theorem Fun.ok{x qual:Str}{st:Stmt}{f:Addr}{fd:FuncData}{N ps:List Str}{k:Nat}{sp:Sp}(F:Fun K x qual st f fd)(S:FnScope N ps (zah st))(len:∀ vs H Q E,sp vs H Q E->vs.length=ps.length)
 (hbody:∀ (cdv:Value) (A:Around) (outer:List Env) (s:Shared) (H:Hp) (vs:List V) (Q:VK) (E:XK),Room k (A.deeper (envOfC qual (zah st) s.heap.objs.size f cdv))->sp vs H Q E ->
  ∃ t,PSs (cxOf CX0 P w K mg base N qual (zah st) f cdv A outer s H E).nox (zbn st) t/\t { nx:=λ_ H'=>Q .non H',rt:=Q } (start N vs) H):FnOk P w K mg base CX0 (k+1) f fd ps sp:=by
 obtain⟨oc,od,kV,doc,pm,an,cdv,ct,osl,rfl,lk,hcd⟩:=F.ex
 refine zqn lk hcd S len λA outer s H vs Q E hr hsp=>?_
 obtain⟨t,h,q⟩:=hbody cdv A outer s H vs Q E hr hsp
 exact⟨t,h.nox,q⟩
theorem Fun.binds{x qual:Str}{st:Stmt}{f:Addr}{fd:FuncData}{ps:List Str}(F:Fun K x qual st f fd)
 (h:∀ (kV doc pm:Value) (an:Option Addr) (cdv ct:Value) (us:List Value),us.length=ps.length->bindArgs (Zx x qual (zce st) (zbn st) (zah st) .none kV doc pm an cdv ct) ⟨us,[]⟩=pure (ps.zip us)):Binds K fd ps []:=by
 obtain⟨oc,od,kV,doc,pm,an,cdv,ct,osl,rfl,lk,hcd⟩:=F.ex
 exact .all (h kV doc pm an cdv ct)
theorem zrc{x qual:Str}{st:Stmt}{f:Addr}{oc:Value}{od an:Option Addr}{osl:Array (Option Value)}{kV doc pm cdv ct:Value}(l:K.lookup f=some ⟨oc,od,.func (Zx x qual (zce st) (zbn st) (zah st) .none kV doc pm an cdv ct),osl⟩)
 (c:Jy K cdv qual=true) (k:ZB K (.ref f)=true):Fun K x qual st f (Zx x qual (zce st) (zbn st) (zah st) .none kV doc pm an cdv ct):=⟨⟨oc,od,kV,doc,pm,an,cdv,ct,osl,rfl,l,c⟩,k⟩
end
theorem iteF{A B:Prop}(h:B):if false=true then A else B:=by
 rw[if_neg Qn]
 exact h
theorem iteT{A B:Prop}(h:A):if true=true then A else B:=by
 rw[if_pos rfl]
 exact h
theorem ite2{c A B:Prop}[Decidable c](h1:c->A)(h2:¬ c->B):if c then A else B:=by
 by_cases h:c
 ·rw[if_pos h]
  exact h1 h
 ·rw[if_neg h]
  exact h2 h
def Same(H H':Hp):Prop:=∀ b o,H b=some o->H' b=some o
theorem Same.refl(H:Hp):Same H H:=λ_ _ h=>h
end L2
set_option maxHeartbeats 4000000
namespace L3
open PySem PySem.Spec
open PyProof.Rows hiding St
open L2
theorem zp3{α β:Type}{l:List α}{f:α->β->Sem (ForInStep β)}(g:α->β->β):∀ (c:β),(∀ x ∈ l,∀ c,f x c=pure (.yield (g x c)))->forIn l c f=pure (l.foldl (λc x=>g x c) c):=by
 induction l with
 | nil=>intro c _;rfl
 | cons x l ih =>
   intro c h
   rw[JV,h x Qj,pure_bind]
   exact ih (g x c) λy hy=>h y (Qe _ hy)
def clOf(ns:List (Str × NameKind))(env:Env):List (Str × Addr):=ns.foldl (λcs x=>if x.2 == .free then(x.1,(env.cells.lookup x.1).getD 0)::cs else cs) []
theorem zi5{scope:Scope}{env:Env}(h:∀ p ∈ scope.names,p.2 = .free->∃ c,env.cells.lookup p.1=some c):closureFor scope env=pure (clOf scope.names env):=by
 simp only[closureFor]
 unfold clOf
 rw[zp3 (λ(x:Str × NameKind) (cs:List (Str × Addr))=>if x.2 == .free then(x.1,(env.cells.lookup x.1).getD 0)::cs else cs)]
 ·rfl
 ·intro x hx c
  obtain⟨n,k⟩:=x
  dsimp only
  by_cases hk:k = .free
  ·subst hk
   obtain⟨a,ha⟩:=h _ hx rfl
   have ha':env.cells.lookup n=some a:=ha
   simp only[beq_self_eq_true,if_true,cellOf,ha',pure_bind,Option.getD_some]
  ·have hb:(k == Zk)=false:=by simpa using hk
   simp only[hb,ZP,if_false]
theorem zyh{env:Env}{x:Str}:∀ (ns:List (Str × NameKind)) (acc:List (Str × Addr)) (c:Addr),
 (ns.foldl (λcs y=>if y.2 == .free then(y.1,(env.cells.lookup y.1).getD 0)::cs else cs) acc).lookup x=some c->acc.lookup x=some c\/((x,Zk) ∈ ns/\c=(env.cells.lookup x).getD 0):=by
 intro ns
 induction ns with
 | nil=>intro acc c h;exact .inl h
 | cons y r ih =>
   intro acc c h
   obtain⟨n,k⟩:=y
   rw[Jl] at h
   rcases ih _ c h with h1|⟨h1,h2⟩
   ·by_cases hk:k = .free
    ·subst hk
     simp only[beq_self_eq_true,if_true] at h1
     by_cases hx:x=n
     ·subst hx
      rw[Zr] at h1
      cases h1
      exact .inr ⟨Qj,rfl⟩
     ·have hb:(x == n)=false:=by simpa using hx
      rw[Zz,hb] at h1
      exact .inl h1
    ·have hb:(k == Zk)=false:=by simpa using hk
     simp only[hb,ZP,if_false] at h1
     exact .inl h1
   ·exact .inr ⟨Qe _ h1,h2⟩
theorem zn3{env:Env}{x:Str}:∀ (ns:List (Str × NameKind)) (acc:List (Str × Addr)),(acc.lookup x).isSome=true\/(x,Zk) ∈ ns ->
 ((ns.foldl (λcs y=>if y.2 == .free then(y.1,(env.cells.lookup y.1).getD 0)::cs else cs) acc).lookup x).isSome=true:=by
 intro ns
 induction ns with
 | nil => intro acc h;rcases h with h|h
          ·exact h
          ·exact absurd h (by simp)
 | cons y r ih =>
   intro acc h
   obtain⟨n,k⟩:=y
   rw[Jl]
   refine ih _ ?_
   by_cases hk:k = .free
   ·subst hk
    simp only[beq_self_eq_true,if_true]
    by_cases hx:x=n
    ·subst hx
     left
     rw[Zr]
     rfl
    ·have hb:(x == n)=false:=by simpa using hx
     rw[Zz,hb]
     rcases h with h|h
     ·exact .inl h
     ·rcases Qt.mp h with z|z
      ·injection z with z1 _
       exact absurd z1 hx
      ·exact .inr z
   ·have hb:(k == Zk)=false:=by simpa using hk
    simp only[hb,ZP,if_false]
    rcases h with h|h
    ·exact .inl h
    ·rcases Qt.mp h with z|z
     ·injection z with _ z2
      exact absurd z2.symm hk
     ·exact .inr z
theorem zp2{ns:List (Str × NameKind)}{env:Env}{x:Str}{c:Addr}(h:(clOf ns env).lookup x=some c):(x,Zk) ∈ ns/\c=(env.cells.lookup x).getD 0:=by
 rcases zyh ns [] c h with z|z
 ·cases z
 ·exact z
theorem zs0{ns:List (Str × NameKind)}{env:Env}{x:Str}{c:Addr}(h:(x,Zk) ∈ ns)(e:env.cells.lookup x=some c):(clOf ns env).lookup x=some c:=by
 obtain⟨d,hd⟩:=JR.mp (zn3 (env:=env) ns [] (.inr h))
 have hd':(clOf ns env).lookup x=some d:=hd
 rw[hd',(zp2 hd').2,e]
 rfl
theorem zdt{env:Env}{x:Str}:∀ (names:List (Str × NameKind)),
 (names.map λ(n,k)=>if(k == Zk && env.scope.kind == .function && env.kindOf n == some .cell) then(n,Zo) else(n,k)).lookup x =
  (names.lookup x).map λk=>if(k == Zk && env.scope.kind == .function && env.kindOf x == some .cell) then Zo else k
 | []=>rfl
 | (n,k)::r=>by
   have ih:=zdt (env:=env) (x:=x) r
   show J2 x ((if(k == Zk && env.scope.kind == .function && env.kindOf n == some .cell)=true then(n,Zo) else(n,k))::_)=_
   by_cases hx:x=n
   ·subst hx
    by_cases hc:(k == Zk && env.scope.kind == .function && env.kindOf x == some .cell)=true
    ·rw[if_pos hc,Zr,Zr,Y1,if_pos hc]
    ·rw[if_neg hc,Zr,Zr,Y1,if_neg hc]
   ·have hb:(x == n)=false:=by simpa using hx
    by_cases hc:(k == Zk && env.scope.kind == .function && env.kindOf n == some .cell)=true
    ·rw[if_pos hc,Zz,hb,Zz,hb];exact ih
    ·rw[if_neg hc,Zz,hb,Zz,hb];exact ih
theorem zi0{x:Str}{c:Addr}:∀ (names:List (Str × NameKind)) (h:Heap) (acc:List (Str × Addr)),(cellsFrom h.objs.size names acc).lookup x=some c ->
 acc.lookup x=some c\/((x,Zo) ∈ names/\h.objs.size<=c/\(pushCells h names).IsCell c none)
 | [],_,_,e => .inl e
 | (n,k)::r,h,acc,e=>by
   unfold cellsFrom at e
   unfold pushCells
   by_cases hk:k = .cell
   ·subst hk
    simp only[beq_self_eq_true,if_true] at e ⊢
    rw[<- QT h { cls := .type "cell", data := .cell none }] at e
    rcases zi0 r _ _ e with z|⟨z1,z2,z3⟩
    ·by_cases hx:x=n
     ·subst hx
      rw[Zr] at z
      cases z
      exact .inr ⟨Qj,Qo _,⟨_,pushCells_keeps r _ _ _ (Qq _ rfl),rfl⟩⟩
     ·have hb:(x == n)=false:=by simpa using hx
      rw[Zz,hb] at z
      exact .inl z
    ·rw[QT] at z2
     exact .inr ⟨Qe _ z1,by omega,z3⟩
   ·have hb:(k == Zo)=false:=by simpa using hk
    simp only[hb,ZP,if_false] at e ⊢
    rcases zi0 r h acc e with z|⟨z1,z2,z3⟩
    ·exact .inl z
    ·exact .inr ⟨Qe _ z1,z2,z3⟩
theorem zi3{x:Str}:∀ (names:List (Str × NameKind)) (n:Nat) (acc:List (Str × Addr)),(x,Zo) ∉ names->(cellsFrom n names acc).lookup x=acc.lookup x
 | [],_,_,_=>rfl
 | (y,k)::r,n,acc,h=>by
   have hr:(x,Zo) ∉ r:=λz=>h (Qe _ z)
   unfold cellsFrom
   by_cases hk:k = .cell
   ·subst hk
    simp only[beq_self_eq_true,if_true]
    have hx:(x == y)=false:=by
     have:x ≠ y:=λz=>h (by rw[z];exact Qj)
     simpa using this
    rw[zi3 r _ _ hr,Zz,hx]
   ·have hb:(k == Zo)=false:=by simpa using hk
    simp only[hb,ZP,if_false]
    exact zi3 r n acc hr
theorem znt:∀ (names:List (Str × NameKind)) (n:Nat) (acc:List (Str × Addr)),(∀ x c,acc.lookup x=some c->c<n)->(∀ x y c,acc.lookup x=some c->acc.lookup y=some c->x=y) ->
 ∀ x y c,(cellsFrom n names acc).lookup x=some c->(cellsFrom n names acc).lookup y=some c->x=y
 | [],_,_,_,hi=>hi
 | (a,k)::r,n,acc,hb,hi=>by
   unfold cellsFrom
   by_cases hk:k = .cell
   ·subst hk
    simp only[beq_self_eq_true,if_true]
    have lk:∀ x c,((a,n)::acc).lookup x=some c->(x=a/\c=n)\/(x ≠ a/\acc.lookup x=some c):=λx c e=>by
     by_cases hx:x=a
     ·subst hx;rw[Zr] at e;cases e;exact .inl ⟨rfl,rfl⟩
     ·have hz:(x == a)=false:=by simpa using hx
      rw[Zz,hz] at e
      exact .inr ⟨hx,e⟩
    refine znt r (n+1) _ (λx c e=>?_) λx y c e1 e2=>?_
    ·rcases lk x c e with ⟨_,z⟩|⟨_,z⟩
     ·rw[z];exact ZQ _
     ·exact Z1 (hb x c z)
    ·rcases lk x c e1 with ⟨z1,w1⟩|⟨z1,w1⟩ <;> rcases lk y c e2 with ⟨z2,w2⟩|⟨z2,w2⟩
     ·rw[z1,z2]
     ·exact absurd (hb y c w2) (by rw[w1];exact QS _)
     ·exact absurd (hb x c w1) (by rw[w2];exact QS _)
     ·exact hi x y c w1 w2
   ·have hz:(k == Zo)=false:=by simpa using hk
    simp only[hz,ZP,if_false]
    exact znt r n acc hb hi
theorem zjc{M:Model}{A:Around}{E:Value->Shared->Prop}{s:Shared}{scope:Scope}{globals:Addr}{cl:List (Str × Addr)}{qual:Str}{code:Value}{env:Env}{builtins:Addr}{Q:Env->Shared->Prop}
 (h:∀ h',h'.Ns s.heap.objs.size (λ_=>none)->(∀ b o,s.heap.get? b=some o->h'.get? b=some o)->(∀ x c,(cellsFrom (s.heap.objs.size+1) scope.names cl).lookup x=some c->cl.lookup x=some c\/((x,Zo) ∈ scope.names/\s.heap.objs.size+1<=c/\h'.IsCell c none)) ->
  Q (newEnv scope s.heap.objs.size globals (cellsFrom (s.heap.objs.size+1) scope.names cl) qual none code (some env) builtins) { s with heap:=h' }) :
 wpAny M A (newFunctionEnv scope globals cl [] qual none code (some env) builtins) Q E s:=by
 simp only[newFunctionEnv,jO,if_true]
 refine wpAny_bind (wpAny_alloc ?_)
 refine wpAny_bind (wpAny_layCells _ (λname kind cells=>by cases hkc:kind == Zo <;> simp[hkc]) _ _ _ _ ?_)
 rw[show({ s with heap:=s.heap.push { cls := .type "dict", data := .dict #[] } }:Shared).heap.objs.size=s.heap.objs.size+1 from QT ..]
 rw[Yi]
 refine wpAny_bind (wpAny_pure (wpAny_pure (h _ ((Heap.Ns.new s.heap (.type "dict")).keeps (pushCells_keeps _ _)) (λb o e=>pushCells_keeps _ _ b o (Qc _ e)) λx c e=>?_)))
 have:=zi0 scope.names (s.heap.push { cls := .type "dict", data := .dict #[] }) cl (x:=x) (c:=c) (by rw[QT];exact e)
 rwa [QT] at this
def zb9(X:Cx)(scope:Scope)(N':List Str)(C:Addr)(s:Shared)(H:Hp)(ex:List Addr):Cx :=
 { X with N:=N',s₀:=s,H₀:=H,env:=compEnvC scope (cellsFrom (C+1) scope.names (clOf scope.names X.env)) C X.env,outer:=X.stack,stack:=X.stack,ex:=ex,fn:=λx=>scope.names.lookup x == some .cell,pn := [],xe:=λ_ _=>False }
def zn5(h:Nat)(N' N:List Str)(names sc:List (Str × NameKind)):Bool :=
 decide (N'.length=h+N.length) && decide N'.Nodup
 && (names.all λp=>(p.2 != .cell || names.lookup p.1 == some .cell) && (p.2 != .local || names.lookup p.1 == some .local) && (p.2 != .free || (names.lookup p.1 == some .free && (sc.lookup p.1 == some .cell || sc.lookup p.1 == some .free))))
 && (((N'.drop h).zip N).all λp=>match names.lookup p.1 with|some .free=>p.1 == p.2|some .local=>false|some .cell=>false|_=>true)
structure ScopeOk (h:Nat) (N' N:List Str) (scope:Scope) (sc:Scope):Prop where
 kind:scope.kind = .function
 len:N'.length=h+N.length
 nd:N'.Nodup
 cell:∀ y ∈ scope.names,y.2 = .cell->scope.names.lookup y.1=some .cell
 loc:∀ y ∈ scope.names,y.2 = .local->scope.names.lookup y.1=some .local
 free:∀ y ∈ scope.names,y.2 = .free->scope.names.lookup y.1=some .free/\(sc.names.lookup y.1=some .cell\/sc.names.lookup y.1=some .free)
 out:∀ (i:Nat) (x:Str) (k:NameKind),N'[h+i]? = some x->scope.names.lookup x=some k->(k = .local\/k = .cell\/k = .free)->N[i]? = some x/\k = .free
theorem ScopeOk.of{h:Nat}{N' N:List Str}{scope sc:Scope}(hk:scope.kind = .function)(e:zn5 h N' N scope.names sc.names=true):ScopeOk h N' N scope sc:=by
 unfold zn5 at e
 simp only[Qv,decide_eq_true_eq,Q9] at e
 obtain⟨⟨⟨e1,e2⟩,e3⟩,e4⟩:=e
 refine⟨hk,e1,e2,λy hy z=>?_,λy hy z=>?_,λy hy z=>?_,λi x k hx hl hkk=>?_⟩
 ·have:=e3 y hy
  rw[z] at this
  simpa using this
 ·have:=e3 y hy
  rw[z] at this
  simpa using this
 ·have:=e3 y hy
  rw[z] at this
  simpa using this
 ·have h1:(N'.drop h)[i]? = some x:=by rw[ZG];exact hx
  have hi:i<N.length:=by
   obtain⟨z,_⟩:=Qs.mp hx
   omega
  have h2:N[i]? = some N[i]:=Ql hi
  have hm:(x,N[i]) ∈ (N'.drop h).zip N:=by
   refine Zn (i:=i) ?_
   rw[Jj]
   exact⟨h1,h2⟩
  have q:=e4 _ hm
  rw[hl] at q
  rcases hkk with rfl|rfl|rfl
  ·exact absurd q (by simp)
  ·exact absurd q (by simp)
  ·have q':x=N[i]:=by simpa using q
   exact⟨by rw[h2,<- q'],rfl⟩
def PF(X:Cx)(ifs:List Expr)(t:TT):Prop :=
 ∀ (pins:List (Addr × Obj)) (s:Shared) (σ:St) (H:Hp) (Q:Bool->Hp->Prop),Inv X pins σ H s->t σ H Q ->
   wpAny (model X.prog X.w) X.A (forIn ifs true λc r=>if r=true then do let ok <- isTrue c X.env (eval c X.env);pure (Y2 ok) else pure (Y2 r)) (TP X pins σ Q) X.xe s
def tYes:TT:=λ_ H Q=>Q true H
theorem z3h{X:Cx}:PF X [] tYes:=λ_ _ _ H _ I h=>wpAny_tests_nil ⟨H,I,h⟩
theorem z1o{X:Cx}{c:Expr}{t:TT}(h:PT X c t):PF X [c] t:=λpins s σ H Q I q=>wpAny_tests_one (h pins s σ H Q I q)
def OwnG(h:Nat)(g:TG):Prop:=∀ v (σ:St) H Q,h<=σ.length->g v σ H Q->g v σ H λσ2 H2=>Q σ2 H2/\σ2.length=σ.length/\σ2.drop h=σ.drop h
theorem zng{h i:Nat}(hi:i<h):OwnG h (zbi i):=λv σ H Q hl q=>⟨q,by simp,by rw[List.drop_set_of_lt hi]⟩
def zi7(h:Nat)(g:TGs):Prop:=∀ vs (σ:St) H Q,h<=σ.length->g vs σ H Q->g vs σ H λσ2 H2=>Q σ2 H2/\σ2.length=σ.length/\σ2.drop h=σ.drop h
theorem zyk{h:Nat}:zi7 h gNil:=λvs σ H Q _ q=>⟨q.1,q.2,rfl,rfl⟩
def MonG(g:TG):Prop:=∀ v σ H (Q Q':St->Hp->Prop),(∀ σ H,Q σ H->Q' σ H)->g v σ H Q->g v σ H Q'
def zjo(g:TGs):Prop:=∀ v σ H (Q Q':St->Hp->Prop),(∀ σ H,Q σ H->Q' σ H)->g v σ H Q->g v σ H Q'
theorem zl6{i:Nat}:MonG (zbi i):=λ_ _ _ _ _ h q=>h _ _ q
theorem zzv:zjo gNil:=λ_ _ _ _ _ h q=>⟨q.1,h _ _ q.2⟩
theorem zuc{g:TG}{gs:TGs}(a:MonG g)(b:zjo gs):zjo (zju g gs):=λvs σ H Q Q' h ⟨v,r,e,q⟩=>⟨v,r,e,a _ _ _ _ _ (λσ' H' z=>b _ _ _ _ _ h z) q⟩
theorem zvq{h:Nat}{g:TG}{gs:TGs}(m:MonG g)(m2:zjo gs)(a:OwnG h g)(b:zi7 h gs):zi7 h (zju g gs):=λvs σ H Q hl ⟨v,r,e,q⟩=>by
 refine⟨v,r,e,m _ _ _ _ _ (λσ' H' z=>?_) (a v σ H _ hl q)⟩
 obtain⟨z1,z2,z3⟩:=z
 exact m2 _ _ _ _ _ (λσ2 H2 ⟨y1,y2,y3⟩=>⟨y1,y2.trans z2,y3.trans z3⟩) (b r σ' H' Q (by omega) z1)
theorem zym{K:Qa}{h n:Nat}{gs:TGs}(b:zi7 h gs):OwnG h (gTup K n gs):=λv σ H Q hl ⟨a,xs,e1,e2,e3,q⟩=>⟨a,xs,e1,e2,e3,b xs σ H Q hl q⟩
def zpu(h:Nat)(wi:TI)(g:TG)(tf:TT)(te:TE):TE:=λσ H Q=>wi σ H λJ H1=>∀ D,H1 D=none->∃ W:Nat->Nat->List V->Hp->Prop,(∃ m,W 0 m [] (upd H1 D (.lst [])))/\∀ i m ys H,W i m ys H ->
 H D=some (.lst ys)/\((J.stop i H/\Q (.ref D) H)\/(J.go i H/\∀ x H',J.yld i H x H'->g x (Qf h none++σ) H' λσ2 H2=>tf σ2 H2 λc H3 =>
   if c=true then te σ2 H3 λy H4=>H4 D=some (.lst ys)/\ys.length<sizeLine/\∃ m',m'<m/\W (i+1) m' (ys ++ [y]) (upd H4 D (.lst (ys ++ [y]))) else ∃ m',m'<m/\W (i+1) m' ys H3))
theorem zh7{prog:Program}{w:World}{A:Around}{R:Result->Shared->Prop}{s:Shared}{elt target iter:Expr}{ifs:List Expr}{scope:Scope}{pos:Pos}{it acc:Value}{env:Env}(I:Nat->Shared->Prop)
 (turn:∀ n s,I n s->wpAny (model prog w) A (pyNext it) (λr s₁=>match r with
  | none=>R (.ok .next) s₁
  | some v=>wpAny (model prog w) A (letOwnedTupleGo target it v) (λ_ s₀=>wpAny (model prog w) A (assign target env v) (λ_ s₂ =>
   wpAny (model prog w) A (forIn ifs true λc r=>if r=true then do let ok <- isTrue c env (eval c env);pure (Y2 ok) else pure (Y2 r)) (λok s₃ =>
    if ok=true then wpAny (model prog w) A (eval elt env) (λx s₄ =>
     wpAny (model prog w) A (call (.builtin "list.append") [acc,x]) (λ_ s₅=>∃ m,m<n/\I m s₅) (λ_ _=>False) s₄) (λ_ _=>False) s₃
    else ∃ m,m<n/\I m s₃) (λ_ _=>False) s₂) (λ_ _=>False) s₀) (λ_ _=>False) s₁) (λ_ _=>False) s)
 (n:Nat) (h:I n s):codeAny (model prog w) A (.compLoop (.ListComp elt [⟨target,iter,ifs,0⟩] scope pos) 0 it acc env) R s:=by
 refine codeAny_loop rfl I (λn s hI=>?_) n h
 show wpAny _ A ((compTurn (.ListComp elt [⟨target,iter,ifs,0⟩] scope pos) 0 it acc env).onRaise (λx=>do noteFrame x env;theTreesLotGoes x)) _ _ s
 refine wpAny_noted ?_
 rw[compTurn_list]
 refine wpAny_bind (wpAny_standAt (wpAny_bind (wpAny_mono (turn n s hI) (λr s₁ h₁=>?_) λ_ _ h'=>h'.elim)))
 cases r with
 | none=>exact wpAny_pure h₁
 | some v =>
   refine wpAny_bind (wpAny_mono h₁ (λ_ s₀ h₀=>?_) λ_ _ h'=>h'.elim)
   refine wpAny_bind (wpAny_mono h₀ (λ_ s₂ h₂=>wpAny_bind (wpAny_mono h₂ (λok s₃ h₃=>?_) λ_ _ h'=>h'.elim)) λ_ _ h'=>h'.elim)
   cases ok with
   | false=>exact wpAny_pure ⟨rfl,h₃⟩
   | true =>
     exact wpAny_bind (wpAny_bind (wpAny_mono h₃ (λx s₄ h₄=>wpAny_bind (wpAny_mono h₄ (λ_ s₅ h₅=>wpAny_pure (wpAny_pure ⟨rfl,h₅⟩)) λ_ _ h'=>h'.elim)) λ_ _ h'=>h'.elim))
section
variable {X : Cx} {pins : List (Addr × Obj)} {σ : St} {H : Hp} {s : Shared}
theorem zfi{h:Nat}{N':List Str}{scope:Scope}(I:Inv X pins σ H s)(S:ScopeOk h N' X.N scope X.env.scope):∀ x c,(clOf scope.names X.env).lookup x=some c->X.env.cells.lookup x=some c:=λx c e=>by
 obtain⟨h1,h2⟩:=zp2 e
 obtain⟨d,hd⟩:=I.ok.has x (S.free _ h1 rfl).2
 rw[hd] at h2 ⊢
 rw[h2];rfl
theorem zkr{h:Nat}{N':List Str}{scope:Scope}(S:ScopeOk h N' X.N scope X.env.scope){x:Str}(hf:(x,Zk) ∈ scope.names):(x,Zo) ∉ scope.names:=λz=>by
 have a:=(S.free _ hf rfl).1
 have b:=S.cell _ z rfl
 rw[show scope.names.lookup x=some .free from a] at b
 cases b
theorem zf5{h:Nat}{N':List Str}{scope:Scope}(I:Inv X pins σ H s)(S:ScopeOk h N' X.N scope X.env.scope):∀ x c,(cellsFrom (s.heap.objs.size+1) scope.names (clOf scope.names X.env)).lookup x=some c->X.env.cells.lookup x=some c\/((x,Zo) ∈ scope.names/\s.heap.objs.size+1<=c):=λx c e=>by
 have z:=zi0 scope.names (s.heap.push { cls := .type "dict", data := .dict #[] }) (clOf scope.names X.env) (x:=x) (c:=c) (by rw[QT];exact e)
 rw[QT] at z
 rcases z with z|⟨z1,z2,_⟩
 ·exact .inl (zfi I S x c z)
 ·exact .inr ⟨z1,z2⟩
theorem zpq{h:Nat}{N':List Str}{scope:Scope}(I:Inv X pins σ H s)(S:ScopeOk h N' X.N scope X.env.scope):∀ x c,(clOf scope.names X.env).lookup x=some c->c<s.heap.objs.size+1:=λx c e=>by
 obtain⟨v,o,ho,_⟩:=I.cell x c (zfi I S x c e)
 exact Z1 (Qk ho)
theorem zyl{h:Nat}{N':List Str}{scope:Scope}{fp:List Addr}(I:Inv X pins σ H s)(S:ScopeOk h N' X.N scope X.env.scope)(hf:∀ b ∈ fp,FpOk X pins H b)(hlt:∀ b ∈ fp,b<s.heap.objs.size) :
 (zb9 X scope N' s.heap.objs.size s H fp).Ok:=by
 have cl:=zf5 I S
 refine⟨I.ok.mod,?_,I.ok.glob,I.ok.blt,Qo _,znt _ _ _ (zpq I S) λx y c e1 e2=>I.ok.inj x y c (zfi I S x c e1) (zfi I S y c e2),λx hx=>?_,λx c z e=>?_,I.ok.hd,I.ok.frames,.inl rfl,λb hb=>⟨Q8 (hlt b hb),λx c e=>(cl x c e).elim (λz=>(hf b hb).2.2.2.2.1 x c z) λz w=>QS _ (Q5 (hlt b hb) (Jo (w ▸ z.2)))⟩,λb o e=>I.bs b o e,Q4 I.ok.bsz I.sz,λb o e hb=>?_,λb hb z=>?_,I.stack,I.stkFree⟩
 ·exact S.kind
 ·have hx':(relabel scope X.env).names.lookup x=some .cell\/(relabel scope X.env).names.lookup x=some .free:=hx
  have e:=zdt (env:=X.env) (x:=x) scope.names
  have hl:scope.names.lookup x=some .free\/scope.names.lookup x=some .cell:=by
   cases q:scope.names.lookup x with
   | none=>rw[q] at e;rcases hx' with z|z <;> (have z':=e.symm.trans z;cases z')
   | some k =>
     rw[q,Y1] at e
     by_cases hk:k = .free
     ·rw[hk];exact .inl rfl
     ·have hc:¬ (k == Zk && X.env.scope.kind == .function && X.env.kindOf x == some .cell)=true:=by
       have:(k == Zk)=false:=by simpa using hk
       rw[this];simp
      rw[if_neg hc] at e
      rcases hx' with z|z
      ·have z':=e.symm.trans z
       cases z'
       exact .inr rfl
      ·have z':=e.symm.trans z
       cases z'
       exact .inl rfl
  rcases hl with hl|hl
  ·have hm:=Z0 hl
   obtain⟨c,hc⟩:=I.ok.has x (S.free _ hm rfl).2
   exact⟨c,(zi3 _ _ _ (zkr S hm)).trans (zs0 hm hc)⟩
  ·exact JR.mp (Yf _ _ _ (.inl hl))
 ·have z:(scope.names.lookup x == some Zo)=true:=z
  have z:scope.names.lookup x=some .cell:=by simpa using z
  rcases zi0 scope.names (s.heap.push { cls := .type "dict", data := .dict #[] }) (clOf scope.names X.env) (x:=x) (c:=c) (by rw[QT];exact e) with w|⟨_,w,_⟩
  ·exact absurd (Z0 z) (zkr S (zp2 w).1)
  ·rw[QT] at w
   exact Jo w
 ·rcases(hf b hb).2.2.2.1 with z|z
  ·exact I.ok.noex b o e z
  ·exact absurd (Q5 (Qk (I.ok.bs b o e).1) z) (QS _)
 ·obtain⟨_,f1,f2,_⟩:=hf b hb
  rcases Qt.mp (I.stkSub b z) with q|q
  ·exact f1 q
  ·exact f2 q
theorem zjg{h:Nat}{N':List Str}{scope:Scope}{fp:List Addr}{h':Heap}{tk:Nat}(I:Inv X pins σ H s)(S:ScopeOk h N' X.N scope X.env.scope)(hf:∀ b ∈ fp,FpOk X pins H b)(hlt:∀ b ∈ fp,b<s.heap.objs.size)
 (hn:h'.Ns s.heap.objs.size λ_=>none) (kp:∀ b o,s.heap.get? b=some o->h'.get? b=some o) (hcs:∀ x c,(cellsFrom (s.heap.objs.size+1) scope.names (clOf scope.names X.env)).lookup x=some c->(clOf scope.names X.env).lookup x=some c\/((x,Zo) ∈ scope.names/\s.heap.objs.size+1<=c/\h'.IsCell c none)) :
 Inv (zb9 X scope N' s.heap.objs.size s H fp) [] (Qf h none++σ) H { s with heap:=h',toks:=tk }:=by
 have ok:=zyl I S hf hlt
 have cl:=zfi I S
 refine⟨ok,rfl,I.bare,Un.kept kp,⟨_,hn,λi x v e1 e2 e3=>?_⟩,λx c e=>?_,I.hok.fresh (Qo _),λx c e=>(hcs x c e).elim (λz=>I.freeC x c (cl x c z)) λz=>I.hok.fresh (Jo z.2.1),λp hp=>absurd (show p ∈ ([]:List (Addr × Obj)) from hp) (by simp),I.hok.kept kp,?_⟩
 ·have e1:N'[i]? = some x:=e1
  by_cases hi:i<h
  ·rw[QU (by simpa using hi),Z4,if_pos hi] at e2
   cases e2
  ·obtain⟨j,rfl⟩:∃ j,i=h+j:=⟨i - h,by omega⟩
   rw[Z6 (by simp),QN,Jz] at e2
   have e3:Vis (relabel scope X.env) x:=e3
   have er:=zdt (env:=X.env) (x:=x) scope.names
   have hl:∃ k,scope.names.lookup x=some k/\(k = .local\/k = .cell\/k = .free)/\(relabel scope X.env).names.lookup x=some (if(k == Zk && X.env.scope.kind == .function && X.env.kindOf x == some .cell) then Zo else k):=by
    cases q:scope.names.lookup x with
    | none=>rw[q] at er;rcases e3 with z|z|z <;> (have z':=er.symm.trans z;cases z')
    | some k =>
      rw[q,Y1] at er
      refine⟨k,rfl,?_,er⟩
      by_cases hc:(k == Zk && X.env.scope.kind == .function && X.env.kindOf x == some .cell)=true
      ·simp only[Qv,beq_iff_eq] at hc
       exact .inr (.inr hc.1.1)
      ·rw[if_neg hc] at er
       rcases e3 with z|z|z <;> (have z':=er.symm.trans z;cases z';simp)
   obtain⟨k,hk,hkk,hre⟩:=hl
   obtain⟨hN,rfl⟩:=S.out j x k e1 hk hkk
   have hm:=Z0 hk
   have hfr:=(S.free _ hm rfl).2
   obtain⟨m,hnm,hlk⟩:=I.loc
   obtain⟨u,ru,lk⟩:=hlk j x v hN e2 (by rcases hfr with z|z;exact .inr (.inl z);exact .inr (.inr z))
   refine⟨u,ru,?_⟩
   rcases lk with ⟨hloc,_⟩|⟨hkd,c,hc,hcell⟩
   ·have hloc:X.env.scope.names.lookup x=some .local:=hloc
    rcases hfr with z|z <;> (rw[hloc] at z;cases z)
   ·refine .inr ⟨?_,c,(zi3 _ _ _ (zkr S hm)).trans (zs0 hm hc),?_⟩
    ·show(relabel scope X.env).names.lookup x=some .cell\/(relabel scope X.env).names.lookup x=some .free
     rw[hre]
     split
     ·exact .inl rfl
     ·exact .inr rfl
    ·obtain⟨o,ho,hd⟩:=hcell
     exact⟨o,kp c o ho,hd⟩
 ·rcases hcs x c e with z|z
  ·obtain⟨v,o,ho,hd⟩:=I.cell x c (cl x c z)
   exact⟨v,o,kp c o ho,hd⟩
  ·exact⟨_,z.2.2⟩
 ·show(Qf h none++σ).length=N'.length
  rw[Qg,QN,S.len,I.len]
theorem zmu{h:Nat}{N':List Str}{scope:Scope}{fp:List Addr}{pins':List (Addr × Obj)}{σ':St}{H':Hp}{s':Shared}{h':Heap}(I:Inv X pins σ H s)(S:ScopeOk h N' X.N scope X.env.scope)(hf:∀ b ∈ fp,FpOk X pins H b)
 (J:Inv (zb9 X scope N' s.heap.objs.size s H fp) pins' σ' H' s') (hs:ZW s.heap.objs.size s'.heap h'):Inv X pins σ H' { s' with heap:=h' }:=by
 have ne:∀ b o,s.heap.get? b=some o->b ≠ s.heap.objs.size:=λb o e=>Q8 (Qk e)
 have u:Un (frs X.stack) fp H H' s.heap s'.heap:=J.base
 have hC:H' s.heap.objs.size=none:=J.free
 obtain⟨m0,⟨oC,_,_,hoC,_⟩,_⟩:=id J.loc
 refine I.call' (s':={ s' with heap:=h' }) (ch:=fp) J.os ⟨λb o e n hb hx=>(hs.2 b (ne b o e)).trans (u.keep b o e n hb hx),λb o e n hb hx=>?_,u.free,λb o e hx=>?_,u.tups,u.frzs,u.tbls⟩ (λb ob e=>?_) J.bare λb hb=>?_
 ·obtain⟨sl,z⟩:=u.slot b o e n hb hx
  exact⟨sl,(hs.2 b (ne b o e)).trans z⟩
 ·obtain⟨o',z⟩:=u.there b o e hx
  exact⟨o',(hs.2 b (ne b o e)).trans z⟩
 ·refine(J.hok b ob e).stay (λc w' hc q=>(hs.2 c ?_).trans q) (λ_ q=>q) λ_ _ q=>q
  rintro rfl
  rcases hc with z|z
  ·rw[<- z,hC] at e;cases e
  ·rw[hC] at z;cases z
 ·obtain⟨_,f1,_,f3,f4,f5⟩:=hf b hb
  exact⟨f3,f1,f4,f5⟩
end
theorem zx7{X:Cx}{elt tg iter:Expr}{ifs:List Expr}{scope:Scope}{pos:Pos}{wi:TI}{g:TG}{tf:TT}{te:TE}{N':List Str}(h:Nat)(S:ScopeOk h N' X.N scope X.env.scope)(hc:X.calm=true)(hi:PI X tg iter wi)
 (hg:∀ C s H ex,PG (zb9 X scope N' C s H ex) tg g) (ho:OwnG h g) (ht:∀ C s H ex,PF (zb9 X scope N' C s H ex) ifs tf) (he:∀ C s H ex,PE (zb9 X scope N' C s H ex) elt te)
 (hs:∀ x,foldedSetIterable iter X.env x=pure x:=by intro _;rfl) :
 PE X (.ListComp elt [⟨tg,iter,ifs,0⟩] scope pos) (zpu h wi g tf te):=by
 intro pins s σ H Q I hq
 rw[eval_ListComp]
 refine wpAny_comprehension_free (use:=none) rfl hs (zi5 (env:=X.env) λp hp hk=>I.ok.has p.1 (S.free p hp hk).2) S.kind S.loc ?_
 refine thn (hi pins s σ H _ I hq) λv s1 h1=>thn h1 λitv s2 h2=>?_
 obtain⟨it,fp,tn,J,H2,rfl,I2,T,st2,f2,hq⟩:=h2
 refine wpAny_newObj_type ?_ (by show 0<=sizeLine;exact QH _)
 have hD:H2 s2.heap.objs.size=none:=I2.hok.fresh (Qo _)
 have I3:Inv X pins σ (upd H2 s2.heap.objs.size (.lst [])) { s2 with heap:=s2.heap.push { cls := .type "list", data := .seq ([]:List Value).toArray },toks:=s2.toks }:=I2.lnew (t':=s2.toks) .nil (QH _)
 generalize hs3:({ s2 with heap:=s2.heap.push { cls := .type "list", data := .seq ([]:List Value).toArray },toks:=s2.toks }:Shared)=s3 at I3
 have hs3':({ s2 with heap:=s2.heap.push { cls := .type "list", data := .seq ([]:List Value).toArray } }:Shared)=s3:=hs3
 obtain⟨W,⟨m0,w0⟩,turn⟩:=hq s2.heap.objs.size hD
 have olt:∀ b ∈ fp,b<s2.heap.objs.size:=λb hb=>by
  obtain⟨o,e,_⟩:=T.obj _ _ st2 b hb
  exact Qk e
 have hsz:s3.heap.objs.size=s2.heap.objs.size+1:=by rw[<- hs3];exact QT ..
 have k23:∀ b o,s2.heap.get? b=some o->s3.heap.get? b=some o:=λb o e=>by rw[<- hs3];exact Qc _ e
 have f3:∀ b ∈ fp,FpOk X pins (upd H2 s2.heap.objs.size (.lst [])) b:=λb hb=>⟨by rw[zaf (Q8 (olt b hb))];exact(f2 b hb).1,(f2 b hb).2⟩
 have lt3:∀ b ∈ fp,b<s3.heap.objs.size:=λb hb=>by rw[hsz];exact Z1 (olt b hb)
 refine zjc λh4 hn4 k34 cs4=>?_
 have I4:=zjg (h':=h4) (tk:=s3.toks) I3 S f3 lt3 hn4 k34 cs4
 have st4:tn 0 h4:=T.keep _ _ _ st2 λb hb o e=>k34 b o (k23 b o e)
 generalize hX:zb9 X scope N' s3.heap.objs.size s3 (upd H2 s2.heap.objs.size (.lst [])) fp=X' at I4
 have hA:X'.A=X.A:=by rw[<- hX];rfl
 -- the iterator's objects,in the block
 have fpX:∀ {H':Hp} {pl:List (Addr × Obj)},(∀ b ∈ fp,H' b=none)->pl = []->∀ b ∈ fp,FpOk X' pl H' b:=λ{H' pl} hn0 hpl b hb=>by
  subst hpl
  obtain⟨q0,q1,q2,q3,q4,q5⟩:=f3 b hb
  subst hX
  refine⟨hn0 b hb,Q8 (lt3 b hb),λz=>?_,.inl hb,λx c e=>(zf5 I3 S x c e).elim (q4 x c) λz w=>QS _ (Q5 (lt3 b hb) (Jo (w ▸ z.2))),λp hp=>absurd (show p ∈ ([]:List (Addr × Obj)) from hp) (by simp)⟩
  rcases Qt.mp (I3.stkSub b z) with z|z
  ·exact q1 z
  ·exact q2 z
 have hcX:X'.calm=true:=by rw[<- hX];exact hc
 have hR:∀ s':Shared,(∃ (m:Nat) (i:Nat) (ys:List V) (H':Hp),Inv X' [] (Qf h none++σ) H' s'/\tn i s'.heap/\(∀ b ∈ fp,H' b=none)/\W i m ys H')->True:=λ_ _=>trivial
 have loop:∀ (sL:Shared),(Inv X' [] (Qf h none++σ) (upd H2 s2.heap.objs.size (.lst [])) sL)->tn 0 sL.heap ->
  codeAny (model X.prog X.w) X.A (.compLoop (.ListComp elt [⟨tg,iter,ifs,0⟩] scope pos) 0 (.ref it) (.ref s2.heap.objs.size) X'.env)
   (compPost (model X.prog X.w) X.A X.xe none (EP X pins σ Q) (.ref s2.heap.objs.size) s3.heap.objs.size) sL:=by
  intro sL IL stL
  refine zh7 (λn s'=>∃ i ys H',Inv X' [] (Qf h none++σ) H' s'/\tn i s'.heap/\(∀ b ∈ fp,H' b=none)/\W i n ys H') ?_ m0 ⟨0,[],_,IL,stL,λb hb=>(f3 b hb).1,w0⟩
  rintro n s5 ⟨i,ys,H5,I5,st5,fr5,w5⟩
  obtain⟨hDy,hh⟩:=turn i n ys H5 w5
  have eP:X'.prog=X.prog:=by rw[<- hX];rfl
  have eW:X'.w=X.w:=by rw[<- hX];rfl
  have eK:X'.K=X.K:=by rw[<- hX];rfl
  have eE:X'.xe=λ_ _=>False:=by rw[<- hX];rfl
  rcases hh with ⟨stop,qn⟩|⟨go,step⟩
  ·have:=T.done X' eP eW eK hcX i [] s5 _ H5 (λ_ _=>False) I5 (fpX fr5 rfl) st5 stop
   rw[hA] at this
   refine thn this λr s6 ⟨hr,I6⟩=>?_
   subst hr
   obtain⟨m6,hm6,_⟩:=id I6.loc
   refine⟨m6,?_,λh7 hs7=>?_⟩
   ·rw[<- hX] at hm6;exact hm6
   ·rw[<- hX] at I6
    exact⟨.ref s2.heap.objs.size,H5,zmu I3 S f3 I6 hs7,rfl,qn⟩
  ·have:=T.item X' eP eW eK hcX i [] s5 _ H5 (λ_ _=>False) I5 (fpX fr5 rfl) st5 go
   rw[hA] at this
   refine thn this λr s6 ⟨u,hr,h6⟩=>?_
   subst hr
   refine thn h6 λ_ s7 ⟨x,H7,I7,r7,y7,st7,fr7⟩=>?_
   have I7':=I7.pinned (fpX fr7 rfl) (T.obj _ _ st7)
   have back:∀ {σ':St} {H':Hp} {s':Shared},Inv X' ([]++zfo fp s7.heap) σ' H' s'->σ'.length=(Qf h none++σ:St).length->σ'.drop h=(Qf h none++σ:St).drop h ->
    Inv X' [] (Qf h none++σ) H' s'/\tn (i+1) s'.heap/\∀ b ∈ fp,H' b=none:=by
    intro σ' H' s' I' hl hd
    refine⟨I'.unpinned.weak hl.symm λj v e=>?_,T.keep _ _ _ st7 λb hb o e=>?_,λb hb=>?_⟩
    ·by_cases hj:j<h
     ·rw[QU (by simpa using hj),Z4,if_pos hj] at e
      cases e
     ·have e1:(σ'.drop h)[j - h]? = σ'[j]?:=by rw[ZG];congr 1;omega
      have e2:((Qf h none++σ:St).drop h)[j - h]? = (Qf h none++σ:St)[j]?:=by rw[ZG];congr 1;omega
      rw[<- e1,hd,e2];exact e
    ·exact(I'.pin (b,o) (Qw _ (Qw _ (zco hb e)))).1
    ·obtain⟨o,e,_⟩:=T.obj _ _ st7 b hb
     exact(I'.pin (b,o) (Qw _ (Qw _ (zco hb e)))).2.1
   have hg':=hg s3.heap.objs.size s3 (upd H2 s2.heap.objs.size (.lst [])) fp
   have ht':=ht s3.heap.objs.size s3 (upd H2 s2.heap.objs.size (.lst [])) fp
   have he':=he s3.heap.objs.size s3 (upd H2 s2.heap.objs.size (.lst [])) fp
   rw[hX] at hg' ht' he'
   have hl0:h<=(Qf h none++σ:St).length:=by simp
   have a1:=hg' _ s7 _ H7 x u _ I7' r7 (ho x _ H7 _ hl0 (step x H7 y7))
   rw[hA,eP,eW,eE] at a1
   refine thn a1 λ_ s8 ⟨σ8,H8,I8,q8,l8,d8⟩=>?_
   have a2:=ht' _ s8 σ8 H8 _ I8 q8
   rw[hA,eP,eW,eE] at a2
   refine thn a2 λc s9 ⟨H9,I9,q9⟩=>?_
   cases c with
   | false =>
     obtain⟨m',hm',w'⟩:=q9
     obtain⟨b1,b2,b3⟩:=back I9 l8 d8
     exact⟨m',hm',i+1,ys,H9,b1,b2,b3,w'⟩
   | true =>
     have a3:=he' _ s9 σ8 H9 _ I9 q9
     rw[hA,eP,eW,eE] at a3
     refine thn a3 λyv s10 ⟨y,H10,I10,r10,hD10,hz10,m',hm',w'⟩=>?_
     have a4:=zg2 (X:=X') _ s10 σ8 H10 (.ref s2.heap.objs.size) [y] (.ref s2.heap.objs.size) [yv] (λ_ Hz=>Hz=upd H10 s2.heap.objs.size (.lst (ys ++ [y]))) I10 rfl (.cons r10 .nil) ⟨_,ys,y,rfl,rfl,hD10,hz10,rfl⟩
     rw[hA,eP,eW,eE] at a4
     refine thn a4 λ_ s11 ⟨_,H11,I11,_,e11⟩=>?_
     subst e11
     obtain⟨b1,b2,b3⟩:=back I11 l8 d8
     exact⟨m',hm',i+1,ys ++ [y],_,b1,b2,b3,w'⟩
 have fin:=codeAny_compStart_list (prog:=X.prog) (w:=X.w) (A:=X.A) (R:=compPost (model X.prog X.w) X.A X.xe none (EP X pins σ Q) (.ref s2.heap.objs.size) s3.heap.objs.size) (elt:=elt) (target:=tg) (iter:=iter) (ifs:=ifs) (rest := []) (scope:=scope) (pos:=pos) (it := .ref it) (acc := .ref s2.heap.objs.size) (env:=X'.env)
  (loop _ I4 st4) (T.self _ 0 _ _ _ st4 (loop _ I4 st4))
 have hE:X'.env=compEnvC scope (cellsFrom (s3.heap.objs.size+1) scope.names (clOf scope.names X.env)) s3.heap.objs.size X.env:=by rw[<- hX];rfl
 rw[hE] at fin
 exact fin
theorem zqa{X:Cx}{elt tg iter:Expr}{ifs:List Expr}{scope:Scope}{pos py spos:Pos}{wi:TI}{g:TG}{tf:TT}{te:TE}{N':List Str}{n0:Nat}{x0:Str}(hN0:X.N.Nodup)(hi0:X.N[n0]? = some x0)(hx0:X.env.scope.names.lookup x0=some .local)(hsw:swapsWith (.ListComp elt [⟨tg,iter,ifs,0⟩] scope pos) (some (.Name x0 py)) spos.line X.env=pure true)(h:Nat)(S:ScopeOk h N' X.N scope X.env.scope)(hc:X.calm=true)(hi:PI X tg iter wi)
 (hg:∀ C s H ex,PG (zb9 X scope N' C s H ex) tg g) (ho:OwnG h g) (ht:∀ C s H ex,PF (zb9 X scope N' C s H ex) ifs tf) (he:∀ C s H ex,PE (zb9 X scope N' C s H ex) elt te)
 (hs:∀ x,foldedSetIterable iter X.env x=pure x:=by intro _;rfl) :
 PS X (.Assign [.Name x0 py] (.ListComp elt [⟨tg,iter,ifs,0⟩] scope pos) spos) (tAsg (zpu h wi g tf te) (zbi n0)):=by
 intro pins s σ H DD I hq
 rw[exec_Assign_Name_used _ _ _ _ hsw]
 refine wpAny_bind (wpAny_standAt (wpAny_bind ?_))
 show wpAny _ X.A (do let _ <- comprehension (.ListComp elt [⟨tg,iter,ifs,0⟩] scope pos) scope X.env _ (newList []) false (eval iter X.env) (some (assign (.Name x0 py) X.env))) _ _ s
 refine wpAny_bind (wpAny_mono (wpAny_comprehension_free (use:=some (assign (.Name x0 py) X.env)) (Q:=λ_ s'=>SP X pins DD .next s') rfl hs (zi5 (env:=X.env) λp hp hk=>I.ok.has p.1 (S.free p hp hk).2) S.kind S.loc ?_) (λ_ s' hq=>wpAny_pure (wpAny_pure hq)) λ_ _ e=>e)
 refine thn (hi pins s σ H _ I hq) λv s1 h1=>thn h1 λitv s2 h2=>?_
 obtain⟨it,fp,tn,J,H2,rfl,I2,T,st2,f2,hq⟩:=h2
 refine wpAny_newObj_type ?_ (by show 0<=sizeLine;exact QH _)
 have hD:H2 s2.heap.objs.size=none:=I2.hok.fresh (Qo _)
 have I3:Inv X pins σ (upd H2 s2.heap.objs.size (.lst [])) { s2 with heap:=s2.heap.push { cls := .type "list", data := .seq ([]:List Value).toArray },toks:=s2.toks }:=I2.lnew (t':=s2.toks) .nil (QH _)
 generalize hs3:({ s2 with heap:=s2.heap.push { cls := .type "list", data := .seq ([]:List Value).toArray },toks:=s2.toks }:Shared)=s3 at I3
 have hs3':({ s2 with heap:=s2.heap.push { cls := .type "list", data := .seq ([]:List Value).toArray } }:Shared)=s3:=hs3
 obtain⟨W,⟨m0,w0⟩,turn⟩:=hq s2.heap.objs.size hD
 have olt:∀ b ∈ fp,b<s2.heap.objs.size:=λb hb=>by
  obtain⟨o,e,_⟩:=T.obj _ _ st2 b hb
  exact Qk e
 have hsz:s3.heap.objs.size=s2.heap.objs.size+1:=by rw[<- hs3];exact QT ..
 have k23:∀ b o,s2.heap.get? b=some o->s3.heap.get? b=some o:=λb o e=>by rw[<- hs3];exact Qc _ e
 have f3:∀ b ∈ fp,FpOk X pins (upd H2 s2.heap.objs.size (.lst [])) b:=λb hb=>⟨by rw[zaf (Q8 (olt b hb))];exact(f2 b hb).1,(f2 b hb).2⟩
 have lt3:∀ b ∈ fp,b<s3.heap.objs.size:=λb hb=>by rw[hsz];exact Z1 (olt b hb)
 refine zjc λh4 hn4 k34 cs4=>?_
 have I4:=zjg (h':=h4) (tk:=s3.toks) I3 S f3 lt3 hn4 k34 cs4
 have st4:tn 0 h4:=T.keep _ _ _ st2 λb hb o e=>k34 b o (k23 b o e)
 generalize hX:zb9 X scope N' s3.heap.objs.size s3 (upd H2 s2.heap.objs.size (.lst [])) fp=X' at I4
 have hA:X'.A=X.A:=by rw[<- hX];rfl
 -- the iterator's objects,in the block
 have fpX:∀ {H':Hp} {pl:List (Addr × Obj)},(∀ b ∈ fp,H' b=none)->pl = []->∀ b ∈ fp,FpOk X' pl H' b:=λ{H' pl} hn0 hpl b hb=>by
  subst hpl
  obtain⟨q0,q1,q2,q3,q4,q5⟩:=f3 b hb
  subst hX
  refine⟨hn0 b hb,Q8 (lt3 b hb),λz=>?_,.inl hb,λx c e=>(zf5 I3 S x c e).elim (q4 x c) λz w=>QS _ (Q5 (lt3 b hb) (Jo (w ▸ z.2))),λp hp=>absurd (show p ∈ ([]:List (Addr × Obj)) from hp) (by simp)⟩
  rcases Qt.mp (I3.stkSub b z) with z|z
  ·exact q1 z
  ·exact q2 z
 have hcX:X'.calm=true:=by rw[<- hX];exact hc
 have hR:∀ s':Shared,(∃ (m:Nat) (i:Nat) (ys:List V) (H':Hp),Inv X' [] (Qf h none++σ) H' s'/\tn i s'.heap/\(∀ b ∈ fp,H' b=none)/\W i m ys H')->True:=λ_ _=>trivial
 have loop:∀ (sL:Shared),(Inv X' [] (Qf h none++σ) (upd H2 s2.heap.objs.size (.lst [])) sL)->tn 0 sL.heap ->
  codeAny (model X.prog X.w) X.A (.compLoop (.ListComp elt [⟨tg,iter,ifs,0⟩] scope pos) 0 (.ref it) (.ref s2.heap.objs.size) X'.env)
   (compPost (model X.prog X.w) X.A X.xe (some (assign (.Name x0 py) X.env)) (λ_ s'=>SP X pins DD .next s') (.ref s2.heap.objs.size) s3.heap.objs.size) sL:=by
  intro sL IL stL
  refine zh7 (λn s'=>∃ i ys H',Inv X' [] (Qf h none++σ) H' s'/\tn i s'.heap/\(∀ b ∈ fp,H' b=none)/\W i n ys H') ?_ m0 ⟨0,[],_,IL,stL,λb hb=>(f3 b hb).1,w0⟩
  rintro n s5 ⟨i,ys,H5,I5,st5,fr5,w5⟩
  obtain⟨hDy,hh⟩:=turn i n ys H5 w5
  have eP:X'.prog=X.prog:=by rw[<- hX];rfl
  have eW:X'.w=X.w:=by rw[<- hX];rfl
  have eK:X'.K=X.K:=by rw[<- hX];rfl
  have eE:X'.xe=λ_ _=>False:=by rw[<- hX];rfl
  rcases hh with ⟨stop,qn⟩|⟨go,step⟩
  ·have:=T.done X' eP eW eK hcX i [] s5 _ H5 (λ_ _=>False) I5 (fpX fr5 rfl) st5 stop
   rw[hA] at this
   refine thn this λr s6 ⟨hr,I6⟩=>?_
   subst hr
   obtain⟨m6,hm6,_⟩:=id I6.loc
   have hC6:H5 s3.heap.objs.size=none:=by rw[<- hX] at I6;exact I6.free
   have hm6:s6.heap.Ns s3.heap.objs.size m6:=by rw[<- hX] at hm6;exact hm6
   have J6:Inv X pins σ H5 s6:=by rw[<- hX] at I6;exact zmu I3 S f3 I6 (Heap.SameBut.refl ..)
   have neL:s3.heap.objs.size ≠ X.env.locals:=J5 I3.lt
   have neC:∀ x c,X.env.cells.lookup x=some c->c ≠ s3.heap.objs.size:=λx c e=>by
    obtain⟨v,z⟩:=I3.cell x c e
    exact Q8 z.lt
   show wpAny (model X.prog X.w) X.A (assign (.Name x0 py) X.env (.ref s2.heap.objs.size)) _ _ s6
   refine wpAny_assign_Name (zk8 (v := .ref s2.heap.objs.size) J6 hN0 hi0 (.inl hx0) rfl (λs7 I7 ⟨a,hsb,ha⟩=>?_) (.inr hx0))
   have hac:s3.heap.objs.size ≠ a:=by
    rcases ha with rfl|ha
    ·exact neL
    ·exact ZD (neC _ _ ha)
   refine⟨m6,hm6.sameBut hsb hac,λh8 hs8=>⟨_,H5,I7.turned (t':=s7.toks) (it:=s3.heap.objs.size) (λb o hb e=>(hs8.2 b hb).trans e) hC6 neL (.inr I3.sz) neC (λp hp=>?_),qn⟩⟩
   exact Q8 (Qk (I3.pin p hp).1)
  ·have:=T.item X' eP eW eK hcX i [] s5 _ H5 (λ_ _=>False) I5 (fpX fr5 rfl) st5 go
   rw[hA] at this
   refine thn this λr s6 ⟨u,hr,h6⟩=>?_
   subst hr
   refine thn h6 λ_ s7 ⟨x,H7,I7,r7,y7,st7,fr7⟩=>?_
   have I7':=I7.pinned (fpX fr7 rfl) (T.obj _ _ st7)
   have back:∀ {σ':St} {H':Hp} {s':Shared},Inv X' ([]++zfo fp s7.heap) σ' H' s'->σ'.length=(Qf h none++σ:St).length->σ'.drop h=(Qf h none++σ:St).drop h ->
    Inv X' [] (Qf h none++σ) H' s'/\tn (i+1) s'.heap/\∀ b ∈ fp,H' b=none:=by
    intro σ' H' s' I' hl hd
    refine⟨I'.unpinned.weak hl.symm λj v e=>?_,T.keep _ _ _ st7 λb hb o e=>?_,λb hb=>?_⟩
    ·by_cases hj:j<h
     ·rw[QU (by simpa using hj),Z4,if_pos hj] at e
      cases e
     ·have e1:(σ'.drop h)[j - h]? = σ'[j]?:=by rw[ZG];congr 1;omega
      have e2:((Qf h none++σ:St).drop h)[j - h]? = (Qf h none++σ:St)[j]?:=by rw[ZG];congr 1;omega
      rw[<- e1,hd,e2];exact e
    ·exact(I'.pin (b,o) (Qw _ (Qw _ (zco hb e)))).1
    ·obtain⟨o,e,_⟩:=T.obj _ _ st7 b hb
     exact(I'.pin (b,o) (Qw _ (Qw _ (zco hb e)))).2.1
   have hg':=hg s3.heap.objs.size s3 (upd H2 s2.heap.objs.size (.lst [])) fp
   have ht':=ht s3.heap.objs.size s3 (upd H2 s2.heap.objs.size (.lst [])) fp
   have he':=he s3.heap.objs.size s3 (upd H2 s2.heap.objs.size (.lst [])) fp
   rw[hX] at hg' ht' he'
   have hl0:h<=(Qf h none++σ:St).length:=by simp
   have a1:=hg' _ s7 _ H7 x u _ I7' r7 (ho x _ H7 _ hl0 (step x H7 y7))
   rw[hA,eP,eW,eE] at a1
   refine thn a1 λ_ s8 ⟨σ8,H8,I8,q8,l8,d8⟩=>?_
   have a2:=ht' _ s8 σ8 H8 _ I8 q8
   rw[hA,eP,eW,eE] at a2
   refine thn a2 λc s9 ⟨H9,I9,q9⟩=>?_
   cases c with
   | false =>
     obtain⟨m',hm',w'⟩:=q9
     obtain⟨b1,b2,b3⟩:=back I9 l8 d8
     exact⟨m',hm',i+1,ys,H9,b1,b2,b3,w'⟩
   | true =>
     have a3:=he' _ s9 σ8 H9 _ I9 q9
     rw[hA,eP,eW,eE] at a3
     refine thn a3 λyv s10 ⟨y,H10,I10,r10,hD10,hz10,m',hm',w'⟩=>?_
     have a4:=zg2 (X:=X') _ s10 σ8 H10 (.ref s2.heap.objs.size) [y] (.ref s2.heap.objs.size) [yv] (λ_ Hz=>Hz=upd H10 s2.heap.objs.size (.lst (ys ++ [y]))) I10 rfl (.cons r10 .nil) ⟨_,ys,y,rfl,rfl,hD10,hz10,rfl⟩
     rw[hA,eP,eW,eE] at a4
     refine thn a4 λ_ s11 ⟨_,H11,I11,_,e11⟩=>?_
     subst e11
     obtain⟨b1,b2,b3⟩:=back I11 l8 d8
     exact⟨m',hm',i+1,ys ++ [y],_,b1,b2,b3,w'⟩
 have fin:=codeAny_compStart_list (prog:=X.prog) (w:=X.w) (A:=X.A) (R:=compPost (model X.prog X.w) X.A X.xe (some (assign (.Name x0 py) X.env)) (λ_ s'=>SP X pins DD .next s') (.ref s2.heap.objs.size) s3.heap.objs.size) (elt:=elt) (target:=tg) (iter:=iter) (ifs:=ifs) (rest := []) (scope:=scope) (pos:=pos) (it := .ref it) (acc := .ref s2.heap.objs.size) (env:=X'.env)
  (loop _ I4 st4) (T.self _ 0 _ _ _ st4 (loop _ I4 st4))
 have hE:X'.env=compEnvC scope (cellsFrom (s3.heap.objs.size+1) scope.names (clOf scope.names X.env)) s3.heap.objs.size X.env:=by rw[<- hX];rfl
 rw[hE] at fin
 exact fin
structure Fly (h:Heap) (e:Addr) (cls:Value) (dx:Option Addr) (T:Option Addr):Prop where
 obj:∃ oe vs,h.get? e=some oe/\oe.cls=cls/\oe.dict=dx/\oe.data = .fields vs/\1<vs.size/\vs[1]? = some (T.elim .none .ref)
 note:∀ t,T=some t->t ≠ e/\∃ oT ts,h.get? t=some oT/\oT.data = .fields ts/\ts[3]? = some .none
structure Flew (fs:List Addr) (e:Addr) (T:Option Addr) (h h':Heap):Prop where
 keep:∀ b o,b ≠ e->T ≠ some b->b ∉ fs->h.get? b=some o->h'.get? b=some o
 slot:∀ b o,b ∈ fs->h.get? b=some o->∃ sl,h'.get? b=some { o with slots:=sl }
section
variable {M : Model} {A : Around} {E : Value → Shared → Prop} {s : Shared} {base : Heap} {env : Env} {outer : List Env} {L e : Addr}
theorem zkp(o:Obj)(f):(o.mapFields f).dict=o.dict:=by
 obtain⟨c,d,dt,sl⟩:=o
 cases dt <;> rfl
theorem zkv{cls:Value}{dx:Option Addr}{head:Value}{hn:Bool}{Q:Unit->Shared->Prop}{oe:Obj}{vs:Array Value}(hfr:A.frames=some (env::outer))(hl:s.heap.FunFrames base (env::outer))(hf:env.frame=some L)
 (he:s.heap.get? e=some oe) (hc:oe.cls=cls) (hx:oe.dict=dx) (hd:oe.data = .fields vs) (hz:1<vs.size)
 (q:∀ h' t,Fly h' e cls dx (some t)->s.heap.objs.size<=t->Flew (frs (env::outer)) e none s.heap h'->h'.FunFrames base (env::outer)->Q () { s with heap:=h' }) :
 wpAny M A (do let a <- frameOf env;let pl <- entryPlaceOf L hn;let b <- jF head a .none (rawInt L) .none pl;setField (.ref e) 1 b) (λ_ s'=>wpAny M A (setFlight (.ref e) none) Q E s') E s:=by
 have ne:e ∉ frs (env::outer):=λm=>by
  obtain⟨_,o,ho,nf⟩:=hl.mem m
  rw[he] at ho
  cases ho
  exact nf vs hd
 refine wpAny_bind (wpAny_frameOf_fun hfr hl hf λh1 s1=>?_)
 refine wpAny_bind (wpAny_entryPlaceOf λpl hp=>?_)
 unfold jF newFields
 refine wpAny_bind (wpAny_newObj_type ?_ (hp.sizeOk5 _ _ _ _ _))
 generalize ho:({ cls := .type "traceback", dict:=none,data := .fields ([head,.ref L,.none,rawInt L,.none]++(if pl.isEmpty then Qf 6 Zh else pl)).toArray }:Obj)=nt
 have z3:3<([head,.ref L,.none,rawInt L,.none]++(if pl.isEmpty then Qf 6 Zh else pl)).toArray.size:=by simp only[Qx,Qg,Qm] <;> omega
 generalize hts:([head,.ref L,.none,rawInt L,.none]++(if pl.isEmpty then Qf 6 Zh else pl)).toArray=ts at ho z3
 have dn:nt.data = .fields ts:=by rw[<- ho]
 have fn:nt.isFreed=false:=ZM dn
 have e1:h1.get? e=some oe:=(s1.2.1 e ne).trans he
 have e2:=Qc nt e1
 refine wpAny_setField e2 hd hz ?_
 have te:h1.objs.size ≠ e:=J5 (Qk e1)
 have d3:=J7 hd (·.setIfInBounds 1 (QC h1.objs.size))
 have e3:=Zj (Jt (·.setIfInBounds 1 (QC h1.objs.size))) e2 (ZM d3)
 have t3:=(QJ (h1.push nt) (Jt (·.setIfInBounds 1 (QC h1.objs.size))) (ZD te)).trans (Qq h1 fn)
 unfold setFlight
 refine wpAny_bind (wpAny_field e3 d3 (x := .ref h1.objs.size) (by simp[hz]) ?_)
 rw[if_pos (by simp)]
 have d4:=J7 dn (·.setIfInBounds 3 ((none:Option Addr).elim Zh λf=>rawInt f))
 have t4:=Zj (Jt (·.setIfInBounds 3 ((none:Option Addr).elim Zh λf=>rawInt f))) t3 (ZM d4)
 have kp:∀ b o,b ≠ e->h1.get? b=some o->(((h1.push nt).update e (Jt (·.setIfInBounds 1 (QC h1.objs.size)))).update h1.objs.size (Jt (·.setIfInBounds 3 ((none:Option Addr).elim Zh λf=>rawInt f)))).get? b=some o:=λb o nb hb=>by
  rw[QJ _ _ (J5 (Qk hb)),QJ _ _ (ZD nb)]
  exact Qc nt hb
 refine wpAny_setField t3 dn z3 (q _ h1.objs.size ⟨⟨_,_,(QJ _ _ te).trans e3,(qe _ _).trans hc,(zkp _ _).trans hx,d3,by simpa using hz,by simp[hz]⟩,λt et=>?_⟩ ?_ ⟨λb o nb _ nf hb=>?_,λb o mb hb=>?_⟩ ?_)
 ·cases et
  exact⟨te,_,_,t4,d4,by simp[z3]⟩
 ·exact Yh s1.1.symm
 ·exact kp b o nb ((s1.2.1 b nf).trans hb)
 ·obtain⟨sl,h2⟩:=s1.2.2 b o hb
  exact⟨sl,kp b _ (λz=>ne (z ▸ mb)) h2⟩
 ·refine hl.of_keeps λb o hb nf=>?_
  obtain⟨sl,h2⟩:=s1.2.2 b o hb
  exact⟨_,kp b _ (λz=>by rw[z,he] at hb;cases hb;exact nf vs hd) h2,rfl⟩
theorem zna{cls:Value}{dx T:Option Addr}{Q:Unit->Shared->Prop}(hfr:A.frames=some (env::outer))(hl:s.heap.FunFrames base (env::outer))(hf:env.frame=some L)(hb:∀ t,T=some t->base.get? t=none)
 (F:Fly s.heap e cls dx T) (q:∀ h' t,Fly h' e cls dx (some t)->s.heap.objs.size<=t->Flew (frs (env::outer)) e T s.heap h'->h'.FunFrames base (env::outer)->Q () { s with heap:=h' }) :
 wpAny M A (noteFrame (.ref e) env) (λ_ s'=>wpAny M A (setFlight (.ref e) none) Q E s') E s:=by
 obtain⟨⟨oe,vs,he,hc,hx,hd,hz,h1⟩,nt⟩:=F
 unfold noteFrame
 simp only[hf]
 refine wpAny_bind (wpAny_field he hd h1 ?_)
 cases T with
 | none =>
   rw[if_neg (by decide)]
   exact zkv hfr hl hf he hc hx hd hz q
 | some t =>
   obtain⟨tne,oT,ts,ht,dt,t3⟩:=nt t rfl
   have z3:3<ts.size:=(JH.mp t3).1
   rw[if_pos (show((some t).elim Zh QC != Zh)=true by simp)]
   refine wpAny_bind (wpAny_field ht dt t3 ?_)
   rw[if_neg (by simp[rawInt])]
   refine wpAny_bind (wpAny_setField ht dt z3 ?_)
   have ot:∀ b,b ≠ t->(s.heap.update t (Jt (·.setIfInBounds 3 Zh))).get? b=s.heap.get? b:=λb nb=>QJ _ _ (ZD nb)
   have rcd:∀ b o,s.heap.get? b=some o->(∀ vs,o.data ≠ .fields vs)->b ≠ t:=λb o gb nf z=>by
    rw[z,ht] at gb
    cases gb
    exact nf ts dt
   have nfr:t ∉ frs (env::outer):=λm=>by
    obtain⟨_,o,go,nf⟩:=hl.mem m
    rw[ht] at go
    cases go
    exact nf ts dt
   refine zkv (s:={ s with heap:=s.heap.update t (Jt (·.setIfInBounds 3 Zh)) }) hfr (hl.of_keeps λb o gb nf=>⟨o,(ot b (rcd b o gb nf)).trans gb,rfl⟩) hf ((ot e (ZD tne)).trans he) hc hx hd hz λh' u F' nu W fr=>?_
   exact q h' u F' (by rw[<- Heap.size_after_update s.heap t];exact nu) ⟨λb o nb nT nf gb=>W.keep b o nb (by simp) nf ((ot b λz=>nT (by rw[z])).trans gb),λb o mb gb=>W.slot b o mb ((ot b λz=>nfr (z ▸ mb)).trans gb)⟩ fr
theorem zrl{cls:Value}{dx T:Option Addr}{Q:Unit->Shared->Prop}(hfr:A.frames=some (env::outer))(hl:s.heap.FunFrames base (env::outer))(hf:env.frame=some L)(hb:∀ t,T=some t->base.get? t=none)
 (F:Fly s.heap e cls dx T) (q:∀ h' t,Fly h' e cls dx (some t)->s.heap.objs.size<=t->Flew (frs (env::outer)) e T s.heap h'->h'.FunFrames base (env::outer)->Q () { s with heap:=h' }) :
 wpAny M A (leaving env (.ref e)) Q E s:=wpAny_bind (zna hfr hl hf hb F q)
theorem zus{cls:Value}{dx:Option Addr}{t:Addr}{Q:Unit->Shared->Prop}(F:Fly s.heap e cls dx (some t))(q:∀ h',Fly h' e cls dx (some t)->(∀ b o,b ≠ t->s.heap.get? b=some o->h'.get? b=some o)->Q () { s with heap:=h' }):wpAny M A (setFlight (.ref e) none) Q E s:=by
 obtain⟨⟨oe,vs,he,hc,hx,hd,hz,h1⟩,nt⟩:=F
 obtain⟨tne,oT,ts,ht,dt,t3⟩:=nt t rfl
 have z3:3<ts.size:=(JH.mp t3).1
 unfold setFlight
 refine wpAny_bind (wpAny_field he hd h1 ?_)
 rw[if_pos (show((some t).elim Zh QC != Zh)=true by simp)]
 have d4:=J7 dt (·.setIfInBounds 3 ((none:Option Addr).elim Zh λf=>rawInt f))
 have t4:=Zj (Jt (·.setIfInBounds 3 ((none:Option Addr).elim Zh λf=>rawInt f))) ht (ZM d4)
 refine wpAny_setField ht dt z3 (q _ ⟨⟨oe,vs,(QJ _ _ tne).trans he,hc,hx,hd,hz,h1⟩,λu eu=>?_⟩ λb o nb hb=>(QJ _ _ (ZD nb)).trans hb)
 cases eu
 exact⟨tne,_,_,t4,d4,by simp[z3]⟩
end
section
variable {P : Program} {w : World} {H : Hp} {h h' : Heap} {fs : List Addr} {e : Addr} {T : Option Addr}
theorem Flew.un(W:Flew fs e T h h'):Un fs (e::T.toList) H H h h' where
 keep:=λb o q _ nf nx=>W.keep b o (λz=>nx (by rw[z];exact Qj)) (λz=>nx (by rw[z];simp)) nf q
 slot:=λb o q _ mf _=>W.slot b o mf q
 free:=λb o q n _=>n
 there:=λb o q nx=>by
  by_cases hb:b ∈ fs
  ·obtain⟨sl,z⟩:=W.slot b o hb q
   exact⟨_,z⟩
  ·exact⟨o,W.keep b o (λz=>nx (by rw[z];exact Qj)) (λz=>nx (by rw[z];simp)) hb q⟩
 tups:=λ_ _ q=>q
 frzs:=λ_ _ _ q=>q
 tbls:=λb ps q=>⟨#[],by rw[YJ];exact q⟩
theorem Flew.hok(W:Flew fs e T h h')(hok:HOk P w H h)(he:H e=none)(hT:∀ t,T=some t->H t=none)(hf:∀ b ∈ fs,H b=none):HOk P w H h':=λa o q =>
 (hok a o q).stay (λb u hb g=>by
  have nb:H b ≠ none:=by
   rcases hb with z|z
   ·rw[z,q];simp
   ·rw[z];simp
  exact W.keep b u (λz=>nb (by rw[z];exact he)) (λz=>nb (hT b z)) (λz=>nb (hf b z)) g) (λ_ z=>z) λ_ _ z=>z
end
def CX1(P:Program)(w:World):CXT:=λouter H s E e s'=>∃ (a C dx:Addr) (T:Option Addr) (H':Hp),e = .ref a/\s'.os=s.os/\AllBare s'.gens/\Un (frs outer) [] H H' s.heap s'.heap/\HOk P w H' s'.heap /\
 Fly s'.heap a (.ref C) (some dx) T/\H' a=none/\s.heap.objs.size<=a/\(∀ t,T=some t->H' t=none/\s.heap.objs.size<=t)/\E (.ref C) (some dx) H'
structure Bdy (P:Program) (w:World) (X:Cx) (E:XK):Prop where
 prog:X.prog=P
 wld:X.w=w
 stk:X.stack=X.env::X.outer
 fr:X.env.frame=some X.env.locals
 ex:X.ex = []
 xe:X.xe=λe s'=>wpAny (model P w) X.A (leaving X.env e) (λ_ s''=>CX1 P w X.outer X.H₀ X.s₀ E e s'') (λe' s''=>CX1 P w X.outer X.H₀ X.s₀ E e' s'') s'
section
variable {P : Program} {w : World} {X : Cx} {E : XK} {pins : List (Addr × Obj)} {σ : St} {H : Hp} {s : Shared} {a C dx : Addr} {T : Option Addr}
theorem Bdy.out(B:Bdy P w X E)(I:Inv X pins σ H s)(F:Fly s.heap a (.ref C) (some dx) T)(na:H a=none)(fa:X.s₀.heap.objs.size<=a)(hT:∀ t,T=some t->H t=none/\X.s₀.heap.objs.size<=t)(q:E (.ref C) (some dx) H):X.xe (.ref a) s:=by
 have fr0:X.A.frames=some (X.env::X.outer):=by rw[I.ok.frames,B.stk]
 have st0:s.heap.FunFrames X.base (X.env::X.outer):=by have:=I.stack;rwa [B.stk] at this
 have bT:∀ t,T=some t->X.base.get? t=none:=λt z=>by
  cases g:X.base.get? t with
  | none=>rfl
  | some o=>exact absurd (Qk (I.ok.bs t o g).1) (ZH.mpr (hT t z).2)
 rw[B.xe]
 refine zrl fr0 st0 B.fr bT F λh' t F' nt W fr=>?_
 have frn:∀ b ∈ frs (X.env::X.outer),H b=none:=by have:=I.stkFree;rwa [B.stk] at this
 have hok:=B.prog ▸ B.wld ▸ W.hok I.hok na (λt z=>(hT t z).1) frn
 have bu:=I.base
 rw[B.ex] at bu
 have s0:∀ b o,X.s₀.heap.get? b=some o->b ≠ a/\T ≠ some b/\b ≠ X.env.locals:=λb o g=>by
  refine⟨λz=>?_,λz=>?_,λz=>?_⟩
  ·rw[z] at g;exact absurd (Qk g) (ZH.mpr fa)
  ·exact absurd (Qk g) (ZH.mpr (hT b z).2)
  ·rw[z] at g;exact absurd (Q5 (Qk g) I.ok.above) (QS _)
 have nf:∀ b,b ≠ X.env.locals->b ∉ X.fs->b ∉ frs (X.env::X.outer):=λb h1 h2 m=>by
  have m2:b ∈ X.env.locals::X.fs:=by
   have:frs (X.env::X.outer)=X.env.locals::X.fs:=by
    show qM _ (X.env::X.outer)=_
    rw[Ju,B.fr]
    rfl
   rwa [this] at m
  rcases Qt.mp m2 with z|z
  ·exact h1 z
  ·exact h2 z
 have mf:∀ b,b ∈ X.fs->b ∈ frs (X.env::X.outer):=λb m=>by
  show b ∈ qM _ (X.env::X.outer)
  rw[Ju,B.fr]
  exact Qe _ m
 have un:Un (frs X.outer) [] X.H₀ H X.s₀.heap h':={
  keep:=λb o g n hb hx=>let ⟨z1,z2,z3⟩:=s0 b o g;W.keep b o z1 z2 (nf b z3 hb) (bu.keep b o g n hb hx)
  slot:=λb o g n hb hx=>by
   obtain⟨sl,g1⟩:=bu.slot b o g n hb hx
   obtain⟨sl2,g2⟩:=W.slot b _ (mf b hb) g1
   exact⟨sl2,g2⟩
  free:=bu.free
  there:=λb o g hx=>by
   obtain⟨o1,g1⟩:=bu.there b o g hx
   obtain⟨z1,z2,z3⟩:=s0 b o g
   by_cases hb:b ∈ X.fs
   ·obtain⟨sl2,g2⟩:=W.slot b _ (mf b hb) g1
    exact⟨_,g2⟩
   ·exact⟨o1,W.keep b o1 z1 z2 (nf b z3 hb) g1⟩
  tups:=bu.tups
  frzs:=bu.frzs
  tbls:=bu.tbls }
 refine⟨a,C,dx,some t,H,rfl,I.os,I.bare,un,hok,F',na,fa,λu z=>?_,q⟩
 cases z
 exact⟨I.hok.fresh nt,Q4 I.sz nt⟩
end
end L3
namespace L3
open PySem PySem.Spec PySem.Calls
open PyProof.Rows hiding St
open L2
theorem zqf{K:Qa}{h:Heap}{A1:Addr}{c0:Value}{dd od:Option Addr}{cd:ClassData}{sl osl:Array (Option Value)}{es:Array DictEntry}{ep:Nat}{oc:Value}{bmB tl:List Value}(x:K.In h)
 (hA:K.lookup A1=some ⟨c0,dd,.cls cd,sl⟩) (hN:K.lookup cd.ns=some ⟨oc,od,.dict es ep,osl⟩) (sk:StrKeys es) (ni:nsFind es "__init__" = none) (T:OwnTail h bmB tl):OwnTail h bmB (.ref A1::tl) :=
 .own (x _ _ hA) ⟨_,es,ep,x _ _ hN,rfl,sk,λ_=>rfl⟩ ni T
abbrev zd7(us:List Value):Obj:={ cls := .type "tuple", data := .seq us.toArray }
abbrev zdb(C t:Addr):Obj:={ cls := .ref C,data := .fields #[.ref t,.none,.none,.none,.bool false,.none] }
section
variable {prog : Program} {w : World} {A : Around} {K : Qa} {C N f : Addr} {R : Result → Shared → Prop} {s : Shared} {us : List Value}
variable {nm q : Str} {bs bm bmB : List Value} {sn : List Str} {sub : List Value} {ab : Bool} {col : Option Bool} {dd : Option Addr} {k0 k1 k2 k3 k5 : Option Value} {B newId initId : String}
theorem z3i(X:K.In s.heap)(hC:K.lookup C=some (excClassObj nm q C N bs bm true sn sub ab col dd k0 k1 k2 k3 k5 newId))(T:OwnTail s.heap bmB bm)(F:ExcBaseFacts B newId initId bmB)
 (hi:QQ K (.ref C) "__init__" = some (some (.ref f))) (hf:Jc K (.ref f)=some (.type "function")) (hu:us.length<=sizeLine)
 (h:codeAny (model prog w) (A.under (.builtin "type.__call__" ⟨.ref C::us,[]⟩)) (.call (.ref f) ⟨.ref (s.heap.objs.size+1)::us,[]⟩) (PySem.W.InitBack (s.heap.objs.size+1) R)
  { s with heap:=(s.heap.push (zd7 us)).push (zdb C s.heap.objs.size) }) :
 codeAny (model prog w) A (.call (.ref C) ⟨us,[]⟩) R s:=by
 obtain⟨hh,g,d,tk,os⟩:=s
 have gC:=X _ _ hC
 have t1:=tc_lookup
 have t2:=tc_bind (.ref C)
 have tT:(⟨hh,g,d,tk,os⟩:Shared).TypeIs (.ref C) "type" := ⟨_,gC,rfl⟩
 refine codeAny_of_tree ?_
 show wpAny _ _ (callAny (.ref C) _) _ _ _
 repeat (any_goals (first|assumption|with_reducible refine wpAny_loadPart_at gC ?_|wp_step))
 refine⟨rfl,?_⟩
 refine codeAny_call_builtin_at (YK _ (by decide +kernel)) entry_typeCall (wpAny_check_type_call_sub gC ?_)
 repeat (first|with_reducible refine wpAny_loadPart_at gC ?_|with_reducible refine wpAny_madeBy_exc gC ?_|wp_step)
 refine codeAny_call_builtin_code (YK _ F.quiet) (wpAny_check_new_subT F T gC (codeAny_exc_new_subT F T gC ?_ hu))
 show wpAny _ _ _ _ _ _
 have kp:∀ b o,hh.get? b=some o->((hh.push (zd7 us)).push (zdb C hh.objs.size)).get? b=some o:=λb o z=>Qc _ (Qc _ z)
 have gC1:=kp _ _ gC
 have X1:=X.keeps kp
 have gx:((hh.push (zd7 us)).push (zdb C hh.objs.size)).get? (hh.objs.size+1)=some (zdb C hh.objs.size):=by heap_get
 have cC:(QC C::bm).contains (.ref C)=true:=by simp
 have tx:ZK (model prog w) ((hh.push (zd7 us)).push (zdb C hh.objs.size)) (typeOf (.ref (hh.objs.size+1))) (.ref C):=(Yr gx).andThen .now
 have sx:ZK (model prog w) ((hh.push (zd7 us)).push (zdb C hh.objs.size)) (isSubtype (.ref C) (.ref C)) true:=λA1 Q1 E1 s1 k1 z1=>by
  obtain⟨h1,g1,d1,u1,o1⟩:=s1
  refine wpAny_isSubtype_exc (k1 _ _ gC1) ?_
  rw[cC]
  exact z1
 have ix:=Jp (M:=model prog w) X1 hi
 have bx:=PySem.W.bind_fn (M:=model prog w) X1 (.ref (hh.objs.size+1)) hf
 have nx:ZK (model prog w) ((hh.push (zd7 us)).push (zdb C hh.objs.size)) (isInstance (.ref (hh.objs.size+1)) (.ref C)) true:=tx.andThen sx
 refine wpAny_bind (nx.here ?_)
 rw[if_neg (by decide)]
 unfold callSpecial? specialOf
 refine wpAny_bind (wpAny_holding (wpAny_bind (wpAny_bind (tx.here ?_))))
 refine ix.here ?_
 refine wpAny_holding (wpAny_bind (bx.here ?_))
 refine wpAny_bind (wpAny_call (codeAny_mono h λr s' z=>?_))
 rcases r with e|(v|_|_|_)
 ·exact z
 ·exact z.elim
 ·exact z.elim
 ·exact z.elim
 ·obtain⟨rfl,z⟩:=z
  exact wpAny_pure (wpAny_pure z)
end
end L3
namespace L3
open PySem PySem.Spec PySem.Calls Builtin Builtin.ObjectAttr
open PyProof.Rows hiding St
open L2
structure XCls (K:Qa) (C:Addr) (f:Str):Prop where
 cls:∃ cd,Yu K C=some cd/\cd.hasDict=true/\cd.mro.isEmpty=false/\cd.mro.contains (.type "object")=true/\∀ v,refuseLoop v "__setattr__" cd.mro=pure ()
 sa:QQ K (.ref C) "__setattr__" = some (some (.builtin "object.__setattr__"))
 no:QQ K (.ref C) f=some none
section
variable {prog : Program} {w : World} {A : Around} {E : Value → Shared → Prop} {K : Qa} {C x : Addr} {s : Shared} {f : Str} {v : Value} {o : Obj} {vs : Array Value} {Q : Unit → Shared → Prop} {R : Result → Shared → Prop}
theorem z5g{tk:Tok}(X:K.In s.heap)(c:XCls K C f)(hx:s.heap.get? x=some o)(hc:o.cls = .ref C)
 (h:wpAny (model prog w) A.in1 (storeInOwnDict (.ref x) (.ref C) (.str f tk) f v false)
  (λfin s'=>match fin with | .done z=>R (.ok z) s' | .again c'=>c'.quiet=true/\codeAny (model prog w) A c' R s') (λe s'=>R (.error e) s') s) :
 codeAny (model prog w) A (.call (.builtin "object.__setattr__") ⟨[.ref x,.str f tk,v],[]⟩) R s:=by
 obtain⟨⟨cd,c1,c2,c3,c4,c5⟩,sa,no⟩:=c
 have S:=j4
 have ty:ZK (model prog w) s.heap (typeOf (.ref x)) (.ref C):=by
  obtain⟨oc,od,dt,sl⟩:=o
  cases hc
  exact(Yr hx).andThen .now
 have sb:ZK (model prog w) s.heap (isInstance (.ref x) (.type "object")) true:=ty.andThen (JO X (by unfold QW;rw[c1,Option.bind_some,if_neg (by rw[c3];decide),c4]))
 refine codeAny_call_builtin S.slot.plain S.entry (@jP (model prog w) _ _ s "object.__setattr__" "object" "__setattr__" (.ref x) [.str f tk,v] [] _ S.kind S.split sb (S.args (.ref x) (.str f tk) v) ?_)
 have mr:ZK (model prog w) s.heap (mroOf (.ref C)) cd.mro:=(Y6 X c1).andThen .now
 rw[PySem.W.osa_eq,refuse_eq]
 refine wpAny_bind (wpAny_bind (ty.here (wpAny_bind (mr.here ?_))))
 rw[c5]
 refine wpAny_pure (wpAny_bind (ty.here (wpAny_bind ((Jp X no).here (wpAny_bind (wpAny_pure ?_))))))
 exact h
theorem zwm(X:K.In s.heap)(c:XCls K C f)(hx:s.heap.get? x=some o)(hc:o.cls = .ref C)
 (h:wpAny (model prog w) A.in1 (storeInOwnDict (.ref x) (.ref C) (.str f s.toks) f v false) (λfin s'=>match fin with | .done (.ret _)=>Q () s'|_=>False) E { s with toks:=s.toks+1 }) :
 wpAny (model prog w) A (setAttr (.ref x) f v) Q E s:=by
 have ty:ZK (model prog w) s.heap (typeOf (.ref x)) (.ref C):=by
  obtain⟨oc,od,dt,sl⟩:=o
  cases hc
  exact(Yr hx).andThen .now
 unfold setAttr callSpecial? specialOf
 refine wpAny_bind (wpAny_mkText (wpAny_bind (wpAny_bind (wpAny_bind (ZI (s:={ s with toks:=s.toks+1 }) ty ?_)))))
 refine ZI (s:={ s with toks:=s.toks+1 }) (Jp X c.sa) ?_
 refine wpAny_holding ?_
 rw[j4.slot.bind]
 refine wpAny_bind (wpAny_pure (wpAny_bind (wpAny_call (z5g (s:={ s with toks:=s.toks+1 }) X c hx hc (wpAny_mono h (λfin s' z=>?_) λe s' z=>z)))))
 rcases fin with (_|_|_|u)|c'
 ·exact z.elim
 ·exact z.elim
 ·exact z.elim
 ·exact wpAny_pure (wpAny_pure z)
 ·exact z.elim
theorem z0k(X:K.In s.heap)(c:XCls K C f)(hx:s.heap.get? x=some o)(hc:o.cls = .ref C)(hd:o.data = .fields vs)(hn:o.dict=none)
 (h:∀ h' d tk,h'.get? x=some { o with dict:=some d }->h'.Ns1 d (λy=>if y=f then some v else none)->d=s.heap.objs.size->(∀ b u,b ≠ x->s.heap.get? b=some u->h'.get? b=some u)->Q () { s with heap:=h',toks:=tk }) :
 wpAny (model prog w) A (setAttr (.ref x) f v) Q E s:=by
 refine zwm X c hx hc ?_
 obtain⟨⟨cd,c1,c2,c3,c4,c5⟩,sa,no⟩:=c
 obtain⟨hh,g,d,tk,os⟩:=s
 obtain⟨oc,od,dt,sl⟩:=o
 cases hc
 cases hd
 cases hn
 have gx:(hh.push JE).get? x=some ⟨.ref C,none,.fields vs,sl⟩:=Qc _ hx
 have nx:x ≠ hh.objs.size:=Q8 (Qk hx)
 unfold storeInOwnDict ownDictForStores instanceDict
 refine wpAny_bind (wpAny_pure (wpAny_bind (wpAny_bind (wpAny_loadPart hx (wpAny_bind (ZI (s:=⟨hh,g,d,tk+1,os⟩) (Y6 X c1) ?_))))))
 rw[c2]
 refine wpAny_bind (wpAny_alloc ?_)
 refine wpAny_bind (wpAny_update gx ?_)
 refine wpAny_pure ?_
 have g2:((hh.push JE).update x λo=>{ cls:=o.cls,dict:=some hh.objs.size,data:=o.data,slots:=o.slots }).get? hh.objs.size=some JE:=(QJ _ _ nx).trans (Heap.get?_push_at rfl rfl)
 have g3:((hh.push JE).update x λo=>{ cls:=o.cls,dict:=some hh.objs.size,data:=o.data,slots:=o.slots }).get? x=some ⟨.ref C,some hh.objs.size,.fields vs,sl⟩:=Zj _ gx rfl
 have n2:((hh.push JE).update x λo=>{ cls:=o.cls,dict:=some hh.objs.size,data:=o.data,slots:=o.slots }).Ns hh.objs.size (λ_=>none):=⟨_,#[],_,g2,rfl,λe he=>absurd he (by simp),λ_=>rfl⟩
 show wpAny _ _ (storeInDict hh.objs.size (.str f tk) f v) _ _ _
 unfold storeInDict newKeyGuard
 refine wpAny_bind (wpAny_pure (wpAny_bind (wpAny_nsSet1 (Heap.Ns1.of_empty n2) λh' m1 sb=>?_)))
 obtain⟨oD,eD,pD,hoD,hdD,hcD⟩:=m1.count (zi f v Within.nil)
 refine wpAny_bind (wpAny_lookBehind hoD (by rw[hdD];exact pastItsLine_dict (Q4 hcD (by rw[Qm,ZE,sizeLine_eq];omega))) (wpAny_pure ?_))
 refine h h' hh.objs.size _ ((sb.2 x nx).trans g3) m1 rfl λb u nb hb=>?_
 exact(sb.2 b (Q8 (Qk hb))).trans ((QJ _ _ (ZD nb)).trans (Qc _ hb))
theorem z3c{dx:Addr}{mA:Str->Option Value}{ns:List Str}(X:K.In s.heap)(c:XCls K C f)(hx:s.heap.get? x=some o)(hc:o.cls = .ref C)(hd:o.data = .fields vs)(hn:o.dict=some dx)(m:s.heap.Ns1 dx mA)(hw:Within mA ns)(hz:ns.length<=1000)
 (h:∀ h' tk,h'.Ns1 dx (λy=>if y=f then some v else mA y)->(∀ b u,b ≠ dx->s.heap.get? b=some u->h'.get? b=some u)->Q () { s with heap:=h',toks:=tk }) :
 wpAny (model prog w) A (setAttr (.ref x) f v) Q E s:=by
 refine zwm X c hx hc ?_
 obtain⟨⟨cd,c1,c2,c3,c4,c5⟩,sa,no⟩:=c
 obtain⟨hh,g,d,tk,os⟩:=s
 obtain⟨oc,od,dt,sl⟩:=o
 cases hc
 cases hd
 cases hn
 unfold storeInOwnDict ownDictForStores instanceDict
 refine wpAny_bind (wpAny_pure (wpAny_bind (wpAny_bind (wpAny_loadPart hx (wpAny_bind (ZI (s:=⟨hh,g,d,tk+1,os⟩) (Y6 X c1) ?_))))))
 rw[c2]
 refine wpAny_pure (a:=some dx) ?_
 show wpAny _ _ (storeInDict dx (.str f tk) f v) _ _ _
 unfold storeInDict newKeyGuard
 refine wpAny_bind (wpAny_pure (wpAny_bind (wpAny_nsSet1 m λh' m1 sb=>?_)))
 obtain⟨oD,eD,pD,hoD,hdD,hcD⟩:=m1.count (zi f v hw)
 refine wpAny_bind (wpAny_lookBehind hoD (by rw[hdD];exact pastItsLine_dict (Q4 hcD (by rw[Qm,sizeLine_eq];omega))) (wpAny_pure ?_))
 exact h h' _ m1 λb u nb hb=>(sb.2 b nb).trans hb
end
abbrev zlo(C t:Addr)(dx:Option Addr):Obj:={ cls := .ref C,dict:=dx,data := .fields #[.ref t,.none,.none,.none,.bool false,.none] }
def XO(x C:Addr)(dx:Option Addr):HO := .ext λh=>∃ t:Addr,h.get? x=some (zlo C t dx)
def MutX:Option HO->Prop
 | some (.ext _)=>True
 | some (.xd _)=>True
 | _=>False
section
variable {X : Cx} {pins : List (Addr × Obj)} {σ : St} {H H' : Hp} {s : Shared} {h' : Heap}
theorem Inv.chg{t':Nat}(I:Inv X pins σ H s)(S:Addr->Prop)(hS:∀ b,S b->(H b=none/\s.heap.objs.size<=b)\/MutX (H b))(k:∀ b u,¬ S b->s.heap.get? b=some u->h'.get? b=some u)(ex:∀ b,S b->∃ u,h'.get? b=some u)
 (ag:∀ b,¬ S b->H' b=H b) (new:∀ b o,S b->H' b=some o->ObjOk X.prog X.w H' h' b o):Inv X pins σ H' { s with heap:=h',toks:=t' }:=by
 have nS:∀ b u,H b=some u->¬ MutX (some u)->¬ S b:=λb u e n z=>by
  rcases hS b z with q|q
  ·rw[q.1] at e;cases e
  ·rw[e] at q;exact n q
 have nF:∀ b o,s.heap.get? b=some o->H b=none->¬ S b:=λb o g n z=>by
  rcases hS b z with q|q
  ·exact absurd (Qk g) (ZH.mpr q.2)
  ·rw[n] at q;exact q
 refine I.un ⟨λb o g n _ _=>k b o (nF b o g n) g,λb o g n _ _=>⟨o.slots,k b o (nF b o g n) g⟩,λb o g n _=>by rw[ag b (nF b o g n)];exact n,λb o g _=>?_,λb xs q=>?_,λb o u q=>?_,λb ps q=>?_⟩ λb o q=>?_
 ·by_cases z:S b
  ·exact ex b z
  ·exact⟨o,k b o z g⟩
 ·rw[ag b (nS b _ q λz=>z)];exact q
 ·rw[ag b (nS b _ q λz=>z)];exact q
 ·exact⟨#[],by rw[ag b (nS b _ q λz=>z),YJ];exact q⟩
 ·by_cases z:S b
  ·exact new b o z q
  ·rw[ag b z] at q
   refine(I.hok b o q).stay (λc u hc g=>k c u ?_ g) (λc r=>?_) λc xs r=>?_
   ·rcases hc with rfl|hc
    ·exact z
    ·exact nS c _ hc λz=>z
   ·rw[ag c (nS c _ r λz=>z)];exact r
   ·rw[ag c (nS c _ r λz=>z)];exact r
theorem zwj{x C t:Addr}{dx:Option Addr}(e:h'.get? x=some (zlo C t dx)):ObjOk X.prog X.w H' h' x (XO x C dx) :=
 ⟨⟨t,e⟩,⟨_,e⟩,λh1 h2 ⟨u,g⟩ k=>⟨u,k _ g⟩⟩
theorem XO.at{x C:Addr}{dx:Option Addr}(I:Inv X pins σ H s)(e:H x=some (XO x C dx)):∃ t:Addr,s.heap.get? x=some (zlo C t dx):=(I.hok x _ e).1
def zwb(K:Qa)(f:Str)(v y:V)(H:Hp)(Q:Hp->Prop):Prop:=∃ x C,v = .ref x/\XCls K C f /\
 ((H x=some (XO x C none)/\∀ d,H d=none->d ≠ x->Q (upd (upd H d (.xd [(f,y)])) x (XO x C (some d)))) \/
  ∃ d fs,H x=some (XO x C (some d))/\H d=some (.xd fs)/\fs.length<1000/\Q (upd H d (.xd (putF f y fs))))
theorem zsk{A:Around}{E:Value->Shared->Prop}{f:Str}{v y:V}{u uv:Value}{Q:Unit->Shared->Prop}{Qh:Hp->Prop}(I:Inv X pins σ H s)(rv:RelV v uv)(ry:RelV y u)(h:zwb X.K f v y H Qh)
 (q:∀ s' H',Inv X pins σ H' s'->Qh H'->Q () s'):wpAny (model X.prog X.w) A (setAttr uv f u) Q E s:=by
 obtain⟨x,C,rfl,c,⟨hx,hq⟩|⟨d,fs,hx,hd,hl,hq⟩⟩:=h
 ·obtain rfl:uv=QC x:=rv
  obtain⟨t,g⟩:=XO.at I hx
  refine z0k I.kIn c g rfl rfl rfl λh' d tk g' m ed kp=>?_
  have nd:H d=none:=I.hok.fresh (Yh ed.symm)
  have dx:d ≠ x:=λw=>by rw[w,hx] at nd;cases nd
  refine q _ _ ?_ (hq d nd dx)
  refine Inv.chg I (λb=>b=x\/b=d) (λb hb=>?_) (λb u nb g=>kp b u (λz=>nb (.inl z)) g) (λb hb=>?_) (λb nb=>?_) λb o hb e=>?_
  ·rcases hb with rfl|rfl
   ·right;rw[hx];exact trivial
   ·left;exact⟨nd,Yh ed.symm⟩
  ·rcases hb with rfl|rfl
   ·exact⟨_,g'⟩
   ·obtain⟨o,_,_,e,_⟩:=m;exact⟨o,e⟩
  ·rw[zaf (λz=>nb (.inl z)),zaf (λz=>nb (.inr z))]
  ·rcases hb with rfl|rfl
   ·rw[zar] at e;cases e;exact zwj g'
   ·rw[zaf dx,zar] at e
    cases e
    refine⟨_,m,λg=>?_⟩
    show RelO (J2 g [(f,y)]) (if g=f then some u else none)
    by_cases w:g=f
    ·subst w;rw[Zr,if_pos rfl];exact ry
    ·have hb:(g == f)=false:=beq_eq_false_iff_ne.mpr w
     rw[Zz,hb,if_neg w]
     exact trivial
 ·obtain rfl:uv=QC x:=rv
  obtain⟨t,g⟩:=XO.at I hx
  obtain⟨mA,m,rl⟩:=I.hok d _ hd
  have wi:Within mA (fs.map (·.1)):=λg hg=>by
   have:=rl g
   cases l:fs.lookup g with
   | none=>rw[l] at this;cases w:mA g with
     | none=>exact absurd w hg
     | some _=>rw[w] at this;exact this.elim
   | some v=>exact Qu.mpr ⟨(g,v),Z0 l,rfl⟩
  refine z3c I.kIn c g rfl rfl rfl m wi (by rw[Qb];omega) λh' tk m' kp=>?_
  have dx:d ≠ x:=λw=>by rw[w,hx] at hd;cases hd
  refine q _ _ ?_ hq
  refine Inv.chg I (λb=>b=d) (λb hb=>?_) (λb u nb g=>kp b u nb g) (λb hb=>?_) (λb nb=>zaf nb) λb o hb e=>?_
  ·subst hb;right;rw[hd];exact trivial
  ·subst hb;obtain⟨o,_,_,e,_⟩:=m';exact⟨o,e⟩
  ·subst hb
   rw[zar] at e
   cases e
   refine⟨_,m',λg=>?_⟩
   show RelO ((putF f y fs).lookup g) (if g=f then some u else mA g)
   rw[zh9]
   by_cases w:g=f
   ·rw[if_pos w,if_pos w];exact ry
   ·rw[if_neg w,if_neg w];exact rl g
def z5k(K:Qa)(ta tv:TE)(f:Str):TS:=λD σ H=>tv σ H λy H1=>ta σ H1 λv H2=>zwb K f v y H2 λH3=>D.nx σ H3
theorem zxd{o value:Expr}{f:Str}{pos pos':Pos}{ta tv:TE}(ha:PE X o ta)(hv:PE X value tv)(hs:swapsWith value (some (.Attribute o f pos')) pos.line X.env=pure false):PS X (.Assign [.Attribute o f pos'] value pos) (z5k X.K ta tv f):=by
 intro pins s σ H D I h
 refine plainObj_wpAny_Assign_Attribute (thn (hv pins s σ H _ I h) λu s1 ⟨y,H1,I1,ry,q⟩=>thn (ha pins s1 σ H1 _ I1 q) λov s2 ⟨x,H2,I2,rx,q2⟩=>?_) hs
 exact zsk I2 rx ry q2 λs3 H3 I3 q3=>⟨σ,_,I3,q3⟩
end
def zfm(K:Qa)(ns:List Str):Sp:=λvs H Q _=>∃ x C ys,vs = .ref x::ys/\ys.length=ns.length/\(∀ n ∈ ns,XCls K C n)/\H x=some (XO x C none)/\∀ d,H d=none->d ≠ x->Q .non (upd (upd H d (.xd (ns.zip ys))) x (XO x C (some d)))
theorem zqe{K:Qa}{ns ps:List Str}(h:ps.length=ns.length+1):∀ vs H Q E,zfm K ns vs H Q E->vs.length=ps.length:=λvs H Q E ⟨x,C,ys,e,l,_⟩=>by rw[e,Qm,l,h]
structure XMk (K:Qa) (C f:Addr) (ns:List Str):Prop where
 cls:∃ (nm q:Str) (N:Addr) (bs bm bmB:List Value) (sn:List Str) (sub:List Value) (ab:Bool) (col:Option Bool) (dd:Option Addr) (k0 k1 k2 k3 k5:Option Value) (B newId initId:String),
  K.lookup C=some (excClassObj nm q C N bs bm true sn sub ab col dd k0 k1 k2 k3 k5 newId)/\(∀ h:Heap,K.In h->OwnTail h bmB bm)/\ExcBaseFacts B newId initId bmB
 init:QQ K (.ref C) "__init__" = some (some (.ref f))
 fn:Jc K (.ref f)=some (.type "function")
 kp:ZB K (.ref C)=true
 fld:∀ n ∈ ns,XCls K C n
section
variable {X : Cx} {pins : List (Addr × Obj)} {σ : St} {H : Hp} {s : Shared} {k : Nat} {C f : Addr} {fd : FuncData} {ps ns : List Str} {us : List Value} {vs : List V} {Q : Value → Shared → Prop}
theorem zts(M:XMk X.K C f ns)(F:FnOk X.prog X.w X.K X.mg X.base CX0 k f fd ps (zfm X.K ns))(hr:Room (k+1) X.A)(hb:Binds X.K fd ps [])(I:Inv X pins σ H s)(r:Vals vs us)(hl:vs.length=ns.length)(hz:ns.length<=1000)
 (h:∀ s' x d,Inv X pins σ (upd (upd H d (.xd (ns.zip vs))) x (XO x C (some d))) s'->s.heap.objs.size<=x->H x=none->H d=none->d ≠ x->Q (.ref x) s'):wpAny (model X.prog X.w) X.A (call (.ref C) us) Q X.xe s:=by
 obtain⟨nm,q,N,bs,bm,bmB,sn,sub,ab,col,dd,k0,k1,k2,k3,k5,B,newId,initId,hC,T,EB⟩:=M.cls
 have lu:us.length<=sizeLine:=by rw[<- r.length,hl,sizeLine_eq];omega
 have kp:∀ b o,s.heap.get? b=some o->((s.heap.push (zd7 us)).push (zdb C s.heap.objs.size)).get? b=some o:=λb o z=>Qc _ (Qc _ z)
 have gx:((s.heap.push (zd7 us)).push (zdb C s.heap.objs.size)).get? (s.heap.objs.size+1)=some (zdb C s.heap.objs.size):=by heap_get
 have nx:H (s.heap.objs.size+1)=none:=I.hok.fresh (ZZ _)
 have I2:Inv X pins σ (upd H (s.heap.objs.size+1) (XO (s.heap.objs.size+1) C none)) { s with heap:=(s.heap.push (zd7 us)).push (zdb C s.heap.objs.size),toks:=s.toks } :=
  Inv.chg I (λb=>b=s.heap.objs.size+1) (λb hb => .inl (by subst hb;exact⟨nx,ZZ _⟩)) (λb u _ g=>kp b u g) (λb hb=>by subst hb;exact⟨_,gx⟩) (λb nb=>zaf nb) λb o hb e=>by
   subst hb
   rw[zar] at e
   cases e
   exact zwj gx
 have r2:Vals (V.ref (s.heap.objs.size+1)::vs) (QC (s.heap.objs.size+1)::us) := .cons rfl r
 have sp:zfm X.K ns (V.ref (s.heap.objs.size+1)::vs) (upd H (s.heap.objs.size+1) (XO (s.heap.objs.size+1) C none)) (λv H2=>v = .non/\∃ d,H d=none/\d ≠ s.heap.objs.size+1/\H2=upd (upd H d (.xd (ns.zip vs))) (s.heap.objs.size+1) (XO (s.heap.objs.size+1) C (some d))) E0 :=
  ⟨_,C,vs,rfl,hl,M.fld,zar,λd hd dx=>⟨rfl,d,by rw[zaf dx] at hd;exact hd,dx,by
   funext b
   unfold upd
   by_cases e1:b=s.heap.objs.size+1
   ·rw[if_pos e1,if_pos e1]
   ·rw[if_neg e1,if_neg e1,if_neg e1]⟩⟩
 have hl2:(QC (s.heap.objs.size+1)::us).length=ps.length:=by rw[<- r2.length];exact F.len _ _ _ _ sp
 refine wpAny_call (z3i I.kIn hC (T _ I.kIn) EB M.init M.fn lu (codeAny_mono (F.run _ X.stack _ _ ⟨QC (s.heap.objs.size+1)::us,[]⟩ (QC (s.heap.objs.size+1)::us) _ _ E0 (hr.make C us []) (I2.env0.make C us []) ?_ r2 sp) λr s' hq=>?_))
 ·have:=hb _ (QC (s.heap.objs.size+1)::us) I2.kIn (by rw[Z8];exact hl2)
  rwa [Z8] at this
 ·cases r with
  | error e=>exact hq.elim
  | ok fl =>
    cases fl with
    | ret u =>
      obtain⟨v,H',I3,rv,ev,d,hd,dx,e2⟩:=I2.after hq
      subst ev e2
      exact⟨rv,h s' _ d I3 (ZZ _) nx hd dx⟩
    | next=>exact hq.elim
    | brk=>exact hq.elim
    | cont=>exact hq.elim
def zi1(H:Hp)(x:Addr):Hp:=λb=>if b=x then none else H b
theorem zc7{H:Hp}{x b:Addr}(h:b ≠ x):zi1 H x b=H b:=if_neg h
theorem zha{H:Hp}{x:Addr}:zi1 H x x=none:=if_pos rfl
theorem Inv.drop{x:Addr}(I:Inv X pins σ H s)(m:MutX (H x)):Inv X pins σ (zi1 H x) s:=by
 have ne:∀ b u,H b=some u->¬ MutX (some u)->b ≠ x:=λb u e n z=>by rw[<- z,e] at m;exact n m
 have dn:∀ b,H b=none->zi1 H x b=none:=λb e=>by
  by_cases z:b=x
  ·rw[z];exact zha
  ·rw[zc7 z];exact e
 refine⟨I.ok,I.os,I.bare,⟨I.base.keep,I.base.slot,λb o g n hx=>dn b (I.base.free b o g n hx),I.base.there,λb xs q=>?_,λb o u q=>?_,λb ps q=>?_⟩,I.loc,I.cell,dn _ I.free,λy c e=>dn _ (I.freeC y c e),λp hp=>?_,λb o q=>?_,I.len⟩
 ·have:=I.base.tups b xs q
  rw[zc7 (ne b _ this λz=>z)];exact this
 ·have:=I.base.frzs b o u q
  rw[zc7 (ne b _ this λz=>z)];exact this
 ·obtain⟨mo,this⟩:=I.base.tbls b ps q
  exact⟨mo,by rw[zc7 (ne b _ this λz=>z)];exact this⟩
 ·obtain⟨a1,a2,a3⟩:=I.pin p hp
  exact⟨a1,dn _ a2,a3⟩
 ·have nb:b ≠ x:=λz=>by rw[z,zha] at q;cases q
  rw[zc7 nb] at q
  refine(I.hok b o q).stay (λc u _ g=>g) (λc r=>?_) λc xs r=>?_
  ·rw[zc7 (ne c _ r λz=>z)];exact r
  ·rw[zc7 (ne c _ r λz=>z)];exact r
def ztu(C:Addr)(ns:List Str)(E:XK)(t:TA):TS:=λD σ H=>t σ H λvs H1=>vs.length=ns.length/\∀ d,H1 d=none->E (.ref C) (some d) (upd H1 d (.xd (ns.zip vs)))
section
variable {A : Around} {E : Value → Shared → Prop} {x C N : Addr} {M : Model} {env : Env} {ev : Sem Value}
variable {nm q : Str} {bs bm : List Value} {sn : List Str} {sub : List Value} {ab : Bool} {col : Option Bool} {dd : Option Addr} {k0 k1 k2 k3 k5 : Option Value} {newId : String}
theorem zvr{Q:Flow->Shared->Prop}(hm:bm.contains (.type "BaseException")=true)(hh:A.handled=none)
 (h:wpAny M A ev (λv s1=>∃ x t dx,v = .ref x/\s1.heap.get? C=some (excClassObj nm q C N bs bm true sn sub ab col dd k0 k1 k2 k3 k5 newId)/\s1.heap.get? x=some (zlo C t dx)/\E (.ref x) s1) E s) :
 wpAny M A (raiseStmt env (some ev) none) Q E s:=by
 have cB:(QC C::bm).contains (.type "BaseException")=true:=by rw[jQ,hm,Bool.or_true]
 unfold raiseStmt
 refine wpAny_bind (wpAny_mono h (λv s1 h1=>?_) λ_ _ z=>z)
 obtain⟨x,t,dx,rfl,gC,gx,z⟩:=h1
 obtain⟨h1,g1,d1,u1,o1⟩:=s1
 repeat (first|with_reducible refine wpAny_loadPart_at gx ?_|with_reducible refine wpAny_loadPart_at gC ?_|(with_reducible refine wpAny_isSubtype_exc gC ?_;rw[cB])|wp_step)
 exact wpAny_raiseNew_none hh z
end
theorem zvu{P:Program}{w:World}{E:XK}{x:Str}{e:Expr}{es:List Expr}{np cpos pos:Pos}{t:TA}(B:Bdy P w X E)(hc:X.calm=true)(M:XMk X.K C f ns)(F:FnOk X.prog X.w X.K X.mg X.base CX0 k f fd ps (zfm X.K ns))(hr:Room (k+1) X.A)(hb:Binds X.K fd ps [])(hz:ns.length<=1000)
 (hg:Gl X x) (hm:X.mg x=some (.ref C)) (ha:PA X (e::es) t) (hdb:(x == ("__debug__" : Str))=false:=by decide) (he:starEach (e::es) X.env=(false,eval e X.env)::starEach es X.env:=by rfl) (hpl:(backTo cpos (starEach es X.env)).any (·.1)=false:=by rfl) :
 PS X (.Raise (some (.Call (.Name x np) (e::es) [] cpos)) none pos) (ztu C ns E t):=by
 intro pins s σ H D I h
 obtain⟨nm,q,N,bs,bm,bmB,sn,sub,ab,col,dd,k0,k1,k2,k3,k5,B1,newId,initId,hC,T,EB⟩:=id M.cls
 have hb2:bm.contains (.type "BaseException")=true:=(T _ I.kIn).hasType EB.hasBase
 rw[arm_exec_Raise]
 refine wpAny_bind (wpAny_standAt (zvr (C:=C) (nm:=nm) (q:=q) (N:=N) (bs:=bs) (sn:=sn) (sub:=sub) (ab:=ab) (col:=col) (dd:=dd) (k0:=k0) (k1:=k1) (k2:=k2) (k3:=k3) (k5:=k5) (newId:=newId) hb2 (I.ok.hd hc) ?_))
 refine wpAny_bind (wpAny_Call_Name_kw (zej I hg hm ?_ hdb))
 refine YE (h₀:=X.base) I.ok.mod.kin M.kp (thn (ha cpos pins s σ H _ I h) λus s1 ⟨vs,H1,I1,r,hl,hq⟩=>⟨I1.kIn,?_⟩) he hpl
 refine zts M F hr hb I1 r hl hz λs' x d I2 sx nx nd dx=>wpAny_bind (wpAny_standAt (wpAny_pure ?_))
 obtain⟨t,g⟩:=XO.at I2 zar
 refine⟨x,t,some d,rfl,I2.kIn _ _ hC,g,?_⟩
 have eH:zi1 (upd (upd H1 d (.xd (ns.zip vs))) x (XO x C (some d))) x=upd H1 d (.xd (ns.zip vs)):=by
  funext b
  by_cases z:b=x
  ·rw[z,zha,zaf (ZD dx),nx]
  ·rw[zc7 z,zaf z]
 have I3:=Inv.drop I2 (x:=x) (by rw[zar];exact trivial)
 rw[eH] at I3
 refine B.out I3 (T:=none) ⟨⟨_,_,g,rfl,rfl,rfl,Q5 (by decide:1<6) (Qo _),rfl⟩,λt z=>nomatch z⟩ (by rw[zaf (ZD dx)];exact nx) ?_ (λt z=>nomatch z) (hq d nd)
 exact Q4 I1.sz sx
end
section
variable {X : Cx} {pins : List (Addr × Obj)} {σ : St} {H : Hp} {s : Shared}
theorem zf1{M:Model}{A:Around}{E:Value->Shared->Prop}{i:Nat}{n:Str}{pos:Pos}{Q:Unit->Shared->Prop}(I:Inv X pins σ H s)(hN:X.N.Nodup)(hi:X.N[i]? = some n)(hk:X.env.scope.names.lookup n=some .local)
 (h:∀ s',Inv X pins (σ.set i none) H s'->Q () s'):wpAny M A (do bindName X.env n .none;unbindBehindTheSuite X.env n pos) Q E s:=by
 obtain⟨m,hn,hl⟩:=id I.loc
 obtain⟨oL,_,_,hoL,_⟩:=id hn
 have hcls:(X.env.scope.kind == .class || (X.env.scope.kind == .module && X.env.locals != X.env.globals))=false:=by rw[I.ok.kind];rfl
 refine wpAny_nameGoes_keeps hk hn hcls λh' v hn' hs=>h _ ?_
 have ne:∀ b o,X.s₀.heap.get? b=some o->b ≠ X.env.locals:=λb o e=>Q8 (Q5 (Qk e) I.ok.above)
 have ck:∀ y c,X.env.cells.lookup y=some c->∀ v,s.heap.IsCell c v->h'.IsCell c v:=λy c e v ⟨o,ho,hd⟩=>⟨o,(hs.2 c (I.cne y c e)).trans ho,hd⟩
 refine⟨I.ok,I.os,I.bare,⟨λb o e n hb hx=>(hs.2 b (ne b o e)).trans (I.base.keep b o e n hb hx),λb o e n hb hx=>?_,I.base.free,λb o e hx=>?_,I.base.tups,I.base.frzs,I.base.tbls⟩,⟨_,hn',λj y v' e1 e2 e3=>?_⟩,λy c e=>?_,I.free,I.freeC,λp hp=>?_,λb ob e=>?_,by rw[QX];exact I.len⟩
 ·obtain⟨sl,e1⟩:=I.base.slot b o e n hb hx
  exact⟨sl,(hs.2 b (ne b o e)).trans e1⟩
 ·obtain⟨o',e1⟩:=I.base.there b o e hx
  exact⟨o',(hs.2 b (ne b o e)).trans e1⟩
 ·have hj:j ≠ i:=λz=>by
   subst z
   rw[List.getElem?_set] at e2
   split at e2
   ·split at e2 <;> cases e2
   ·rename_i w;exact absurd rfl w
  rw[QF (ZD hj)] at e2
  obtain⟨u,r,l⟩:=hl j y v' e1 e2 e3
  have yn:y ≠ n:=λz=>by
   subst z
   obtain⟨h1,g1⟩:=Qs.mp e1
   obtain⟨h2,g2⟩:=Qs.mp hi
   exact hj ((qp hN).mp (g1.trans g2.symm))
  refine⟨u,r,?_⟩
  rcases l with ⟨k,l⟩|⟨k,c,e,z⟩
  ·exact .inl ⟨k,(if_neg yn).trans l⟩
  ·exact .inr ⟨k,c,e,ck y c e _ z⟩
 ·obtain⟨v,z⟩:=I.cell y c e
  exact⟨v,ck y c e v z⟩
 ·obtain⟨e,n,nl,r⟩:=I.pin p hp
  exact⟨(hs.2 p.1 nl).trans e,n,nl,r⟩
 ·refine(I.hok b ob e).stay (λc w' hc q=>(hs.2 c ?_).trans q) (λ_ q=>q) λ_ _ q=>q
  rintro rfl
  rcases hc with rfl|hc
  ·rw[I.free] at e;cases e
  ·rw[I.free] at hc;cases hc
theorem zqt{M:Model}{A:Around}{E:Value->Shared->Prop}{K:Qa}{a C CL:Addr}{o:Obj}{b:Bool}{Q:Bool->Shared->Prop}(X:K.In s.heap)(ha:s.heap.get? a=some o)(hc:o.cls = .ref C)(ht:Jc K (.ref CL)=some (.type "type")){oc:Value}{od:Option Addr}{cd:ClassData}{sl:Array (Option Value)}(hl:K.lookup CL=some ⟨oc,od,.cls cd,sl⟩)
 (hm:QW K C (.ref CL)=some b) (hb:QW K CL (.type "BaseException")=some true) (q:Q b s):wpAny M A (excMatches (.ref a) (.ref CL)) Q E s:=by
 have ta:ZK M s.heap (typeOf (.ref a)) (.ref C):=by
  obtain⟨oc,od,dt,sl⟩:=o
  cases hc
  exact(Yr ha).andThen .now
 have nt:ZK M s.heap (isInstance (.ref CL) (.type "tuple")) false:=(PySem.W.looks_typeIn X ht).andThen (PySem.W.Looks.of_pure tc_notTuple)
 have xb:=JO (M:=M) X hb
 have sm:=JO (M:=M) X hm
 unfold excMatches
 refine wpAny_bind (nt.here ?_)
 rw[if_neg Qn]
 refine wpAny_bind (wpAny_pure ?_)
 have xc:ZK M s.heap (isExcClass (.ref CL)) true:=by
  intro A1 Q1 E1 s1 k1 z1
  refine wpAny_bind (wpAny_bind (wpAny_loadPart (k1 _ _ (X _ _ hl)) (wpAny_pure ?_)))
  exact xb A1 Q1 E1 s1 k1 z1
 refine wpAny_bind ?_
 rw[JV]
 refine wpAny_bind (wpAny_bind (xc.here ?_))
 rw[if_neg (by decide)]
 refine wpAny_pure ?_
 dsimp only
 rw[Yi]
 refine wpAny_pure (wpAny_bind (ta.here (wpAny_bind ?_)))
 rw[JV]
 refine wpAny_bind (wpAny_bind (sm.here ?_))
 cases b with
 | true =>
   rw[if_pos rfl]
   exact wpAny_pure (wpAny_pure (wpAny_pure q))
 | false =>
   rw[if_neg Qn]
   refine wpAny_pure ?_
   dsimp only
   rw[Yi]
   exact wpAny_pure (wpAny_pure q)
end
def zht(X:Cx)(a:Addr):Cx:={ X with A:=X.A.mark (some (.ref a)),calm:=false,xe:=λ_ _=>False }
section
variable {X : Cx} {pins : List (Addr × Obj)} {σ : St} {H : Hp} {s : Shared} {a : Addr}
theorem zmc(I:Inv X pins σ H s)(a:Addr):Inv (zht X a) pins σ H s :=
 ⟨⟨I.ok.mod,I.ok.kind,I.ok.glob,I.ok.blt,I.ok.above,I.ok.inj,I.ok.has,I.ok.cab,(λz=>nomatch z),I.ok.frames,I.ok.stk,I.ok.exf,I.ok.bs,I.ok.bsz,I.ok.noex,I.ok.exfs,I.ok.funs,I.ok.frf⟩,I.os,I.bare,I.base,I.loc,I.cell,I.free,I.freeC,I.pin,I.hok,I.len⟩
theorem zee(ok:X.Ok)(I:Inv (zht X a) pins σ H s):Inv X pins σ H s:=⟨ok,I.os,I.bare,I.base,I.loc,I.cell,I.free,I.freeC,I.pin,I.hok,I.len⟩
theorem Inv.track{o:HO}(I:Inv X pins σ H s)(n:H a=none)(sz:X.s₀.heap.objs.size<=a)(nl:a ≠ X.env.locals)(nc:∀ x c,X.env.cells.lookup x=some c->c ≠ a)(np:∀ p ∈ X.pn++pins,p.1 ≠ a)(new:ObjOk X.prog X.w (upd H a o) s.heap a o):Inv X pins σ (upd H a o) s:=by
 have ne:∀ b u,H b=some u->b ≠ a:=λb u e z=>by rw[z,n] at e;cases e
 have n0:∀ b o,X.s₀.heap.get? b=some o->b ≠ a:=λb o e z=>absurd (Qk e) (ZH.mpr (z ▸ sz))
 refine⟨I.ok,I.os,I.bare,⟨I.base.keep,I.base.slot,λb o g m hx=>by rw[zaf (n0 b o g)];exact I.base.free b o g m hx,I.base.there,λb xs q=>?_,λb o u q=>?_,λb ps q=>?_⟩,I.loc,I.cell,by rw[zaf (ZD nl)];exact I.free,λy c e=>by rw[zaf (nc y c e)];exact I.freeC y c e,λp hp=>?_,λb u q=>?_,I.len⟩
 ·have:=I.base.tups b xs q
  rw[zaf (ne b _ this)];exact this
 ·have:=I.base.frzs b o u q
  rw[zaf (ne b _ this)];exact this
 ·obtain⟨mo,this⟩:=I.base.tbls b ps q
  exact⟨mo,by rw[zaf (ne b _ this)];exact this⟩
 ·obtain⟨a1,a2,a3⟩:=I.pin p hp
  exact⟨a1,by rw[zaf (np p hp)];exact a2,a3⟩
 ·by_cases z:b=a
  ·subst z;rw[zar] at q;cases q;exact new
  ·rw[zaf z] at q
   exact(I.hok b u q).stay (λc u _ g=>g) (λc r=>by rw[zaf (ne c _ r)];exact r) λc xs r=>by rw[zaf (ne c _ r)];exact r
def XR(a C dx:Addr):HO := .ext λh=>∃ o vs,h.get? a=some o/\o.cls = .ref C/\o.dict=some dx/\o.data = .fields vs
def zfl(X:Cx)(pins:List (Addr × Obj))(σ:St)(E:XK):Prop:=∀ H s e s',Inv X pins σ H s->CX1 X.prog X.w X.stack H s E e s'->X.xe e s'
def PSsf(X:Cx)(pins:List (Addr × Obj))(σ:St)(ss:List Stmt)(t:TS):Prop:=∀ s H D,Inv X pins σ H s->t D σ H->wpAny (model X.prog X.w) X.A (execs ss X.env) (SP X pins D) X.xe s
def offE(i:Nat)(D:Ends):Ends:={ nx:=λσ2 H2=>D.nx (σ2.set i none) H2,rt:=D.rt,bk:=λσ2 H2=>D.bk (σ2.set i none) H2,ct:=λσ2 H2=>D.ct (σ2.set i none) H2 }
def zmj(K:Qa)(CL:Addr)(i:Nat)(ts:TS)(D:Ends)(σ:St):XK:=λCv dxo H'=>∃ C dx,Cv = .ref C/\dxo=some dx/\QW K C (.ref CL)=some true/\∀ a,H' a=none->ts (offE i D) (σ.set i (some (.ref a))) (upd H' a (XR a C dx))
def zmg(K:Qa)(CL:Addr)(i:Nat)(tb:XK->TS)(ts:TS):TS:=λD σ H=>tb (zmj K CL i ts D σ) D σ H
structure CatchC (K:Qa) (CL:Addr):Prop where
 ty:Jc K (.ref CL)=some (.type "type")
 cls:∃ oc od cd sl,K.lookup CL=some ⟨oc,od,.cls cd,sl⟩
 base:QW K CL (.type "BaseException")=some true
theorem zsp{body:List Stmt}{s0:Stmt}{suite:List Stmt}{cx n:Str}{np hpos pos:Pos}{CL:Addr}{i:Nat}{tb:XK->TS}{ts:TS}(hst:X.stack=X.env::X.outer)(hfr:X.env.frame=some X.env.locals)(hg:Gl X cx)(hm:X.mg cx=some (.ref CL))(cc:CatchC X.K CL)
 (hN:X.N.Nodup) (hi:X.N[i]? = some n) (hk:X.env.scope.names.lookup n=some .local)
 (hb:∀ pins σ E W,zfl (X.wish W) pins σ E->PSsf (X.wish W) pins σ body (tb E)) (hs:∀ a,PSs (zht X a) (s0::suite) ts) (hdb:(cx == ("__debug__" : Str))=false:=by decide) :
 PS X (.Try body [.ExceptHandler (some (.Name cx np)) (some n) (s0::suite) hpos] [] [] pos) (zmg X.K CL i tb ts):=by
 intro pins s σ H D I h
 refine wpAny_Try_except ?_
 refine wpAny_mono (hb pins σ (zmj X.K CL i ts D σ) (λe s1=>∃ H1 s0,Inv X pins σ H1 s0/\CX1 X.prog X.w X.stack H1 s0 (zmj X.K CL i ts D σ) e s1) (λH1 s0 e s' I0 q=>⟨H1,s0,I0.unwish,q⟩) s H D (I.wish _) h) (λf s1 z=>?_) λe s1 z=>?_
 ·have z':=SP.unwish z
  cases f with
  | next=>exact wpAny_execs_nil z'
  | brk=>exact z'
  | cont=>exact z'
  | ret u=>exact z'
 ·obtain⟨H1,s0',I0,a,C,dx,T,H',rfl,os,bare,un,hok,F,na,fa,hT,C',dx',e1,e2,mr,hq⟩:=z
  cases e1
  cases e2
  have I1:Inv X pins σ H' s1:=I0.call' os un hok bare (λb z=>absurd z (by simp))
  have fr0:X.A.frames=some (X.env::X.outer):=by rw[I.ok.frames,hst]
  have st0:s1.heap.FunFrames X.base (X.env::X.outer):=by have:=I1.stack;rwa [hst] at this
  have fresh:∀ b,s0'.heap.objs.size<=b->(b ∈ X.ex\/X.s₀.heap.objs.size<=b)/\b ≠ X.env.locals/\(∀ x c,X.env.cells.lookup x=some c->c ≠ b)/\∀ p ∈ X.pn++pins,p.1 ≠ b:=λb hb=>by
   refine⟨.inr (Q4 I0.sz hb),λz=>?_,λx c e z=>?_,λp hp z=>?_⟩
   ·exact absurd I0.lt (ZH.mpr (z ▸ hb))
   ·obtain⟨v,o,ho,_⟩:=I0.cell x c e
    exact absurd (Qk ho) (ZH.mpr (z ▸ hb))
   ·exact absurd (Qk (I0.pin p hp).1) (ZH.mpr (z ▸ hb))
  have bT:∀ t,T=some t->X.base.get? t=none:=λt z=>by
   cases g:X.base.get? t with
   | none=>rfl
   | some o=>exact absurd (Qk (I0.bk t o g)) (ZH.mpr (hT t z).2)
  refine zna fr0 st0 hfr bT F λh2 t2 F2 nt2 W2 fr2=>?_
  have frn:∀ b ∈ frs (X.env::X.outer),H' b=none:=by have:=I1.stkFree;rwa [hst] at this
  have hok2:=W2.hok I1.hok na (λt z=>(hT t z).1) frn
  have I2:Inv X pins σ H' { s1 with heap:=h2 }:=by
   refine I1.call (g':=s1.gens) (d':=s1.drawn) (t':=s1.toks) (ch:=a::T.toList) (by rw[hst];exact W2.un) hok2 I1.bare λb hb=>?_
   rcases Qt.mp hb with rfl|hb
   ·exact fresh b fa
   ·cases T with
    | none=>cases hb
    | some t=>rw[Q3.mp hb];exact fresh t (hT t rfl).2
  obtain⟨oc,od,cd,sl,hl⟩:=cc.cls
  obtain⟨oe,vs,ge,ce,xe,de,ze,_⟩:=F2.obj
  have I2m:=zmc I2 a
  refine wpAny_handleBy_cons (codeAny_handlers_test (zej (X:=zht X a) I2m hg hm (zqt (K:=X.K) I2.kIn ge ce cc.ty hl mr cc.base ?_) hdb)) (λz=>nomatch z)
  show codeAny _ _ _ _ _
  refine codeAny_handlers_suite_as (zus F2 λh3 F3 k3=>?_)
  obtain⟨oe3,vs3,ge3,ce3,xe3,de3,ze3,_⟩:=F3.obj
  have n2:H' t2=none:=I1.hok.fresh nt2
  have fresh1:∀ b,s1.heap.objs.size<=b->(b ∈ X.ex\/X.s₀.heap.objs.size<=b)/\b ≠ X.env.locals/\(∀ x c,X.env.cells.lookup x=some c->c ≠ b)/\∀ p ∈ X.pn++pins,p.1 ≠ b:=λb hb=>by
   refine⟨.inr (Q4 I1.sz hb),λz=>?_,λx c e z=>?_,λp hp z=>?_⟩
   ·exact absurd I1.lt (ZH.mpr (z ▸ hb))
   ·obtain⟨v,o,ho,_⟩:=I1.cell x c e
    exact absurd (Qk ho) (ZH.mpr (z ▸ hb))
   ·exact absurd (Qk (I1.pin p hp).1) (ZH.mpr (z ▸ hb))
  have I3:Inv X pins σ H' { s1 with heap:=h3 }:=by
   refine Inv.call (s:={ s1 with heap:=h2 }) (h':=h3) (H':=H') I2 (g':=s1.gens) (d':=s1.drawn) (t':=s1.toks) (ch := [t2]) ⟨λb o g m _ hx=>k3 b o (λz=>hx (by rw[z];exact Q3.mpr rfl)) g,λb o g m _ hx=>⟨o.slots,k3 b o (λz=>hx (by rw[z];exact Q3.mpr rfl)) g⟩,λb o g m _=>m,λb o g hx=>⟨o,k3 b o (λz=>hx (by rw[z];exact Q3.mpr rfl)) g⟩,λ_ _ q=>q,λ_ _ _ q=>q,λb ps q=>⟨#[],by rw[YJ];exact q⟩⟩ (λb o q=>(I2.hok b o q).stay (λc u hc g=>k3 c u (λz=>?_) g) (λ_ z=>z) λ_ _ z=>z) I2.bare λb hb=>by rw[Q3.mp hb];exact fresh1 t2 nt2
   rcases hc with rfl|hc
   ·rw[z,n2] at q;cases q
   ·rw[z,n2] at hc;cases hc
  obtain⟨x1,x2,x3,x4⟩:=fresh a fa
  have I4:Inv X pins σ (upd H' a (XR a C dx)) { s1 with heap:=h3 }:=Inv.track I3 na (Q4 I0.sz fa) x2 x3 x4 ⟨⟨oe3,vs3,ge3,ce3,xe3,de3⟩,⟨_,ge3⟩,λg1 g2 ⟨o,vs,z1,z2⟩ k=>⟨o,vs,k _ z1,z2⟩⟩
  refine zdq (X:=zht X a) (v := .ref a) (zmc I4 a) hN hi (.inl hk) rfl (λs4 I5=>?_) (.inr hk)
  refine wpAny_mono (hs a pins s4 _ _ (offE i D) I5 (hq a na)) (λf s5 z=>?_) λ_ _ z=>z.elim
  show wpAny _ _ _ _ _ _
  cases f with
  | next=>obtain⟨σ2,H2,J,q⟩:=z;exact zf1 (zee I.ok J) hN hi hk λs6 J6=>⟨_,H2,J6,q⟩
  | brk=>obtain⟨σ2,H2,J,q⟩:=z;exact zf1 (zee I.ok J) hN hi hk λs6 J6=>⟨_,H2,J6,q⟩
  | cont=>obtain⟨σ2,H2,J,q⟩:=z;exact zf1 (zee I.ok J) hN hi hk λs6 J6=>⟨_,H2,J6,q⟩
  | ret u=>obtain⟨v,σ2,H2,J,r,q⟩:=z;exact zf1 (zee I.ok J) hN hi hk λs6 J6=>⟨v,_,H2,J6,r,q⟩
end
mutual
inductive Is (K:Qa) (F:Addr->Prop) (H:Hp):V->PyData->Prop
 | none:Is K F H .non .none
 | bool (b):Is K F H (.bl b) (.bool b)
 | int (i):Is K F H (.int i) (.int i)
 | str (x):Is K F H (.str x) (.str x)
 | list {a xs ds}:F a->H a=some (.lst xs)->IsAll K F H xs ds->Is K F H (.ref a) (.list ds)
 | tuple {a xs ds}:SqT K H a xs->IsAll K F H xs ds->Is K F H (.ref a) (.tuple ds)
inductive IsAll (K:Qa) (F:Addr->Prop) (H:Hp):List V->List PyData->Prop
 | nil:IsAll K F H [] []
 | cons {v vs d ds}:Is K F H v d->IsAll K F H vs ds->IsAll K F H (v::vs) (d::ds)
end
section
variable {K : Qa} {F F' : Addr → Prop} {H H' : Hp}
mutual
theorem Is.to(hL:∀ a xs,F a->H a=some (.lst xs)->F' a/\H' a=some (.lst xs))(hT:∀ a xs,SqT K H a xs->SqT K H' a xs):∀ {v d},Is K F H v d->Is K F' H' v d
 | _,_,.none => .none
 | _,_,.bool b => .bool b
 | _,_,.int i => .int i
 | _,_,.str x => .str x
 | _,_,.list f q r => .list (hL _ _ f q).1 (hL _ _ f q).2 (IsAll.to hL hT r)
 | _,_,.tuple q r => .tuple (hT _ _ q) (IsAll.to hL hT r)
theorem IsAll.to(hL:∀ a xs,F a->H a=some (.lst xs)->F' a/\H' a=some (.lst xs))(hT:∀ a xs,SqT K H a xs->SqT K H' a xs):∀ {vs ds},IsAll K F H vs ds->IsAll K F' H' vs ds
 | _,_,.nil => .nil
 | _,_,.cons r t => .cons (Is.to hL hT r) (IsAll.to hL hT t)
end
theorem IsAll.length:∀ {vs ds},IsAll K F H vs ds->vs.length=ds.length
 | _,_,.nil=>rfl
 | _,_,.cons _ t=>by rw[Qm,Qm,IsAll.length t]
theorem IsAll.get:∀ {vs ds} {i:Nat} {d},IsAll K F H vs ds->ds[i]? = some d->∃ v,vs[i]? = some v/\Is K F H v d
 | _,_,_,_,.nil,e=>by simp at e
 | _,_,0,_,.cons r _,e=>by simp at e;subst e;exact⟨_,rfl,r⟩
 | _,_,i+1,d,.cons _ t,e=>by
   obtain⟨v,h1,h2⟩:=IsAll.get (i:=i) (d:=d) t (by simpa using e)
   exact⟨v,by simpa using h1,h2⟩
theorem IsAll.append:∀ {vs ds ws es},IsAll K F H vs ds->IsAll K F H ws es->IsAll K F H (vs++ws) (ds++es)
 | _,_,_,_,.nil,s=>s
 | _,_,_,_,.cons r t,s => .cons r (IsAll.append t s)
theorem IsAll.snoc{vs ds v d}(h:IsAll K F H vs ds)(r:Is K F H v d):IsAll K F H (vs ++ [v]) (ds ++ [d]):=h.append (.cons r .nil)
theorem IsAll.take:∀ {vs ds} (n:Nat),IsAll K F H vs ds->IsAll K F H (vs.take n) (ds.take n)
 | _,_,0,_ => .nil
 | _,_,_+1,.nil => .nil
 | _,_,n+1,.cons r t => .cons r (IsAll.take n t)
theorem IsAll.drop:∀ {vs ds} (n:Nat),IsAll K F H vs ds->IsAll K F H (vs.drop n) (ds.drop n)
 | _,_,0,r=>r
 | _,_,_+1,.nil => .nil
 | _,_,n+1,.cons _ t=>IsAll.drop n t
end
def SameB(M:Addr->Prop)(H H':Hp):Prop:=∀ a o,H a=some o->¬ M a->H' a=some o
theorem SameB.refl(M:Addr->Prop)(H:Hp):SameB M H H:=λ_ _ h _=>h
theorem SameB.trans{M:Addr->Prop}{H H1 H2:Hp}(a:SameB M H H1)(b:SameB M H1 H2):SameB M H H2:=λc o h n=>b c o (a c o h n) n
theorem SameB.of{M:Addr->Prop}{H H':Hp}(s:Same H H'):SameB M H H':=λa o h _=>s a o h
theorem SameB.free{M:Addr->Prop}{H H':Hp}(e:SameB M H H'){l:Addr}(hm:¬ M l)(h:H' l=j5):H l=j5:=by
 cases q:H l with
 | none=>rfl
 | some o=>rw[e l o q hm] at h;cases h
def TupStay(H H':Hp):Prop:=∀ a u,(∃ xs,u=HO.tup xs\/∃ o,u=HO.frz o (.tup xs))->H a=some u->H' a=some u
theorem SqT.stay{K:Qa}{H H':Hp}{a:Addr}{xs:List V}(e:TupStay H H')(h:SqT K H a xs):SqT K H' a xs:=by
 rcases h with (h|⟨o,h⟩)|h
 ·exact .inl (.inl (e _ _ ⟨xs,.inl rfl⟩ h))
 ·exact .inl (.inr ⟨o,e _ _ ⟨xs,.inr ⟨o,rfl⟩⟩ h⟩)
 ·exact .inr h
structure Ob where
 M:Addr->Prop
 P:Hp->Prop
 v:V
structure Ob.Ok (O:Ob):Prop where
 loc:∀ H H',(∀ a,O.M a->H' a=H a)->O.P H->O.P H'
 mutb:∀ H a o,O.P H->H a=some o->O.M a->(∀ xs,o ≠ .tup xs)/\∀ q u,o ≠ .frz q u
 here:∀ H a,O.P H->O.M a->∃ o,H a=some o
theorem Ob.Ok.grow{O:Ob}(ok:O.Ok)(H H':Hp)(s:Same H H')(p:O.P H):O.P H':=ok.loc H H' (λa m=>by
 obtain⟨o,e⟩:=ok.here H a p m
 rw[e,s a o e]) p
def Ob.plus(O:Ob)(D:Addr)(u:HO):Ob:=⟨λa=>O.M a\/a=D,λH=>O.P H/\H D=some u,O.v⟩
theorem Ob.Ok.plus{O:Ob}(ok:O.Ok)(D:Addr)(xs:List V):(O.plus D (.lst xs)).Ok :=
 ⟨λH H' e p=>⟨ok.loc H H' (λa m=>e a (.inl m)) p.1,(e D (.inr rfl)).trans p.2⟩,
  λH a o p e m=>by
   rcases m with m|rfl
   ·exact ok.mutb H a o p.1 e m
   ·rw[p.2] at e;cases e;exact⟨λ_ h=>(by cases h),λ_ _ h=>(by cases h)⟩,
  λH a p m=>by
   rcases m with m|rfl
   ·exact ok.here H a p.1 m
   ·exact⟨_,p.2⟩⟩
structure Stp (O:Ob) (H H':Hp):Prop where
 s:SameB O.M H H'
 p:O.P H->O.P H'
 t:TupStay H H'
theorem Stp.refl(O:Ob)(H:Hp):Stp O H H:=⟨.refl _ _,λh=>h,λ_ _ _ h=>h⟩
theorem Stp.trans{O:Ob}{H H1 H2:Hp}(a:Stp O H H1)(b:Stp O H1 H2):Stp O H H2:=⟨a.s.trans b.s,λh=>b.p (a.p h),λc u hu h=>b.t c u hu (a.t c u hu h)⟩
theorem Stp.same{O:Ob}(ok:O.Ok){H H':Hp}(s:Same H H'):Stp O H H':=⟨.of s,ok.grow H H' s,λa u _ h=>s a u h⟩
theorem same_new{H:Hp}{p:Addr}(h:H p=none)(o:HO):Same H (upd H p o):=λb u q=>by rw[zaf (zct q h)];exact q
theorem Stp.new{O:Ob}(ok:O.Ok){H:Hp}{p:Addr}(h:H p=none)(o:HO):Stp O H (upd H p o) := .same ok (same_new h o)
section
variable {K : Qa} {O : Ob} {F F' : Addr → Prop} {H H' : Hp} {v : V} {d : PyData}
theorem Is.stp(s:Stp O H H')(hF:∀ a,F a->F' a)(hM:∀ a,F a->¬ O.M a)(h:Is K F H v d):Is K F' H' v d :=
 h.to (λa xs f q=>⟨hF a f,s.s a _ q (hM a f)⟩) λa xs q=>SqT.stay (h:=q) s.t
theorem IsAll.stp{vs:List V}{ds:List PyData}(s:Stp O H H')(hF:∀ a,F a->F' a)(hM:∀ a,F a->¬ O.M a)(h:IsAll K F H vs ds):IsAll K F' H' vs ds :=
 h.to (λa xs f q=>⟨hF a f,s.s a _ q (hM a f)⟩) λa xs q=>SqT.stay (h:=q) s.t
theorem Is.weak(h:Is K F H v d)(hF:∀ a,F a->F' a):Is K F' H v d:=h.to (λa xs f q=>⟨hF a f,q⟩) λa xs q=>q
theorem IsAll.weak{vs:List V}{ds:List PyData}(h:IsAll K F H vs ds)(hF:∀ a,F a->F' a):IsAll K F' H vs ds:=h.to (λa xs f q=>⟨hF a f,q⟩) λa xs q=>q
end
mutual
def flat:PyData->Bool
 | .none=>true
 | .bool _=>true
 | .int _=>true
 | .str _=>true
 | .tuple ds=>flats ds
 | _=>false
def flats:List PyData->Bool
 | []=>true
 | d::ds=>flat d && flats ds
end
mutual
theorem Is.flat{K:Qa}{F F':Addr->Prop}{H H':Hp}(t:TupStay H H'):∀ {v d},Is K F H v d->L3.flat d=true->Is K F' H' v d
 | _,_,.none,_ => .none
 | _,_,.bool b,_ => .bool b
 | _,_,.int i,_ => .int i
 | _,_,.str x,_ => .str x
 | _,_,.list _ _ _,h=>by simp[L3.flat] at h
 | _,_,.tuple q r,h => .tuple (SqT.stay t q) (IsAll.flats t r (by simpa[L3.flat] using h))
theorem IsAll.flats{K:Qa}{F F':Addr->Prop}{H H':Hp}(t:TupStay H H'):∀ {vs ds},IsAll K F H vs ds->L3.flats ds=true->IsAll K F' H' vs ds
 | _,_,.nil,_ => .nil
 | _,_,.cons r s,h=>by
   rw[L3.flats,Qv] at h
   exact .cons (Is.flat t r h.1) (IsAll.flats t s h.2)
end
theorem TupStay.refl(H:Hp):TupStay H H:=λ_ _ _ h=>h
section
variable {X : Cx} {pins : List (Addr × Obj)} {σ : St} {H : Hp} {s : Shared} {F : Addr → Prop}
mutual
theorem Is.reads(I:Inv X pins σ H s):∀ {v d} {u:Value},Is X.K F H v d->RelV v u->∃ as,Reads s.heap u d as
 | _,_,_,.none,r=>by cases r;exact⟨_,.none⟩
 | _,_,_,.bool b,r=>by cases r;exact⟨_,.bool b⟩
 | _,_,_,.int i,r=>by obtain⟨t,rfl⟩:=r;exact⟨_,.int i t⟩
 | _,_,_,.str x,r=>by obtain⟨t,rfl⟩:=r;exact⟨_,.str x t⟩
 | _,_,_,.list f q rs,r=>by
   cases r
   obtain⟨its,rv,⟨o,n,e,c,_,dt⟩,_⟩:=I.list (.of q)
   obtain⟨as,ra⟩:=IsAll.reads I rs rv
   exact⟨_,.list e c dt (by simpa using ra)⟩
 | _,_,_,.tuple q rs,r=>by
   cases r
   obtain⟨its,rv,⟨o,e,c,n,dt⟩,_⟩:=I.tuple q
   obtain⟨as,ra⟩:=IsAll.reads I rs rv
   exact⟨_,.tuple e c dt (by simpa using ra)⟩
theorem IsAll.reads(I:Inv X pins σ H s):∀ {vs ds} {us:List Value},IsAll X.K F H vs ds->Vals vs us->∃ as,ReadsAll s.heap us ds as
 | _,_,_,.nil,r=>by cases r;exact⟨_,.nil⟩
 | _,_,_,.cons h t,r=>by
   cases r with
   | cons r1 r2 =>
     obtain⟨as,ra⟩:=Is.reads I h r1
     obtain⟨bs,rb⟩:=IsAll.reads I t r2
     exact⟨_,.cons ra rb⟩
end
end
def IsS(K:Qa)(F:Addr->Prop)(H:Hp)(v:V)(n:Nat):Prop:=∃ a xs,v = .ref a/\xs.length=n/\((F a/\Rd H a (.lst xs))\/∀ H',SqL K H' a xs)
theorem IsS.to{K:Qa}{F F':Addr->Prop}{H H':Hp}{v:V}{n:Nat}(hL:∀ a u,F a->H a=some u->F' a/\H' a=some u)(h:IsS K F H v n):IsS K F' H' v n:=by
 obtain⟨a,xs,e,l,⟨f,q|⟨o,q⟩⟩|q⟩:=h
 ·exact⟨a,xs,e,l,.inl ⟨(hL a _ f q).1,.inl (hL a _ f q).2⟩⟩
 ·exact⟨a,xs,e,l,.inl ⟨(hL a _ f q).1,.inr ⟨o,(hL a _ f q).2⟩⟩⟩
 ·exact⟨a,xs,e,l,.inr q⟩
def DkAt(H:Hp)(v:V)(a:Addr)(ks:List Str):Prop:=v = .ref a/\∃ kvs,H a=some (.dK kvs)/\kvs.map (·.1)=ks.map jm
theorem DkAt.to{H H':Hp}{v:V}{a:Addr}{ks:List Str}(h:DkAt H v a ks)(e:∀ u,H a=some u->H' a=some u):DkAt H' v a ks:=let ⟨h1,kvs,h2,h3⟩:=h; ⟨h1,kvs,e _ h2,h3⟩
inductive R where
 | o (d:PyData)
 | n (ds:List PyData)
def R.d:R->PyData
 | .o d=>d
 | .n ds => .list ds
structure Thg where
 R:Qa->(Addr->Prop)->(Addr->Prop)->Hp->V->Prop
 to:∀ {K:Qa} {F F' W W':Addr->Prop} {H H':Hp} {v:V},(∀ a u,F a->H a=some u->F' a/\H' a=some u)->(∀ a u,W a->H a=some u->W' a/\H' a=some u)->TupStay H H'->R K F W H v->R K F' W' H' v
inductive DV where
 | im (d:PyData)
 | own (ds:List PyData)
 | ob
 | scr (n:Nat)
 | dct (ks:List Str)
   | gen (f:Addr->List V->HO) (ds:List PyData)
   | rd (f:Addr->List V->HO) (ds:List PyData)
   | exc (C:Addr) (ns:List Str) (ds:List PyData)
   | thg (T:Thg)
   | thr (T:Thg)
abbrev DSt:=List (Option DV)
abbrev DE:=DSt->(R->Prop)->Prop
abbrev DT:=DSt->(Bool->Prop)->Prop
abbrev DA:=DSt->(List PyData->Prop)->Prop
def unM(O:Ob):Addr->Prop:=λa=>¬ O.M a
def ExAt(F:Addr->Prop)(H:Hp)(v:V)(C:Addr)(ns:List Str)(xs:List V):Prop:=∃ a dx,v = .ref a/\F a/\F dx/\H a=some (XR a C dx)/\H dx=some (.xd (ns.zip xs))/\xs.length=ns.length
theorem ExAt.to{F F':Addr->Prop}{H H':Hp}{v:V}{C:Addr}{ns:List Str}{xs:List V}(hL:∀ a u,F a->H a=some u->F' a/\H' a=some u)(h:ExAt F H v C ns xs):ExAt F' H' v C ns xs:=by
 obtain⟨a,dx,e,f1,f2,q1,q2,l⟩:=h
 exact⟨a,dx,e,(hL a _ f1 q1).1,(hL dx _ f2 q2).1,(hL a _ f1 q1).2,(hL dx _ f2 q2).2,l⟩
def SeenV(K:Qa)(O:Ob)(H:Hp)(v:V):DV->Prop
 | .im d=>Is K (unM O) H v d
 | .own ds=>Is K (unM O) H v (.list ds)
 | .ob=>v=O.v
 | .scr n=>IsS K (unM O) H v n
 | .dct ks=>∃ a,¬ O.M a/\DkAt H v a ks
 | .gen f ds=>∃ a xs,v = .ref a/\¬ O.M a/\H a=some (f a xs)/\IsAll K (unM O) H xs ds
 | .rd f ds=>∃ a xs,v = .ref a/\¬ O.M a/\H a=some (f a xs)/\IsAll K (unM O) H xs ds
 | .exc C ns ds=>∃ xs,ExAt (unM O) H v C ns xs/\IsAll K (unM O) H xs ds
 | .thg T=>∃ W:Addr->Prop,(∀ a,W a->¬ O.M a/\∃ o,H a=some o)/\T.R K (unM O) W H v
 | .thr T=>∃ W:Addr->Prop,(∀ a,W a->¬ O.M a/\∃ o,H a=some o)/\T.R K (unM O) W H v
structure Seen (K:Qa) (O:Ob) (H:Hp) (σ:St) (ρ:DSt):Prop where
 ok:O.Ok
 p:O.P H
 at_:∀ (i:Nat) r,ρ[i]? = some (some r)->∃ v,σ[i]? = some (some v)/\SeenV K O H v r
 len:ρ.length=σ.length
theorem SeenV.stp{K:Qa}{O:Ob}{H H':Hp}{v:V}{r:DV}(s:Stp O H H')(h:SeenV K O H v r):SeenV K O H' v r:=by
 cases r with
 | im d=>exact Is.stp s (λ_ f=>f) (λ_ f=>f) h
 | own ds=>exact Is.stp s (λ_ f=>f) (λ_ f=>f) h
 | ob=>exact h
 | scr n=>exact IsS.to (λa u f q=>⟨f,s.s a u q f⟩) h
 | dct ks=>obtain⟨a,n,h⟩:=h;exact⟨a,n,h.to λu q=>s.s a u q n⟩
 | gen f ds=>obtain⟨a,xs,e,n,q,z⟩:=h;exact⟨a,xs,e,n,s.s a _ q n,IsAll.stp s (λ_ f=>f) (λ_ f=>f) z⟩
 | rd f ds=>obtain⟨a,xs,e,n,q,z⟩:=h;exact⟨a,xs,e,n,s.s a _ q n,IsAll.stp s (λ_ f=>f) (λ_ f=>f) z⟩
 | exc C ns ds=>obtain⟨xs,e,z⟩:=h;exact⟨xs,e.to λa u f q=>⟨f,s.s a u q f⟩,IsAll.stp s (λ_ f=>f) (λ_ f=>f) z⟩
 | thg T=>obtain⟨W,hw,z⟩:=h;exact⟨W,λa w=>⟨(hw a w).1,let ⟨o,e⟩:=(hw a w).2; ⟨o,s.s a o e (hw a w).1⟩⟩,T.to (λa u f q=>⟨f,s.s a u q f⟩) (λa u w q=>⟨w,s.s a u q (hw a w).1⟩) s.t z⟩
 | thr T=>obtain⟨W,hw,z⟩:=h;exact⟨W,λa w=>⟨(hw a w).1,let ⟨o,e⟩:=(hw a w).2; ⟨o,s.s a o e (hw a w).1⟩⟩,T.to (λa u f q=>⟨f,s.s a u q f⟩) (λa u w q=>⟨w,s.s a u q (hw a w).1⟩) s.t z⟩
theorem Seen.stp{K:Qa}{O:Ob}{H H':Hp}{σ:St}{ρ:DSt}(S:Seen K O H σ ρ)(s:Stp O H H'):Seen K O H' σ ρ :=
 ⟨S.ok,s.p S.p,λi r e=>let ⟨v,h1,h2⟩:=S.at_ i r e; ⟨v,h1,h2.stp s⟩,S.len⟩
def Out(K:Qa)(O:Ob)(H H':Hp)(v:V):R->Prop
 | .o d=>Is K (unM O) H' v d
 | .n ds=>∃ a xs,v = .ref a/\H a=none/\H' a=some (.lst xs)/\IsAll K (unM O) H' xs ds
theorem Out.is{K:Qa}{O:Ob}{H H':Hp}{v:V}{r:R}(ok:O.Ok)(p:O.P H)(h:Out K O H H' v r):Is K (unM O) H' v r.d:=by
 cases r with
 | o d=>exact h
 | n ds =>
   obtain⟨a,xs,rfl,hn,e,q⟩:=h
   exact .list (λm=>by obtain⟨o,z⟩:=ok.here H a p m;rw[hn] at z;cases z) e q
def ED(K:Qa)(O:Ob)(t:TE)(f:DE):Prop :=
 ∀ (σ:St) (H:Hp) (ρ:DSt) (Q:VK) (Qd:R->Prop),Seen K O H σ ρ->f ρ Qd->(∀ v H' r,Stp O H H'->Out K O H H' v r->Qd r->Q v H')->t σ H Q
def TD(K:Qa)(O:Ob)(t:TT)(f:DT):Prop :=
 ∀ (σ:St) (H:Hp) (ρ:DSt) (Q:Bool->Hp->Prop) (Qd:Bool->Prop),Seen K O H σ ρ->f ρ Qd->(∀ b H',Stp O H H'->Qd b->Q b H')->t σ H Q
def AD(K:Qa)(O:Ob)(t:TA)(f:DA):Prop :=
 ∀ (σ:St) (H:Hp) (ρ:DSt) (Q:List V->Hp->Prop) (Qd:List PyData->Prop),Seen K O H σ ρ->f ρ Qd->(∀ vs H' ds,Stp O H H'->IsAll K (unM O) H' vs ds->Qd ds->Q vs H')->t σ H Q
section
variable {K : Qa} {O : Ob}
def cD(d:PyData):DE:=λ_ Q=>Q (.o d)
theorem z4b{i:Int}:ED K O (tC (.int i)) (cD (.int i)):=λσ H ρ Q Qd S h k=>k _ H (.o (.int i)) (.refl _ _) (Is.int i) h
theorem z3p{x:Str}:ED K O (tC (.str x)) (cD (.str x)):=λσ H ρ Q Qd S h k=>k _ H (.o (.str x)) (.refl _ _) (Is.str x) h
theorem z4j{b:Bool}:ED K O (tC (.bl b)) (cD (.bool b)):=λσ H ρ Q Qd S h k=>k _ H (.o (.bool b)) (.refl _ _) (Is.bool b) h
theorem z1h:ED K O (tC .non) (cD .none):=λσ H ρ Q Qd S h k=>k _ H (.o .none) (.refl _ _) Is.none h
def seeR:DV->Option PyData
 | .im d=>some d
 | .own ds=>some (.list ds)
 | .ob=>none
 | .scr _=>none
 | .dct _=>none
 | .gen _ _=>none
 | .rd _ _=>none
 | .exc _ _ _=>none
 | .thg _=>none
 | .thr _=>none
def vD(i:Nat):DE:=λρ Q=>∃ r d,ρ[i]? = some (some r)/\seeR r=some d/\Q (.o d)
theorem z2j{i:Nat}:ED K O (tVar i) (vD i):=λσ H ρ Q Qd S h k=>by
 obtain⟨r,d,e,e2,h⟩:=h
 obtain⟨v,hv,sv⟩:=S.at_ i r e
 refine⟨v,hv,k _ H _ (.refl _ _) ?_ h⟩
 cases r with
 | im d'=>cases e2;exact sv
 | own ds=>cases e2;exact sv
 | ob=>cases e2
 | scr n=>cases e2
 | dct ks=>cases e2
 | gen f ds=>cases e2
 | rd f ds=>cases e2
 | exc C ns ds=>cases e2
 | thg T=>cases e2
 | thr T=>cases e2
def OpD(K:Qa)(O:Ob)(r:R2)(f:PyData->PyData->(R->Prop)->Prop):Prop :=
 ∀ (H:Hp) (x y:V) (d e:PyData) (Q:VK) (Qd:R->Prop),O.Ok->O.P H->Is K (unM O) H x d->Is K (unM O) H y e->f d e Qd->(∀ v H' r,Stp O H H'->Out K O H H' v r->Qd r->Q v H')->r x y H Q
theorem Out.ahead{H H1 H2:Hp}{v:V}{r:R}(ok:O.Ok)(p:O.P H)(s1:Stp O H H1)(h:Out K O H1 H2 v r):Out K O H H2 v r:=by
 cases r with
 | o d=>exact h
 | n ds =>
   obtain⟨a,xs,rfl,hn,e,q⟩:=h
   have m:¬ O.M a:=λm=>by obtain⟨o,z⟩:=ok.here H1 a (s1.p p) m;rw[hn] at z;cases z
   exact⟨a,xs,rfl,s1.s.free m hn,e,q⟩
def opDE(f:PyData->PyData->(R->Prop)->Prop)(fa fb:DE):DE:=λρ Q=>fa ρ λa=>fb ρ λb=>f a.d b.d Q
theorem zlp{r:R2}{ta tb:TE}{f:PyData->PyData->(R->Prop)->Prop}{fa fb:DE}(hr:OpD K O r f)(ha:ED K O ta fa)(hb:ED K O tb fb):ED K O (tOp r ta tb) (opDE f fa fb):=λσ H ρ Q Qd S h k=>by
 refine ha σ H ρ _ _ S h λv H1 a s1 o1 h1=>?_
 refine hb σ H1 ρ _ _ (S.stp s1) h1 λw H2 b s2 o2 h2=>?_
 have p1:=s1.p S.p
 refine hr H2 v w a.d b.d _ _ S.ok (s2.p p1) (Is.stp s2 (λ_ f=>f) (λ_ f=>f) (o1.is S.ok S.p)) (o2.is S.ok p1) h2 λz H3 c s3 o3 h3=>?_
 exact k z H3 c ((s1.trans s2).trans s3) (Out.ahead S.ok S.p (s1.trans s2) o3) h3
def fn2(F:PyData->PyData->Option R):PyData->PyData->(R->Prop)->Prop:=λa b Q=>∃ r,F a b=some r/\Q r
def bD(f:DE):DT:=λρ Q=>f ρ λr=>∃ b,r.d = .bool b/\Q b
theorem zs5{t:TE}{f:DE}(h:ED K O t f):TD K O (zhz t) (bD f):=λσ H ρ Q Qd S hf k=>by
 refine h σ H ρ _ _ S hf λv H1 r s1 o1 ⟨b,e,q⟩=>?_
 have i:=o1.is S.ok S.p
 rw[e] at i
 cases i
 exact⟨b,rfl,k b H1 s1 q⟩
theorem zyr{t:TE}{f:DE}(h:ED K O t f):TD K O (tB t) (bD f):=λσ H ρ Q Qd S hf k=>by
 refine h σ H ρ _ _ S hf λv H1 r s1 o1 ⟨b,e,q⟩=>?_
 have i:=o1.is S.ok S.p
 rw[e] at i
 cases i
 exact⟨b,rfl,k b H1 s1 q⟩
def andT(f g:DT):DT:=λρ Q=>f ρ λb=>if b=true then g ρ Q else Q false
def orT(f g:DT):DT:=λρ Q=>f ρ λb=>if b=true then Q true else g ρ Q
def notT(f:DT):DT:=λρ Q=>f ρ λb=>Q (!b)
theorem z1j{t u:TT}{f g:DT}(h:TD K O t f)(h':TD K O u g):TD K O (tAnd t u) (andT f g):=λσ H ρ Q Qd S hf k=>by
 refine h σ H ρ _ _ S hf λb H1 s1 q=>?_
 cases b with
 | true=>exact h' σ H1 ρ _ _ (S.stp s1) q λc H2 s2 q2=>k c H2 (s1.trans s2) q2
 | false=>exact k false H1 s1 q
theorem z4u{t u:TT}{f g:DT}(h:TD K O t f)(h':TD K O u g):TD K O (tOr t u) (orT f g):=λσ H ρ Q Qd S hf k=>by
 refine h σ H ρ _ _ S hf λb H1 s1 q=>?_
 cases b with
 | false=>exact h' σ H1 ρ _ _ (S.stp s1) q λc H2 s2 q2=>k c H2 (s1.trans s2) q2
 | true=>exact k true H1 s1 q
theorem z3m{t:TT}{f:DT}(h:TD K O t f):TD K O (tNot t) (notT f):=λσ H ρ Q Qd S hf k=>h σ H ρ _ _ S hf λb H1 s1 q=>k (!b) H1 s1 q
def andV(f g:DE):DE:=λρ Q=>f ρ λr=>∃ b,r.d = .bool b/\if b=true then g ρ Q else Q (.o (.bool false))
def orV(f g:DE):DE:=λρ Q=>f ρ λr=>∃ b,r.d = .bool b/\if b=true then Q (.o (.bool true)) else g ρ Q
def notV(f:DE):DE:=λρ Q=>f ρ λr=>∃ b,r.d = .bool b/\Q (.o (.bool (!b)))
theorem zxn{t u:TE}{f g:DE}(h:ED K O t f)(h':ED K O u g):ED K O (zww t u) (andV f g):=λσ H ρ Q Qd S hf k=>by
 refine h σ H ρ _ _ S hf λv H1 r s1 o1 ⟨b,e,q⟩=>?_
 have i:=o1.is S.ok S.p
 rw[e] at i
 cases i
 refine⟨b,rfl,?_⟩
 cases b with
 | true=>exact h' σ H1 ρ _ _ (S.stp s1) q λc H2 r s2 o2 q2=>k c H2 r (s1.trans s2) (o2.ahead S.ok S.p s1) q2
 | false=>exact k (.bl false) H1 (.o (.bool false)) s1 (.bool false) q
theorem z1k{t u:TE}{f g:DE}(h:ED K O t f)(h':ED K O u g):ED K O (tOrV t u) (orV f g):=λσ H ρ Q Qd S hf k=>by
 refine h σ H ρ _ _ S hf λv H1 r s1 o1 ⟨b,e,q⟩=>?_
 have i:=o1.is S.ok S.p
 rw[e] at i
 cases i
 refine⟨b,rfl,?_⟩
 cases b with
 | false=>exact h' σ H1 ρ _ _ (S.stp s1) q λc H2 r s2 o2 q2=>k c H2 r (s1.trans s2) (o2.ahead S.ok S.p s1) q2
 | true=>exact k (.bl true) H1 (.o (.bool true)) s1 (.bool true) q
theorem zyq{t:TE}{f:DE}(h:ED K O t f):ED K O (zwo t) (notV f):=λσ H ρ Q Qd S hf k=>by
 refine h σ H ρ _ _ S hf λv H1 r s1 o1 ⟨b,e,q⟩=>?_
 have i:=o1.is S.ok S.p
 rw[e] at i
 cases i
 exact⟨b,rfl,k _ H1 (.o (.bool (!b))) s1 (.bool _) q⟩
def ifD(c:DT)(f g:DE):DE:=λρ Q=>c ρ λb=>if b=true then f ρ Q else g ρ Q
theorem z4y{c:TT}{t u:TE}{fc:DT}{f g:DE}(hc:TD K O c fc)(h:ED K O t f)(h':ED K O u g):ED K O (tIf c t u) (ifD fc f g):=λσ H ρ Q Qd S hf k=>by
 refine hc σ H ρ _ _ S hf λb H1 s1 q=>?_
 cases b with
 | true=>exact h σ H1 ρ _ _ (S.stp s1) q λv H2 r s2 o2 q2=>k v H2 r (s1.trans s2) (o2.ahead S.ok S.p s1) q2
 | false=>exact h' σ H1 ρ _ _ (S.stp s1) q λv H2 r s2 o2 q2=>k v H2 r (s1.trans s2) (o2.ahead S.ok S.p s1) q2
def aNil:DA:=λ_ Q=>Q []
def ze6(f:DE)(g:DA):DA:=λρ Q=>f ρ λr=>g ρ λds=>Q (r.d::ds)
theorem z2s:AD K O tNil aNil:=λσ H ρ Q Qd S h k=>k [] H [] (.refl _ _) .nil h
theorem zxq{t:TE}{u:TA}{f:DE}{g:DA}(h:ED K O t f)(h':AD K O u g):AD K O (zbu t u) (ze6 f g):=λσ H ρ Q Qd S hf k=>by
 refine h σ H ρ _ _ S hf λv H1 r s1 o1 q=>?_
 refine h' σ H1 ρ _ _ (S.stp s1) q λvs H2 ds s2 o2 q2=>?_
 exact k (v::vs) H2 (r.d::ds) (s1.trans s2) (.cons (Is.stp s2 (λ_ f=>f) (λ_ f=>f) (o1.is S.ok S.p)) o2) q2
def tupD(g:DA):DE:=λρ Q=>g ρ λds=>ds.length<=sizeLine/\Q (.o (.tuple ds))
def lstD(g:DA):DE:=λρ Q=>g ρ λds=>ds.length<=sizeLine/\Q (.n ds)
theorem z2o{u:TA}{g:DA}(h:AD K O u g):ED K O (tTup u) (tupD g):=λσ H ρ Q Qd S hf k=>by
 refine h σ H ρ _ _ S hf λvs H1 ds s1 o1 ⟨z,q⟩=>⟨by rw[o1.length];exact z,λp hp=>?_⟩
 have s2:Stp O H1 (upd H1 p (.tup vs)) := .new S.ok hp _
 exact k _ _ (.o (.tuple ds)) (s1.trans s2) (.tuple (.of zar) (o1.stp s2 (λ_ f=>f) (λ_ f=>f))) q
theorem z0y{u:TA}{g:DA}(h:AD K O u g):ED K O (tLst u) (lstD g):=λσ H ρ Q Qd S hf k=>by
 refine h σ H ρ _ _ S hf λvs H1 ds s1 o1 ⟨z,q⟩=>⟨by rw[o1.length];exact z,λp hp=>?_⟩
 have s2:Stp O H1 (upd H1 p (.lst vs)) := .new S.ok hp _
 have m:¬ O.M p:=λm=>by obtain⟨o,z⟩:=S.ok.here H1 p (s1.p S.p) m;rw[hp] at z;cases z
 exact k _ _ (.n ds) (s1.trans s2) ⟨p,vs,rfl,s1.s.free m hp,zar,o1.stp s2 (λ_ f=>f) (λ_ f=>f)⟩ q
def zed(K:Qa)(O:Ob)(r:List V->Hp->VK->Prop)(f:List PyData->(R->Prop)->Prop):Prop :=
 ∀ (H:Hp) (vs:List V) (ds:List PyData) (Q:VK) (Qd:R->Prop),O.Ok->O.P H->IsAll K (unM O) H vs ds->f ds Qd->(∀ v H' r,Stp O H H'->Out K O H H' v r->Qd r->Q v H')->r vs H Q
def zcb(f:List PyData->(R->Prop)->Prop)(g:DA):DE:=λρ Q=>g ρ λds=>f ds Q
theorem zns{r:List V->Hp->VK->Prop}{u:TA}{f:List PyData->(R->Prop)->Prop}{g:DA}(hr:zed K O r f)(h:AD K O u g):ED K O (tCB r u) (zcb f g):=λσ H ρ Q Qd S hf k=>by
 refine h σ H ρ _ _ S hf λvs H1 ds s1 o1 q=>?_
 exact hr H1 vs ds _ _ S.ok (s1.p S.p) o1 q λv H2 r s2 o2 q2=>k v H2 r (s1.trans s2) (o2.ahead S.ok S.p s1) q2
def fn1(F:List PyData->Option R):List PyData->(R->Prop)->Prop:=λds Q=>∃ r,F ds=some r/\Q r
end
abbrev DG:=PyData->DSt->(DSt->Prop)->Prop
def gN(i:Nat):DG:=λd ρ Q=>Q (ρ.set i (some (.im d)))
def gTD:List Nat->List PyData->DSt->(DSt->Prop)->Prop
 | [],[],ρ,Q=>Q ρ
 | i::is,d::ds,ρ,Q=>gTD is ds (ρ.set i (some (.im d))) Q
 | _,_,_,_=>False
def gT(is:List Nat):DG:=λd ρ Q=>∃ ds,d = .tuple ds/\gTD is ds ρ Q
def GS(K:Qa)(O:Ob)(t:TG)(g:DG):Prop :=
 ∀ (σ:St) (H:Hp) (ρ:DSt) (v:V) (d:PyData) (Q:St->Hp->Prop) (Qd:DSt->Prop),Seen K O H σ ρ->Is K (unM O) H v d->g d ρ Qd->(∀ σ' ρ',Seen K O H σ' ρ'->Qd ρ'->Q σ' H)->t v σ H Q
section
variable {K : Qa} {O : Ob}
theorem Seen.set{H:Hp}{σ:St}{ρ:DSt}{i:Nat}{v:V}{r:DV}(S:Seen K O H σ ρ)(h:SeenV K O H v r):Seen K O H (σ.set i (some v)) (ρ.set i (some r)):=by
 have hl:=S.len
 refine⟨S.ok,S.p,λj r' e=>?_,by rw[QX,QX];exact S.len⟩
 by_cases hj:i=j
 ·subst hj
  have hi:i<ρ.length:=by
   rcases Y8 i ρ.length with z|z
   ·exact z
   ·rw[Zs (by simpa using z)] at e;cases e
  rw[QI hi] at e
  cases e
  exact⟨v,QI (by omega),h⟩
 ·rw[QF hj] at e
  obtain⟨w,h1,h2⟩:=S.at_ j r' e
  exact⟨w,by rw[QF hj];exact h1,h2⟩
theorem zxx{i:Nat}:GS K O (zbi i) (gN i):=λσ H ρ v d Q Qd S i h k=>k _ _ (S.set (r := .im d) i) h
def GSs(K:Qa)(O:Ob)(t:TGs)(is:List Nat):Prop :=
 ∀ (σ:St) (H:Hp) (ρ:DSt) (vs:List V) (ds:List PyData) (Q:St->Hp->Prop) (Qd:DSt->Prop),Seen K O H σ ρ->IsAll K (unM O) H vs ds->gTD is ds ρ Qd->(∀ σ' ρ',Seen K O H σ' ρ'->Qd ρ'->Q σ' H)->t vs σ H Q
theorem zyw:GSs K O gNil []:=λσ H ρ vs ds Q Qd S i h k=>by
 cases i with
 | nil=>exact⟨rfl,k σ ρ S h⟩
 | cons _ _=>exact h.elim
theorem zvo{i:Nat}{is:List Nat}{t:TGs}(ht:GSs K O t is):GSs K O (zju (zbi i) t) (i::is):=λσ H ρ vs ds Q Qd S h q k=>by
 cases h with
 | nil=>exact q.elim
 | cons h1 h2=>exact⟨_,_,rfl,ht _ H _ _ _ _ _ (S.set (r := .im _) h1) h2 q k⟩
theorem zhr:∀ {is:List Nat} {ds:List PyData} {ρ:DSt} {Q:DSt->Prop},gTD is ds ρ Q->ds.length=is.length
 | [],[],_,_,_=>rfl
 | [],_::_,_,_,h=>h.elim
 | _::_,[],_,_,h=>h.elim
 | _::is,_::ds,ρ,Q,h=>by
   have e:=zhr (is:=is) (ds:=ds) (Q:=Q) h
   rw[Qm,Qm,e]
theorem z2k{is:List Nat}{t:TGs}{n:Nat}(hn:is.length=n)(ht:GSs K O t is):GS K O (gTup K n t) (gT is):=λσ H ρ v d Q Qd S i h k=>by
 obtain⟨ds,rfl,h⟩:=h
 cases i with
 | tuple q r=>exact⟨_,_,rfl,q,by rw[r.length,zhr h];exact hn,ht σ H ρ _ ds Q Qd S r h k⟩
structure Walk (K:Qa) (O:Ob) (H H1:Hp) (J:It) (ds:List PyData) (B:Addr->Prop):Prop where
 st:Stp O H H1
 hb:∀ a,B a->¬ O.M a/\∃ o,H1 a=some o
 stop:∀ H2 i,(∀ a o,B a->H1 a=some o->H2 a=some o)->TupStay H1 H2->ds.length<=i->J.stop i H2
 item:∀ H2 i d,(∀ a o,B a->H1 a=some o->H2 a=some o)->TupStay H1 H2->ds[i]? = some d->(flat d=true\/∀ a o,H1 a=some o->¬ O.M a->H2 a=some o) ->
  J.go i H2/\∀ x H3,J.yld i H2 x H3->Same H2 H3/\Is K (λa=>¬ O.M a/\(flat d=true\/∃ o,H1 a=some o)) H3 x d
abbrev DI:=DSt->(Bool->List PyData->Prop)->Prop
def SrcS(K:Qa)(O:Ob)(wi:TI)(f:DI):Prop :=
 ∀ (σ:St) (H:Hp) (ρ:DSt) (R:It->Hp->Prop) (Qd:Bool->List PyData->Prop),Seen K O H σ ρ->f ρ Qd ->
   (∀ (J:It) (H1:Hp) (ds:List PyData) (B:Addr->Prop) (fr:Bool),Walk K O H H1 J ds B->(fr=true->∀ a,B a->H a=none)->Qd fr ds->R J H1)->wi σ H R
end
def za3(h:Nat)(g:DG)(ft:DT)(fe:DE)(ρ:DSt)(Q:List PyData->Prop):List PyData->List PyData->Prop
 | [],acc=>Q acc
 | d::ds,acc=>g d (Qf h none++ρ) λρ2=>ft ρ2 λb=>if b=true then fe ρ2 λr=>acc.length<sizeLine/\za3 h g ft fe ρ Q ds (acc ++ [r.d]) else za3 h g ft fe ρ Q ds acc
def zps(h:Nat)(f:DI)(g:DG)(ft:DT)(fe:DE):DE:=λρ Q=>f ρ λ_ ds=>za3 h g ft fe ρ (λes=>Q (.n es)) ds []
section
variable {K : Qa} {O : Ob}
theorem zui{H:Hp}{σ:St}{ρ:DSt}(S:Seen K O H σ ρ)(h:Nat):Seen K O H (Qf h none++σ) (Qf h none++ρ):=by
 refine⟨S.ok,S.p,λi r e=>?_,by rw[Qg,Qg,QN,QN,S.len]⟩
 by_cases hi:i<h
 ·rw[QU (by simpa using hi),Z4,if_pos hi] at e
  cases e
 ·rw[Z6 (by simpa using jf hi),QN] at e
  obtain⟨v,h1,h2⟩:=S.at_ _ r e
  exact⟨v,by rw[Z6 (by simpa using jf hi),QN];exact h1,h2⟩
theorem ztp{H:Hp}{σ:St}{ρ:DSt}{D:Addr}{xs:List V}(S:Seen K O H σ ρ)(hD:H D=none):Seen K (O.plus D (.lst xs)) (upd H D (.lst xs)) σ ρ:=by
 have gr:Same H (upd H D (.lst xs)):=same_new hD _
 refine⟨S.ok.plus D xs,⟨S.ok.grow _ _ gr S.p,zar⟩,λi r e=>?_,S.len⟩
 obtain⟨v,h1,h2⟩:=S.at_ i r e
 have go:∀ d,Is K (unM O) H v d->Is K (unM (O.plus D (.lst xs))) (upd H D (.lst xs)) v d:=λd z =>
  z.to (λa ys f q=>⟨λm=>(by
   rcases m with m|rfl
   ·exact f m
   ·rw[hD] at q;cases q),gr _ _ q⟩) λa ys q=>SqT.stay (h:=q) λb u _ hb=>gr b u hb
 refine⟨v,h1,?_⟩
 cases r with
 | im d=>exact go d h2
 | own ds=>exact go _ h2
 | ob=>exact h2
 | scr n=>exact IsS.to (λa u f q=>⟨λm=>(by
  rcases m with m|rfl
  ·exact f m
  ·rw[hD] at q;cases q),gr _ _ q⟩) h2
 | dct ks =>
   obtain⟨a,n,h2⟩:=h2
   refine⟨a,λm=>?_,h2.to λu q=>gr _ _ q⟩
   rcases m with m|rfl
   ·exact n m
   ·obtain⟨_,kvs,q,_⟩:=h2
    rw[hD] at q
    cases q
 | gen f ds =>
   obtain⟨a,ys,e,n,q,z⟩:=h2
   refine⟨a,ys,e,λm=>?_,gr _ _ q,z.to (λa ys f q=>⟨λm=>(by
    rcases m with m|rfl
    ·exact f m
    ·rw[hD] at q;cases q),gr _ _ q⟩) λa ys q=>SqT.stay (h:=q) λb u _ hb=>gr b u hb⟩
   rcases m with m|rfl
   ·exact n m
   ·rw[hD] at q;cases q
 | rd f ds =>
   obtain⟨a,ys,e,n,q,z⟩:=h2
   refine⟨a,ys,e,λm=>?_,gr _ _ q,z.to (λa ys f q=>⟨λm=>(by
    rcases m with m|rfl
    ·exact f m
    ·rw[hD] at q;cases q),gr _ _ q⟩) λa ys q=>SqT.stay (h:=q) λb u _ hb=>gr b u hb⟩
   rcases m with m|rfl
   ·exact n m
   ·rw[hD] at q;cases q
 | exc C ns ds =>
   obtain⟨ys,e,z⟩:=h2
   have mv:∀ a u,unM O a->H a=some u->unM (O.plus D (.lst xs)) a/\upd H D (.lst xs) a=some u:=λa u f q=>⟨λm=>(by
    rcases m with m|rfl
    ·exact f m
    ·rw[hD] at q;cases q),gr _ _ q⟩
   exact⟨ys,e.to mv,z.to (λa ys f q=>mv a _ f q) λa ys q=>SqT.stay (h:=q) λb u _ hb=>gr b u hb⟩
 | thg T =>
   obtain⟨W,hw,z⟩:=h2
   exact⟨W,λa w=>⟨λm=>(by
    obtain⟨n,o,q⟩:=hw a w
    rcases m with m|rfl
    ·exact n m
    ·rw[hD] at q;cases q),let ⟨o,q⟩:=(hw a w).2; ⟨o,gr _ _ q⟩⟩,T.to (λa u f q=>⟨λm=>(by
    rcases m with m|rfl
    ·exact f m
    ·rw[hD] at q;cases q),gr _ _ q⟩) (λa u w q=>⟨w,gr _ _ q⟩) (λb u _ hb=>gr b u hb) z⟩
 | thr T =>
   obtain⟨W,hw,z⟩:=h2
   exact⟨W,λa w=>⟨λm=>(by
    obtain⟨n,o,q⟩:=hw a w
    rcases m with m|rfl
    ·exact n m
    ·rw[hD] at q;cases q),let ⟨o,q⟩:=(hw a w).2; ⟨o,gr _ _ q⟩⟩,T.to (λa u f q=>⟨λm=>(by
    rcases m with m|rfl
    ·exact f m
    ·rw[hD] at q;cases q),gr _ _ q⟩) (λa u w q=>⟨w,gr _ _ q⟩) (λb u _ hb=>gr b u hb) z⟩
theorem zpe{h:Nat}{wi:TI}{tg:TG}{tf:TT}{te:TE}{f:DI}{g:DG}{ft:DT}{fe:DE}(hs:SrcS K O wi f)(hg:∀ O':Ob,GS K O' tg g)
 (hf:∀ (D:Addr) (xs:List V),¬ O.M D->TD K (O.plus D (.lst xs)) tf ft) (he:∀ (D:Addr) (xs:List V),¬ O.M D->ED K (O.plus D (.lst xs)) te fe):ED K O (zpu h wi tg tf te) (zps h f g ft fe):=by
 intro σ H ρ Q Qd S hq k
 refine hs σ H ρ _ _ S hq λJ H1 ds B fr W _ hgo D hD=>?_
 have S1:=S.stp W.st
 have nM:¬ O.M D:=λm=>by obtain⟨o,z⟩:=S.ok.here H1 D S1.p m;rw[hD] at z;cases z
 have aD:∀ a o,H1 a=some o->a ≠ D:=λa o e z=>by rw[z,hD] at e;cases e
 refine⟨λi m ys H2=>m=ds.length - i/\i<=ds.length/\H2 D=some (.lst ys)/\(∀ a o,H1 a=some o->¬ O.M a->H2 a=some o)/\TupStay H1 H2/\Seen K (O.plus D (.lst ys)) H2 σ ρ /\
  ∃ acc,IsAll K (λa=>¬ (O.M a\/a=D)) H2 ys acc/\za3 h g ft fe ρ (λes=>Qd (.n es)) (ds.drop i) acc,⟨ds.length,rfl,QH _,zar,λa o e _=>by rw[zaf (aD a o e)];exact e,λa u _ e=>by rw[zaf (aD a u e)];exact e,ztp S1 hD,[],.nil,by simpa using hgo⟩,?_⟩
 rintro i m ys H2 ⟨rfl,hi,hDy,kp,tst,S2,acc,hacc,go⟩
 refine⟨hDy,?_⟩
 have kB:∀ a o,B a->H1 a=some o->H2 a=some o:=λa o b e=>kp a o e (W.hb a b).1
 by_cases hlt:i<ds.length
 ·right
  have hd:ds[i]? = some ds[i]:=Ql hlt
  rw[Zm hlt] at go
  obtain⟨hgo1,hy⟩:=W.item H2 i ds[i] kB tst hd (.inr kp)
  refine⟨hgo1,λx H3 y=>?_⟩
  obtain⟨sm,ix⟩:=hy x H3 y
  have st3:Stp (O.plus D (.lst ys)) H2 H3 := .same S2.ok sm
  have S3:=S2.stp st3
  have ix':Is K (unM (O.plus D (.lst ys))) H3 x ds[i]:=by
   by_cases hfl:flat ds[i]=true
   ·exact Is.flat (TupStay.refl H3) ix hfl
   ·exact ix.weak λa ha mm=>by
     rcases mm with mm|mm
     ·exact ha.1 mm
     ·rcases ha.2 with z|⟨o,z⟩
      ·exact hfl z
      ·exact aD a o z mm
  refine hg _ _ H3 _ x ds[i] _ _ (zui S3 h) ix' go λσ2 ρ2 Sg q=>?_
  refine hf D ys nM σ2 H3 ρ2 _ _ Sg q λb H4 st4 q4=>?_
  have st34:=st3.trans st4
  have acc4:∀ {H':Hp},Stp (O.plus D (.lst ys)) H2 H'->IsAll K (λa=>¬ (O.M a\/a=D)) H' ys acc:=λst=>hacc.stp st (λ_ z=>z) (λ_ z=>z)
  cases b with
  | false =>
    refine⟨ds.length - (i+1),by omega,rfl,hlt,st34.s D _ hDy |> λz=>(st34.p S2.p).2,λa o e n=>?_,λa u hu e=>st34.t a u hu (tst a u hu e),S2.stp st34,acc,acc4 st34,q4⟩
    exact st34.s a o (kp a o e n) λmm=>by
     rcases mm with mm|mm
     ·exact n mm
     ·exact aD a o e mm
  | true =>
    refine he D ys nM σ2 H4 ρ2 _ _ (Sg.stp st4) q4 λyv H5 r st5 o5 ⟨hz,q5⟩=>?_
    have st25:=st34.trans st5
    have S5:=S2.stp st25
    have hD5:H5 D=some (.lst ys):=(st25.p S2.p).2
    have iy:=o5.is (Sg.stp st4).ok (Sg.stp st4).p
    have a5:=acc4 st25
    refine⟨hD5,by rw[hacc.length];exact hz,ds.length - (i+1),by omega,rfl,hlt,zar,λa o e n=>?_,λa u hu e=>?_,?_,acc ++ [r.d],?_,q5⟩
    ·rw[zaf (aD a o e)]
     exact st25.s a o (kp a o e n) λmm=>by
      rcases mm with mm|mm
      ·exact n mm
      ·exact aD a o e mm
    ·rw[zaf (aD a u e)]
     exact st25.t a u hu (tst a u hu e)
    ·have p5:O.P (upd H5 D (.lst (ys ++ [yv]))):=S.ok.loc H5 _ (λa m=>zaf λz=>nM (z ▸ m)) S5.p.1
     refine⟨S.ok.plus D _,⟨p5,zar⟩,λj r' e=>?_,S5.len⟩
     obtain⟨v',h1,h2⟩:=S5.at_ j r' e
     have go:∀ d,Is K (unM (O.plus D (.lst ys))) H5 v' d->Is K (unM (O.plus D (.lst (ys ++ [yv])))) (upd H5 D (.lst (ys ++ [yv]))) v' d:=λd z =>
      z.to (λa xs fa qa=>⟨fa,by rw[zaf λz=>fa (.inr z)];exact qa⟩) λa xs qa=>SqT.stay (h:=qa) λb u hu hb=>by
       rw[zaf λz=>?_]
       ·exact hb
       ·obtain⟨us,e1|⟨o',e1⟩⟩:=hu <;> (rw[z,hD5] at hb;cases hb;cases e1)
     refine⟨v',h1,?_⟩
     cases r' with
     | im d=>exact go d h2
     | own es=>exact go _ h2
     | ob=>exact h2
     | scr n=>exact IsS.to (λa u fa qa=>⟨fa,by rw[zaf λz=>fa (.inr z)];exact qa⟩) h2
     | dct ks=>obtain⟨a,fa,h2⟩:=h2;exact⟨a,fa,h2.to λu qa=>by rw[zaf λz=>fa (.inr z)];exact qa⟩
     | gen f ds =>
       obtain⟨a,xs,e,fa,q,z⟩:=h2
       refine⟨a,xs,e,fa,by rw[zaf λz=>fa (.inr z)];exact q,z.to (λa xs fa qa=>⟨fa,by rw[zaf λz=>fa (.inr z)];exact qa⟩) λa xs qa=>SqT.stay (h:=qa) λb u hu hb=>?_⟩
       rw[zaf λz=>?_]
       ·exact hb
       ·obtain⟨us,e1|⟨o',e1⟩⟩:=hu <;> (rw[z,hD5] at hb;cases hb;cases e1)
     | rd f ds =>
       obtain⟨a,xs,e,fa,q,z⟩:=h2
       refine⟨a,xs,e,fa,by rw[zaf λz=>fa (.inr z)];exact q,z.to (λa xs fa qa=>⟨fa,by rw[zaf λz=>fa (.inr z)];exact qa⟩) λa xs qa=>SqT.stay (h:=qa) λb u hu hb=>?_⟩
       rw[zaf λz=>?_]
       ·exact hb
       ·obtain⟨us,e1|⟨o',e1⟩⟩:=hu <;> (rw[z,hD5] at hb;cases hb;cases e1)
     | exc C ns ds =>
       obtain⟨xs,e,z⟩:=h2
       have mv:∀ a u,unM (O.plus D (.lst ys)) a->H5 a=some u->unM (O.plus D (.lst (ys ++ [yv]))) a/\upd H5 D (.lst (ys ++ [yv])) a=some u:=λa u fa qa=>⟨fa,by rw[zaf λz=>fa (.inr z)];exact qa⟩
       refine⟨xs,e.to mv,z.to (λa xs fa qa=>mv a _ fa qa) λa xs qa=>SqT.stay (h:=qa) λb u hu hb=>?_⟩
       rw[zaf λz=>?_]
       ·exact hb
       ·obtain⟨us,e1|⟨o',e1⟩⟩:=hu <;> (rw[z,hD5] at hb;cases hb;cases e1)
     | thg T =>
       obtain⟨W,hw,z⟩:=h2
       refine⟨W,λa w=>⟨(hw a w).1,let ⟨o,q⟩:=(hw a w).2; ⟨o,by rw[zaf λz=>(hw a w).1 (.inr z)];exact q⟩⟩,T.to (λa u fa qa=>⟨fa,by rw[zaf λz=>fa (.inr z)];exact qa⟩) (λa u w q=>⟨w,by rw[zaf λz=>(hw a w).1 (.inr z)];exact q⟩) (λb u hu hb=>?_) z⟩
       rw[zaf λz=>?_]
       ·exact hb
       ·obtain⟨us,e1|⟨o',e1⟩⟩:=hu <;> (rw[z,hD5] at hb;cases hb;cases e1)
     | thr T =>
       obtain⟨W,hw,z⟩:=h2
       refine⟨W,λa w=>⟨(hw a w).1,let ⟨o,q⟩:=(hw a w).2; ⟨o,by rw[zaf λz=>(hw a w).1 (.inr z)];exact q⟩⟩,T.to (λa u fa qa=>⟨fa,by rw[zaf λz=>fa (.inr z)];exact qa⟩) (λa u w q=>⟨w,by rw[zaf λz=>(hw a w).1 (.inr z)];exact q⟩) (λb u hu hb=>?_) z⟩
       rw[zaf λz=>?_]
       ·exact hb
       ·obtain⟨us,e1|⟨o',e1⟩⟩:=hu <;> (rw[z,hD5] at hb;cases hb;cases e1)
    ·have mv:∀ {vs es},IsAll K (λa=>¬ (O.M a\/a=D)) H5 vs es->IsAll K (λa=>¬ (O.M a\/a=D)) (upd H5 D (.lst (ys ++ [yv]))) vs es:=λz =>
      z.to (λa xs fa qa=>⟨fa,by rw[zaf λz=>fa (.inr z)];exact qa⟩) λa xs qa=>SqT.stay (h:=qa) λb u hu hb=>by
       rw[zaf λz=>?_]
       ·exact hb
       ·obtain⟨us,e1|⟨o',e1⟩⟩:=hu <;> (rw[z,hD5] at hb;cases hb;cases e1)
     exact mv (a5.snoc iy)
 ·left
  have e:i=ds.length:=by omega
  subst e
  rw[Ys] at go
  refine⟨W.stop H2 _ kB tst (Qo _),k _ H2 (.n acc) ?_ ⟨D,ys,rfl,W.st.s.free nM hD,hDy,hacc.weak λa z m=>z (.inl m)⟩ go⟩
  refine W.st.trans ⟨λa o e n=>kp a o e n,λ_=>S2.p.1,tst⟩
end
section
variable {K : Qa} {O : Ob}
theorem zfn{H1 H2:Hp}{xs:List V}{ds:List PyData}{i:Nat}{d:PyData}(h:IsAll K (unM O) H1 xs ds)(hd:ds[i]? = some d)(t:TupStay H1 H2)(c:flat d=true\/∀ a o,H1 a=some o->¬ O.M a->H2 a=some o) :
 ∃ v,xs[i]? = some v/\Is K (λa=>¬ O.M a/\(flat d=true\/∃ o,H1 a=some o)) H2 v d:=by
 obtain⟨v,hv,iv⟩:=h.get hd
 refine⟨v,hv,?_⟩
 rcases c with c|c
 ·exact Is.flat t iv c
 ·exact iv.to (λa ys f q=>⟨⟨f,.inr ⟨_,q⟩⟩,c a _ q f⟩) λa ys q=>SqT.stay (h:=q) t
def R.isN:R->Bool
 | .n _=>true
 | .o _=>false
def srcL(f:DE):DI:=λρ Q=>f ρ λr=>∃ ds,r.d = .list ds/\Q r.isN ds
theorem zu4{t:TE}{f:DE}(h:ED K O t f):SrcS K O (zpy K t) (srcL f):=λσ H ρ R Qd S hf k=>by
 refine h σ H ρ _ _ S hf λv H1 r st o1 ⟨ds,e,q⟩=>?_
 have i1:=o1.is S.ok S.p
 rw[e] at i1
 cases i1 with
 | list f0 ha hs =>
   rename_i a xs
   refine⟨a,rfl,⟨xs,.of ha⟩,k (Itl K a) H1 ds (λb=>b=a) r.isN ⟨st,λb hb=>by subst hb;exact⟨f0,_,ha⟩,λH2 i kb _ hi=>?_,λH2 i d kb t2 hd c=>?_⟩ (λz b hb=>?_) q⟩
   ·exact⟨xs,.of (kb a _ rfl ha),by rw[hs.length];exact hi⟩
   ·obtain⟨w,hw,iw⟩:=zfn (O:=O) hs hd t2 c
    have q2:SqL K H2 a xs := .of (kb a _ rfl ha)
    refine⟨⟨xs,w,q2,hw⟩,λx H3 ⟨e3,y⟩=>?_⟩
    subst e3
    have:=y xs q2
    rw[hw] at this
    cases this
    exact⟨Same.refl _,iw⟩
   ·subst hb
    cases r with
    | o d=>cases z
    | n es =>
      obtain⟨a',xs',e',hn,_⟩:=o1
      cases e'
      exact hn
def srcT(f:DE):DI:=λρ Q=>f ρ λr=>∃ ds,r.d = .tuple ds/\Q true ds
theorem zzf{t:TE}{f:DE}(h:ED K O t f):SrcS K O (iTup K t) (srcT f):=λσ H ρ R Qd S hf k=>by
 refine h σ H ρ _ _ S hf λv H1 r st o1 ⟨ds,e,q⟩=>?_
 have i1:=o1.is S.ok S.p
 rw[e] at i1
 cases i1 with
 | tuple ha hs =>
   rename_i a xs
   refine⟨a,rfl,⟨xs,ha⟩,k (Itt K a) H1 ds (λ_=>False) true ⟨st,λb hb=>hb.elim,λH2 i kb t2 hi=>?_,λH2 i d kb t2 hd c=>?_⟩ (λz b hb=>hb.elim) q⟩
   ·exact⟨xs,SqT.stay t2 ha,by rw[hs.length];exact hi⟩
   ·obtain⟨w,hw,iw⟩:=zfn (O:=O) hs hd t2 c
    have q2:SqT K H2 a xs:=SqT.stay t2 ha
    refine⟨⟨xs,w,q2,hw⟩,λx H3 ⟨e3,y⟩=>?_⟩
    subst e3
    have:=y xs q2
    rw[hw] at this
    cases this
    exact⟨Same.refl _,iw⟩
def zdv(lo:Int)(n:Nat):List PyData:=(Jb n).map λk => .int (lo+(k:Nat))
theorem zck{lo:Int}{n i:Nat}{d:PyData}(h:(zdv lo n)[i]? = some d):i<n/\d = .int (lo+(i:Nat)):=by
 unfold zdv at h
 rw[Qy] at h
 by_cases hi:i<n
 ·rw[Y7 hi] at h
  cases h
  exact⟨hi,rfl⟩
 ·rw[Zs (by simpa using hi)] at h
  cases h
theorem zs7{H H1:Hp}(st:Stp O H H1)(lo:Int)(n:Nat):Walk K O H H1 (Itr lo n) (zdv lo n) (λ_=>False) :=
 ⟨st,λb hb=>hb.elim,λH2 i _ _ hi=>(show n<=i by simpa[zdv] using hi),λH2 i d _ t2 hd c=>by
  obtain⟨hi,rfl⟩:=zck hd
  refine⟨hi,λx H3 ⟨e3,y⟩=>?_⟩
  subst e3 y
  exact⟨Same.refl _,.int _⟩⟩
def zwe(g:DA):DI:=λρ Q=>g ρ λds=>∃ j:Int,ds = [.int j]/\-(2 ^ 62)<=j/\j<2 ^ 62/\Q true (zdv 0 j.toNat)
theorem zuk{t:TA}{g:DA}(h:AD K O t g):SrcS K O (zw0 t) (zwe g):=λσ H ρ R Qd S hf k=>by
 refine h σ H ρ _ _ S hf λvs H1 ds st is ⟨j,e,b1,b2,q⟩=>?_
 subst e
 cases is with
 | cons i0 is =>
   cases is
   cases i0
   exact⟨j,rfl,b1,b2,k _ H1 _ _ true (zs7 st 0 j.toNat) (λ_ _ hb=>hb.elim) q⟩
end
def sg(c:Nat):Str:=⟨#[c]⟩
def Its(x:Str):It:=⟨λi _=>i<x.cps.size,λi H v H'=>H'=H/\∃ c,x.cps[i]? = some c/\v = .str (sg c),λi _=>x.cps.size<=i⟩
theorem znm{P:Program}{w:World}{K:Qa}{tg:Expr}{it:Addr}{x:Str}{t:Tok}{ty:String}(hty:["enumerate", "zip", "dict_itemiterator", "dict_reverseitemiterator", "odict_iterator", "itertools.zip_longest", "itertools.pairwise"].contains ty=false)
 (W:∀ A':Around,A'.handled=none->Walks P w A' it [it] [it] x.cps.size (SignAt x) (λi h=>h.IsStrIter it ty x t i))
 (hself:∀ (A:Around) (i:Nat) (s:Shared) (Q:Value->Shared->Prop) (E:Value->Shared->Prop),s.heap.IsStrIter it ty x t i->Q (.ref it) s->wpAny (model P w) A (pyIter (.ref it)) Q E s) :
 Turn P w K tg (Its x) [it] it (λi h=>i<=x.cps.size/\h.IsStrIter it ty x t i) where
 mem:=by simp
 obj:=λi h st b hb=>by
  have e:b=it:=by simpa using hb
  subst e
  obtain⟨_,o,e,c,d⟩:=st
  exact⟨o,e,λv z=>by rw[d] at z;cases z⟩
 keep:=λi h h' st k=>⟨st.1,by
  obtain⟨_,o,e,c⟩:=st
  exact⟨o,k it (by simp) o e,c⟩⟩
 item:=by
  intro X hP hw hK hc i pins s σ H E I hf st hg
  subst hP hw hK
  obtain⟨f0,f1,f2,f3,f4,f5⟩:=hf it (by simp)
  refine(W X.A (I.ok.hd hc)).item i s _ _ hg st.2 λv h' tk hv st' kk=>?_
  obtain⟨c,u,hcx,rfl⟩:=hv
  have I1:Inv X pins σ H { s with heap:=h',toks:=tk }:=I.turned (λb o hb e=>kk b o (by simpa using hb) e) f0 f1 f3 f4 f5
  obtain⟨o,e,hcl,hdt⟩:=id st'
  exact⟨_,rfl,zlv (s:={ s with heap:=h',toks:=tk }) e hcl hdt hty ⟨.str (sg c),H,I1,⟨u,rfl⟩,⟨rfl,c,hcx,rfl⟩,⟨hg,st'⟩,λb hb=>(hf b hb).1⟩⟩
 done:=by
  intro X hP hw hK hc i pins s σ H E I hf st hg
  subst hP hw hK
  obtain⟨f0,f1,f2,f3,f4,f5⟩:=hf it (by simp)
  have hi:i=x.cps.size:=Nat.le_antisymm st.1 hg
  subst hi
  exact(W X.A (I.ok.hd hc)).done s _ _ st.2 λh' tk kk=>⟨rfl,I.turned (λb o hb e=>kk b o (by simpa using hb) e) f0 f1 f3 f4 f5⟩
 self:=λA i s Q E st h=>hself A i s Q E st.2 h
def iStr(t:TE):TI:=λσ H R=>t σ H λv H1=>∃ x,v = .str x/\R (Its x) H1
theorem z4f{X:Cx}{tg l:Expr}{tl:TE}(hl:PE X l tl):PI X tg l (iStr tl):=by
 intro pins s σ H R I h
 refine thn (hl pins s σ H _ I h) λv s1 ⟨y,H1,I1,r1,q1⟩=>?_
 obtain⟨x,e,q⟩:=q1
 subst e
 obtain⟨t,rfl⟩:=r1
 have fin:∀ (o:Obj) (T:Nat->Heap->Prop),Turn X.prog X.w X.K tg (Its x) [s1.heap.objs.size] s1.heap.objs.size T->T 0 (s1.heap.push o)->PIE X pins σ tg R (.ref s1.heap.objs.size) { s1 with heap:=s1.heap.push o }:=λo T hT h0=>by
  refine⟨s1.heap.objs.size,[s1.heap.objs.size],T,Its x,H1,rfl,I1.kept (t':=s1.toks) λb o e=>Qc _ e,hT,h0,λb hb=>?_,q⟩
  have e:b=s1.heap.objs.size:=by simpa using hb
  subst e
  exact I1.fpOk (Qo _) (I1.hok.fresh (Qo _))
 cases ha:x.cps.all (· < 128)
 ·exact wpAny_pyIter_wide ha (fin _ _ (znm (by decide) (λA' hA=>Walks.strWide hA _ x t) λ_ _ _ _ _ st h=>wpAny_pyIter_striter_wide st h) ⟨QH _,_,Qq _ rfl,rfl,rfl⟩)
 ·exact wpAny_pyIter_ascii ha (fin _ _ (znm (by decide) (λA' hA=>Walks.strAscii hA _ x t) λ_ _ _ _ _ st h=>wpAny_pyIter_striter_ascii st h) ⟨QH _,_,Qq _ rfl,rfl,rfl⟩)
def sgs(x:Str):List PyData:=x.cps.toList.map λc => .str (sg c)
def srcS(f:DE):DI:=λρ Q=>f ρ λr=>∃ x,r.d = .str x/\Q true (sgs x)
theorem zy7{K:Qa}{O:Ob}{t:TE}{f:DE}(h:ED K O t f):SrcS K O (iStr t) (srcS f):=λσ H ρ R Qd S hf k=>by
 refine h σ H ρ _ _ S hf λv H1 r st o1 ⟨x,e,q⟩=>?_
 have i1:=o1.is S.ok S.p
 rw[e] at i1
 cases i1
 refine⟨x,rfl,k (Its x) H1 (sgs x) (λ_=>False) true ⟨st,λb hb=>hb.elim,λH2 i _ _ hi=>(show x.cps.size<=i by simpa[sgs] using hi),λH2 i d _ t2 hd c=>?_⟩ (λ_ _ hb=>hb.elim) q⟩
 unfold sgs at hd
 rw[Qy] at hd
 obtain⟨n,hn,rfl⟩:=QA.mp hd
 have hn':x.cps[i]? = some n:=by simpa using hn
 have hi:i<x.cps.size:=by
  obtain⟨z,_⟩:=JH.mp hn'
  exact z
 refine⟨hi,λy H3 ⟨e3,n',h1,h2⟩=>?_⟩
 subst e3 h2
 rw[hn'] at h1
 cases h1
 exact⟨Same.refl _,.str _⟩
structure DEnds where
 nx:DSt->Prop
 rt:R->Prop
 bk:DSt->Prop:=λ_=>False
 ct:DSt->Prop:=λ_=>False
abbrev DS:=DEnds->DSt->Prop
def unO(O:Ob)(A:Nat->Addr->Prop):Addr->Prop:=λa=>¬ O.M a/\∀ j,¬ A j a
def OwnO(o:HO):Prop:=∀ us,o ≠ .tup us/\∀ o',o ≠ .frz o' (.tup us)
theorem OwnO.lst{xs:List V}:OwnO (.lst xs):=λ_=>⟨λz=>(nomatch z),λ_ z=>(nomatch z)⟩
def RepV(K:Qa)(O:Ob)(A:Nat->Addr->Prop)(H:Hp)(i:Nat)(v:V):DV->Prop
 | .im d=>Is K (unO O A) H v d
 | .own ds=>∃ a xs,v = .ref a/\A i a/\H a=some (.lst xs)/\IsAll K (unO O A) H xs ds
 | .ob=>v=O.v
 | .scr n=>IsS K (unO O A) H v n
 | .dct ks=>∃ a,A i a/\DkAt H v a ks
 | .gen f ds=>∃ a xs,v = .ref a/\A i a/\H a=some (f a xs)/\IsAll K (unO O A) H xs ds
 | .rd f ds=>∃ a xs,v = .ref a/\unO O A a/\H a=some (f a xs)/\IsAll K (unO O A) H xs ds
 | .exc C ns ds=>∃ xs,ExAt (unO O A) H v C ns xs/\IsAll K (unO O A) H xs ds
 | .thg T=>T.R K (unO O A) (A i) H v
 | .thr T=>∃ W:Addr->Prop,(∀ a,W a->unO O A a/\∃ o,H a=some o)/\T.R K (unO O A) W H v
structure Rep (K:Qa) (O:Ob) (H₀:Hp) (A:Nat->Addr->Prop) (H:Hp) (σ:St) (ρ:DSt):Prop where
 ok:O.Ok
 p:O.P H
 p0:O.P H₀
 st:Stp O H₀ H
 dis:∀ i j a,A i a->A j a->i=j
 own:∀ i a,A i a->H₀ a=none/\(∃ o,H a=some o/\OwnO o)/\¬ O.M a
 at_:∀ (i:Nat) r,ρ[i]? = some (some r)->∃ v,σ[i]? = some (some v)/\RepV K O A H i v r
 len:ρ.length=σ.length
def Frm(O:Ob)(A:Nat->Addr->Prop)(H:Hp)(A':Nat->Addr->Prop)(H':Hp):Prop:=∀ a o,H a=some o->unO O A a->H' a=some o/\unO O A' a
theorem Frm.refl{O:Ob}{A:Nat->Addr->Prop}{H:Hp}:Frm O A H A H:=λ_ _ h u=>⟨h,u⟩
theorem Frm.trans{O:Ob}{A A1 A2:Nat->Addr->Prop}{H H1 H2:Hp}(a:Frm O A H A1 H1)(b:Frm O A1 H1 A2 H2):Frm O A H A2 H2:=λc o h u=>let ⟨h1,u1⟩:=a c o h u;b c o h1 u1
structure Post (K:Qa) (O:Ob) (H₀:Hp) (A:Nat->Addr->Prop) (H:Hp) (D:Ends) (Dd:DEnds):Prop where
 nx:∀ A' σ' H' ρ',Rep K O H₀ A' H' σ' ρ'->Frm O A H A' H'->Dd.nx ρ'->D.nx σ' H'
 bk:∀ A' σ' H' ρ',Rep K O H₀ A' H' σ' ρ'->Frm O A H A' H'->Dd.bk ρ'->D.bk σ' H'
 ct:∀ A' σ' H' ρ',Rep K O H₀ A' H' σ' ρ'->Frm O A H A' H'->Dd.ct ρ'->D.ct σ' H'
 rt:∀ H' v r,Stp O H₀ H'->Out K O H₀ H' v r->Dd.rt r->D.rt v H'
def SD(K:Qa)(O:Ob)(t:TS)(g:DS):Prop :=
 ∀ (H₀:Hp) (A:Nat->Addr->Prop) (σ:St) (H:Hp) (ρ:DSt) (D:Ends) (Dd:DEnds),Rep K O H₀ A H σ ρ->g Dd ρ->Post K O H₀ A H D Dd->t D σ H
section
variable {K : Qa} {O : Ob} {H₀ H H' : Hp} {A : Nat → Addr → Prop} {σ : St} {ρ : DSt}
theorem Rep.seen(r:Rep K O H₀ A H σ ρ):Seen K O H σ ρ:=by
 refine⟨r.ok,r.p,λi x e=>?_,r.len⟩
 obtain⟨v,hv,h⟩:=r.at_ i x e
 refine⟨v,hv,?_⟩
 cases x with
 | im d=>exact h.weak λa u=>u.1
 | own ds =>
   obtain⟨a,xs,rfl,ha,hl,hs⟩:=h
   exact .list (r.own i a ha).2.2 hl (hs.weak λa u=>u.1)
 | ob=>exact h
 | scr n=>exact IsS.to (λa u f q=>⟨f.1,q⟩) h
 | dct ks=>obtain⟨a,ha,h⟩:=h;exact⟨a,(r.own i a ha).2.2,h⟩
 | gen f ds=>obtain⟨a,xs,e,ha,q,z⟩:=h;exact⟨a,xs,e,(r.own i a ha).2.2,q,z.weak λa u=>u.1⟩
 | rd f ds=>obtain⟨a,xs,e,ha,q,z⟩:=h;exact⟨a,xs,e,ha.1,q,z.weak λa u=>u.1⟩
 | exc C ns ds=>obtain⟨xs,e,z⟩:=h;exact⟨xs,e.to λa u f q=>⟨f.1,q⟩,z.weak λa u=>u.1⟩
 | thg T=>exact⟨A i,λa w=>⟨(r.own i a w).2.2,let ⟨o,q,_⟩:=(r.own i a w).2.1; ⟨o,q⟩⟩,T.to (λa u f q=>⟨f.1,q⟩) (λa u w q=>⟨w,q⟩) (TupStay.refl _) h⟩
 | thr T=>obtain⟨W,hw,z⟩:=h;exact⟨W,λa w=>⟨(hw a w).1.1,(hw a w).2⟩,T.to (λa u f q=>⟨f.1,q⟩) (λa u w q=>⟨w,q⟩) (TupStay.refl _) z⟩
theorem Rep.stp(r:Rep K O H₀ A H σ ρ)(s:Stp O H H'):Rep K O H₀ A H' σ ρ:=by
 refine⟨r.ok,s.p r.p,r.p0,r.st.trans s,r.dis,λi a ha=>?_,λi x e=>?_,r.len⟩
 ·obtain⟨h0,⟨xs,hx,ho⟩,hm⟩:=r.own i a ha
  exact⟨h0,⟨xs,s.s a _ hx hm,ho⟩,hm⟩
 ·obtain⟨v,hv,h⟩:=r.at_ i x e
  refine⟨v,hv,?_⟩
  cases x with
  | im d=>exact Is.stp s (λ_ z=>z) (λ_ z=>z.1) h
  | own ds =>
    obtain⟨a,xs,rfl,ha,hl,hs⟩:=h
    exact⟨a,xs,rfl,ha,s.s a _ hl (r.own i a ha).2.2,hs.stp s (λ_ z=>z) (λ_ z=>z.1)⟩
  | ob=>exact h
  | scr n=>exact IsS.to (λa u f q=>⟨f,s.s a u q f.1⟩) h
  | dct ks=>obtain⟨a,ha,h⟩:=h;exact⟨a,ha,h.to λu q=>s.s a u q (r.own i a ha).2.2⟩
  | gen f ds=>obtain⟨a,xs,e,ha,q,z⟩:=h;exact⟨a,xs,e,ha,s.s a _ q (r.own i a ha).2.2,z.stp s (λ_ z=>z) (λ_ z=>z.1)⟩
  | rd f ds=>obtain⟨a,xs,e,ha,q,z⟩:=h;exact⟨a,xs,e,ha,s.s a _ q ha.1,z.stp s (λ_ z=>z) (λ_ z=>z.1)⟩
  | exc C ns ds=>obtain⟨xs,e,z⟩:=h;exact⟨xs,e.to λa u f q=>⟨f,s.s a u q f.1⟩,z.stp s (λ_ z=>z) (λ_ z=>z.1)⟩
  | thg T=>exact T.to (λa u f q=>⟨f,s.s a u q f.1⟩) (λa u w q=>⟨w,s.s a u q (r.own i a w).2.2⟩) s.t h
  | thr T=>obtain⟨W,hw,z⟩:=h;exact⟨W,λa w=>let ⟨f,o,q⟩:=hw a w; ⟨f,o,s.s a o q f.1⟩,T.to (λa u f q=>⟨f,s.s a u q f.1⟩) (λa u w q=>⟨w,s.s a u q (hw a w).1.1⟩) s.t z⟩
theorem Frm.stp(s:Stp O H H'):Frm O A H A H':=λa o e u=>⟨s.s a o e u.1,u⟩
theorem Rep.setIm{i:Nat}{v:V}{d:PyData}(r:Rep K O H₀ A H σ ρ)(h:Is K (unO O A) H v d):Rep K O H₀ (λj a=>j ≠ i/\A j a) H (σ.set i (some v)) (ρ.set i (some (.im d))):=by
 have un:∀ a,unO O A a->unO O (λj a=>j ≠ i/\A j a) a:=λa u=>⟨u.1,λj z=>u.2 j z.2⟩
 refine⟨r.ok,r.p,r.p0,r.st,λj k a x y=>r.dis j k a x.2 y.2,λj a x=>r.own j a x.2,λj x e=>?_,by rw[QX,QX];exact r.len⟩
 by_cases hj:i=j
 ·subst hj
  have hi:i<ρ.length:=by
   rcases Y8 i ρ.length with z|z
   ·exact z
   ·rw[Zs (by simpa using z)] at e;cases e
  rw[QI hi] at e
  cases e
  exact⟨v,QI (by have:=r.len;omega),h.weak un⟩
 ·rw[QF hj] at e
  obtain⟨w,h1,h2⟩:=r.at_ j x e
  refine⟨w,by rw[QF hj];exact h1,?_⟩
  cases x with
  | im d=>exact h2.weak un
  | own ds =>
    obtain⟨a,xs,rfl,ha,hl,hs⟩:=h2
    exact⟨a,xs,rfl,⟨λz=>hj z.symm,ha⟩,hl,hs.weak un⟩
  | ob=>exact h2
  | scr n=>exact IsS.to (λa u f q=>⟨un a f,q⟩) h2
  | dct ks=>obtain⟨a,ha,h2⟩:=h2;exact⟨a,⟨λz=>hj z.symm,ha⟩,h2⟩
  | gen f ds=>obtain⟨a,xs,e,ha,q,z⟩:=h2;exact⟨a,xs,e,⟨λz=>hj z.symm,ha⟩,q,z.weak un⟩
  | rd f ds=>obtain⟨a,xs,e,ha,q,z⟩:=h2;exact⟨a,xs,e,un a ha,q,z.weak un⟩
  | exc C ns ds=>obtain⟨xs,e,z⟩:=h2;exact⟨xs,e.to λa u f q=>⟨un a f,q⟩,z.weak un⟩
  | thg T=>exact T.to (λa u f q=>⟨un a f,q⟩) (λa u w q=>⟨⟨λz=>hj z.symm,w⟩,q⟩) (TupStay.refl _) h2
  | thr T=>obtain⟨W,hw,z⟩:=h2;exact⟨W,λa w=>⟨un a (hw a w).1,(hw a w).2⟩,T.to (λa u f q=>⟨un a f,q⟩) (λa u w q=>⟨w,q⟩) (TupStay.refl _) z⟩
theorem Rep.setOwn{i:Nat}{a:Addr}{xs:List V}{ds:List PyData}(r:Rep K O H₀ A H σ ρ)(s:Stp O H H')(hn:H a=none)(hl:H' a=some (.lst xs))(hf:IsAll K (unM O) H' xs ds)(fl:flats ds=true) :
 Rep K O H₀ (λj b=>(j ≠ i/\A j b)\/(j=i/\b=a)) H' (σ.set i (some (.ref a))) (ρ.set i (some (.own ds))):=by
 have hm:¬ O.M a:=λm=>by obtain⟨o,z⟩:=r.ok.here H a r.p m;rw[hn] at z;cases z
 have new:∀ j,¬ A j a:=λj z=>by obtain⟨_,⟨ys,q,_⟩,_⟩:=r.own j a z;rw[hn] at q;cases q
 have un:∀ b o,H b=some o->unO O A b->unO O (λj b=>(j ≠ i/\A j b)\/(j=i/\b=a)) b:=λb o e u=>⟨u.1,λj z=>by
  rcases z with z|z
  ·exact u.2 j z.2
  ·rw[z.2,hn] at e;cases e⟩
 have mv:∀ {v d},Is K (unO O A) H v d->Is K (unO O (λj b=>(j ≠ i/\A j b)\/(j=i/\b=a))) H' v d:=λz =>
  z.to (λb ys f q=>⟨un b _ q f,s.s b _ q f.1⟩) λb ys q=>SqT.stay (h:=q) s.t
 have mvs:∀ {v d},IsAll K (unO O A) H v d->IsAll K (unO O (λj b=>(j ≠ i/\A j b)\/(j=i/\b=a))) H' v d:=λz =>
  z.to (λb ys f q=>⟨un b _ q f,s.s b _ q f.1⟩) λb ys q=>SqT.stay (h:=q) s.t
 refine⟨r.ok,s.p r.p,r.p0,r.st.trans s,λj k b x y=>?_,λj b x=>?_,λj x e=>?_,by rw[QX,QX];exact r.len⟩
 ·rcases x with x|x <;> rcases y with y|y
  ·exact r.dis j k b x.2 y.2
  ·exact absurd (y.2 ▸ x.2) (new j)
  ·exact absurd (x.2 ▸ y.2) (new k)
  ·exact x.1.trans y.1.symm
 ·rcases x with x|x
  ·obtain⟨h0,⟨ys,q,ho⟩,m⟩:=r.own j b x.2
   exact⟨h0,⟨ys,s.s b _ q m,ho⟩,m⟩
  ·obtain⟨rfl,rfl⟩:=x
   exact⟨r.st.s.free hm hn,⟨_,hl,.lst⟩,hm⟩
 ·by_cases hj:i=j
  ·subst hj
   have hi:i<ρ.length:=by
    rcases Y8 i ρ.length with z|z
    ·exact z
    ·rw[Zs (by simpa using z)] at e;cases e
   rw[QI hi] at e
   cases e
   exact⟨.ref a,QI (by have:=r.len;omega),a,xs,rfl,.inr ⟨rfl,rfl⟩,hl,IsAll.flats (TupStay.refl H') hf fl⟩
  ·rw[QF hj] at e
   obtain⟨w,h1,h2⟩:=r.at_ j x e
   refine⟨w,by rw[QF hj];exact h1,?_⟩
   cases x with
   | im d=>exact mv h2
   | own es =>
     obtain⟨b,ys,rfl,hb,hlb,hs⟩:=h2
     exact⟨b,ys,rfl,.inl ⟨λz=>hj z.symm,hb⟩,s.s b _ hlb (r.own j b hb).2.2,mvs hs⟩
   | ob=>exact h2
   | scr n=>exact IsS.to (λb u f q=>⟨un b u q f,s.s b u q f.1⟩) h2
   | dct ks=>obtain⟨b,hb,h2⟩:=h2;exact⟨b,.inl ⟨λz=>hj z.symm,hb⟩,h2.to λu q=>s.s b u q (r.own j b hb).2.2⟩
   | gen f ds=>obtain⟨b,xs,e,hb,q,z⟩:=h2;exact⟨b,xs,e,.inl ⟨λz=>hj z.symm,hb⟩,s.s b _ q (r.own j b hb).2.2,mvs z⟩
   | rd f ds=>obtain⟨b,xs,e,hb,q,z⟩:=h2;exact⟨b,xs,e,un b _ q hb,s.s b _ q hb.1,mvs z⟩
   | exc C ns ds=>obtain⟨xs,e,z⟩:=h2;exact⟨xs,e.to λb u f q=>⟨un b _ q f,s.s b _ q f.1⟩,mvs z⟩
   | thg T=>exact T.to (λb u f q=>⟨un b u q f,s.s b u q f.1⟩) (λb u w q=>⟨.inl ⟨λz=>hj z.symm,w⟩,s.s b u q (r.own j b w).2.2⟩) s.t h2
   | thr T=>obtain⟨W,hw,z⟩:=h2;exact⟨W,λb w=>let ⟨f,o,q⟩:=hw b w; ⟨un b o q f,o,s.s b o q f.1⟩,T.to (λb u f q=>⟨un b u q f,s.s b u q f.1⟩) (λb u w q=>⟨w,s.s b u q (hw b w).1.1⟩) s.t z⟩
theorem Frm.setIm{i:Nat}(s:Stp O H H'):Frm O A H (λj a=>j ≠ i/\A j a) H':=λa o e u=>⟨s.s a o e u.1,u.1,λj z=>u.2 j z.2⟩
theorem Frm.setOwn{i:Nat}{a:Addr}(s:Stp O H H')(hn:H a=none):Frm O A H (λj b=>(j ≠ i/\A j b)\/(j=i/\b=a)) H':=λb o e u=>⟨s.s b o e u.1,u.1,λj z=>by
 rcases z with z|z
 ·exact u.2 j z.2
 ·rw[z.2,hn] at e;cases e⟩
theorem Rep.change{i:Nat}{a:Addr}{ys:List V}{ds es:List PyData}(r:Rep K O H₀ A H σ ρ)(e:ρ[i]? = some (some (.own ds)))(hv:σ[i]? = some (some (.ref a)))(ha:A i a)(hs:IsAll K (unO O A) H ys es) :
 Rep K O H₀ A (upd H a (.lst ys)) σ (ρ.set i (some (.own es))):=by
 obtain⟨h0,⟨oo,hz,hoo⟩,hm⟩:=r.own i a ha
 have ts:TupStay H (upd H a (.lst ys)):=λb u hu hb=>by
  rw[zaf λz=>?_]
  ·exact hb
  ·rw[z,hz] at hb
   cases hb
   obtain⟨us,e1|⟨o',e1⟩⟩:=hu
   ·exact absurd e1 (hoo us).1
   ·exact absurd e1 ((hoo us).2 o')
 have mv:∀ {v d},Is K (unO O A) H v d->Is K (unO O A) (upd H a (.lst ys)) v d:=λz=>z.to (λb us f q=>⟨f,by rw[zaf (show b ≠ a from λw=>f.2 i (by rw[w];exact ha))];exact q⟩) λb us q=>SqT.stay (h:=q) ts
 have mvs:∀ {v d},IsAll K (unO O A) H v d->IsAll K (unO O A) (upd H a (.lst ys)) v d:=λz=>z.to (λb us f q=>⟨f,by rw[zaf (show b ≠ a from λw=>f.2 i (by rw[w];exact ha))];exact q⟩) λb us q=>SqT.stay (h:=q) ts
 have pp:O.P (upd H a (.lst ys)):=r.ok.loc H _ (λb m=>zaf λz=>hm (z ▸ m)) r.p
 refine⟨r.ok,pp,r.p0,⟨λb o hb n=>?_,λ_=>pp,λb u hu hb=>ts b u hu (r.st.t b u hu hb)⟩,r.dis,λj b hb=>?_,λj x ej=>?_,by rw[QX];exact r.len⟩
 ·rw[zaf λz=>?_]
  ·exact r.st.s b o hb n
  ·rw[z,h0] at hb;cases hb
 ·obtain⟨k0,⟨us,k1,ko⟩,k2⟩:=r.own j b hb
  by_cases hba:b=a
  ·subst hba;exact⟨k0,⟨_,zar,.lst⟩,k2⟩
  ·exact⟨k0,⟨us,by rw[zaf hba];exact k1,ko⟩,k2⟩
 ·by_cases hj:i=j
  ·subst hj
   have hi:i<ρ.length:=(Qs.mp e).1
   rw[QI hi] at ej
   cases ej
   exact⟨.ref a,hv,a,ys,rfl,ha,zar,mvs hs⟩
  ·rw[QF hj] at ej
   obtain⟨w,h1,h2⟩:=r.at_ j x ej
   refine⟨w,h1,?_⟩
   cases x with
   | im d=>exact mv h2
   | own fs =>
     obtain⟨b,us,rfl,hb,hlb,hs2⟩:=h2
     exact⟨b,us,rfl,hb,by rw[zaf (show b ≠ a from λz=>hj (r.dis i j a ha (by rw[<- z];exact hb)))];exact hlb,mvs hs2⟩
   | ob=>exact h2
   | scr n=>exact IsS.to (λb u f q=>⟨f,by rw[zaf (show b ≠ a from λw=>f.2 i (by rw[w];exact ha))];exact q⟩) h2
   | dct ks=>obtain⟨b,hb,h2⟩:=h2;exact⟨b,hb,h2.to λu q=>by rw[zaf (show b ≠ a from λz=>hj (r.dis i j a ha (by rw[<- z];exact hb)))];exact q⟩
   | gen f ds=>obtain⟨b,xs,e,hb,q,z⟩:=h2;exact⟨b,xs,e,hb,by rw[zaf (show b ≠ a from λz=>hj (r.dis i j a ha (by rw[<- z];exact hb)))];exact q,mvs z⟩
   | rd f ds=>obtain⟨b,xs,e,hb,q,z⟩:=h2;exact⟨b,xs,e,hb,by rw[zaf (show b ≠ a from λw=>hb.2 i (by rw[w];exact ha))];exact q,mvs z⟩
   | exc C ns ds=>obtain⟨xs,e,z⟩:=h2;exact⟨xs,e.to λb u f q=>⟨f,by rw[zaf (show b ≠ a from λw=>f.2 i (by rw[w];exact ha))];exact q⟩,mvs z⟩
   | thg T=>exact T.to (λb u f q=>⟨f,by rw[zaf (show b ≠ a from λw=>f.2 i (by rw[w];exact ha))];exact q⟩) (λb u w q=>⟨w,by rw[zaf (show b ≠ a from λz=>hj (r.dis i j a ha (by rw[<- z];exact w)))];exact q⟩) ts h2
   | thr T=>obtain⟨W,hw,z⟩:=h2;exact⟨W,λb w=>let ⟨f,o,q⟩:=hw b w; ⟨f,o,by rw[zaf (show b ≠ a from λw=>f.2 i (by rw[w];exact ha))];exact q⟩,T.to (λb u f q=>⟨f,by rw[zaf (show b ≠ a from λw=>f.2 i (by rw[w];exact ha))];exact q⟩) (λb u w q=>⟨w,by rw[zaf (show b ≠ a from λy=>(hw b w).1.2 i (by rw[y];exact ha))];exact q⟩) ts z⟩
theorem Frm.change{i:Nat}{a:Addr}{o:HO}(ha:A i a):Frm O A H A (upd H a o):=λb u e n=>⟨by rw[zaf (show b ≠ a from λz=>n.2 i (by rw[z];exact ha))];exact e,n⟩
theorem Rep.disown{i:Nat}{ds:List PyData}(r:Rep K O H₀ A H σ ρ)(e:ρ[i]? = some (some (.own ds))):Rep K O H₀ (λj a=>j ≠ i/\A j a) H σ (ρ.set i (some (.im (.list ds)))):=by
 have un:∀ a,unO O A a->unO O (λj a=>j ≠ i/\A j a) a:=λa u=>⟨u.1,λj z=>u.2 j z.2⟩
 refine⟨r.ok,r.p,r.p0,r.st,λj k a x y=>r.dis j k a x.2 y.2,λj a x=>r.own j a x.2,λj x ej=>?_,by rw[QX];exact r.len⟩
 by_cases hj:i=j
 ·subst hj
  have hi:i<ρ.length:=(Qs.mp e).1
  rw[QI hi] at ej
  cases ej
  obtain⟨w,h1,h2⟩:=r.at_ i _ e
  obtain⟨a,xs,rfl,ha,hl,hs⟩:=h2
  exact⟨.ref a,h1,.list ⟨(r.own i a ha).2.2,λj z=>z.1 (r.dis j i a z.2 ha)⟩ hl (hs.weak un)⟩
 ·rw[QF hj] at ej
  obtain⟨w,h1,h2⟩:=r.at_ j x ej
  refine⟨w,h1,?_⟩
  cases x with
  | im d=>exact h2.weak un
  | own fs =>
    obtain⟨b,us,rfl,hb,hlb,hs2⟩:=h2
    exact⟨b,us,rfl,⟨λz=>hj z.symm,hb⟩,hlb,hs2.weak un⟩
  | ob=>exact h2
  | scr n=>exact IsS.to (λa u f q=>⟨un a f,q⟩) h2
  | dct ks=>obtain⟨b,hb,h2⟩:=h2;exact⟨b,⟨λz=>hj z.symm,hb⟩,h2⟩
  | gen f ds=>obtain⟨b,xs,e,hb,q,z⟩:=h2;exact⟨b,xs,e,⟨λz=>hj z.symm,hb⟩,q,z.weak un⟩
  | rd f ds=>obtain⟨b,xs,e,hb,q,z⟩:=h2;exact⟨b,xs,e,un b hb,q,z.weak un⟩
  | exc C ns ds=>obtain⟨xs,e,z⟩:=h2;exact⟨xs,e.to λb u f q=>⟨un b f,q⟩,z.weak un⟩
  | thg T=>exact T.to (λa u f q=>⟨un a f,q⟩) (λa u w q=>⟨⟨λz=>hj z.symm,w⟩,q⟩) (TupStay.refl _) h2
  | thr T=>obtain⟨W,hw,z⟩:=h2;exact⟨W,λa w=>⟨un a (hw a w).1,(hw a w).2⟩,T.to (λa u f q=>⟨un a f,q⟩) (λa u w q=>⟨w,q⟩) (TupStay.refl _) z⟩
end
section
variable {K : Qa} {O : Ob}
theorem Post.frm{H₀:Hp}{A A1:Nat->Addr->Prop}{H H1:Hp}{D:Ends}{Dd:DEnds}(P:Post K O H₀ A H D Dd)(f:Frm O A H A1 H1):Post K O H₀ A1 H1 D Dd :=
 ⟨λA' σ' H' ρ' r g=>P.nx A' σ' H' ρ' r (f.trans g),λA' σ' H' ρ' r g=>P.bk A' σ' H' ρ' r (f.trans g),λA' σ' H' ρ' r g=>P.ct A' σ' H' ρ' r (f.trans g),P.rt⟩
def seqD(g k:DS):DS:=λDd ρ=>g { Dd with nx:=k Dd } ρ
theorem z3q{t u:TS}{g k:DS}(h:SD K O t g)(h':SD K O u k):SD K O (tSeq t u) (seqD g k):=λH₀ A σ H ρ D Dd r q P =>
 h H₀ A σ H ρ _ _ r q ⟨λA' σ' H' ρ' r' f q'=>h' H₀ A' σ' H' ρ' D Dd r' q' (P.frm f),P.bk,P.ct,P.rt⟩
theorem zz1:SD K O zi4 (λDd ρ=>Dd.nx ρ):=λH₀ A σ H ρ D Dd r q P=>P.nx A σ H ρ r .refl q
def ifS(c:DT)(g k:DS):DS:=λDd ρ=>c ρ λb=>if b=true then g Dd ρ else k Dd ρ
theorem z4h{c:TT}{t u:TS}{fc:DT}{g k:DS}(hc:TD K O c fc)(h:SD K O t g)(h':SD K O u k):SD K O (tIfS c t u) (ifS fc g k):=λH₀ A σ H ρ D Dd r q P=>by
 refine hc σ H ρ _ _ r.seen q λb H1 s1 q1=>?_
 cases b with
 | true=>exact h H₀ A σ H1 ρ D Dd (r.stp s1) q1 (P.frm (.stp s1))
 | false=>exact h' H₀ A σ H1 ρ D Dd (r.stp s1) q1 (P.frm (.stp s1))
def retS(f:DE):DS:=λDd ρ=>f ρ Dd.rt
theorem z1w{t:TE}{f:DE}(h:ED K O t f):SD K O (tRet t) (retS f):=λH₀ A σ H ρ D Dd r q P=>by
 refine h σ H ρ _ _ r.seen q λv H1 x s1 o1 q1=>P.rt H1 v x (r.st.trans s1) (o1.ahead r.ok r.p0 r.st) q1
def retO(i:Nat):DS:=λDd ρ=>∃ ds,ρ[i]? = some (some (.own ds))/\Dd.rt (.n ds)
theorem zrd{i:Nat}:SD K O (tRet (tVar i)) (retO i):=λH₀ A σ H ρ D Dd r q P=>by
 obtain⟨ds,e,q⟩:=q
 obtain⟨v,hv,a,xs,rfl,ha,hl,hs⟩:=r.at_ i _ e
 exact⟨_,hv,P.rt H _ (.n ds) r.st ⟨a,xs,rfl,(r.own i a ha).1,hl,hs.weak λb u=>u.1⟩ q⟩
def asgS(i:Nat)(f:DE):DS:=λDd ρ=>f ρ λr=>match r with
 | .o d=>flat d=true/\Dd.nx (ρ.set i (some (.im d)))
 | .n ds=>flats ds=true/\Dd.nx (ρ.set i (some (.own ds)))
theorem zsg{i:Nat}{t:TE}{f:DE}(h:ED K O t f):SD K O (tAsg t (zbi i)) (asgS i f):=λH₀ A σ H ρ D Dd r q P=>by
 refine h σ H ρ _ _ r.seen q λv H1 x s1 o1 q1=>?_
 cases x with
 | o d =>
   obtain⟨fl,q1⟩:=q1
   exact P.nx _ _ H1 _ ((r.stp s1).setIm (Is.flat (TupStay.refl H1) o1 fl)) (.setIm s1) q1
 | n ds =>
   obtain⟨fl,q1⟩:=q1
   obtain⟨a,xs,rfl,hn,hl,hs⟩:=o1
   exact P.nx _ _ H1 _ (r.setOwn s1 hn hl hs fl) (.setOwn s1 hn) q1
def appS(i:Nat)(f:DE):DS:=λDd ρ=>∃ ds,ρ[i]? = some (some (.own ds))/\f ρ λr=>flat r.d=true/\ds.length<sizeLine/\Dd.nx (ρ.set i (some (.own (ds ++ [r.d]))))
theorem zr5{i:Nat}{t:TE}{f:DE}(h:ED K O t f):SD K O (zpt (tBM K "list" zhv (tVar i) (zbu t tNil))) (appS i f):=λH₀ A σ H ρ D Dd r q P=>by
 obtain⟨ds,e,q⟩:=q
 obtain⟨v,hv,a,xs,rfl,ha,hl,hs⟩:=r.at_ i _ e
 refine⟨_,hv,?_⟩
 refine⟨.inl ⟨rfl,xs,.of hl⟩,?_⟩
 refine h σ H ρ _ _ r.seen q λw H1 x s1 o1 ⟨fl,hz,q1⟩=>?_
 have r1:=r.stp s1
 obtain⟨v1,hv1,a1,xs1,e1,ha1,hl1,hs1⟩:=r1.at_ i _ e
 rw[hv] at hv1
 cases hv1
 cases e1
 refine⟨a,xs1,w,rfl,rfl,hl1,by rw[hs1.length];exact hz,?_⟩
 have iw:Is K (unO O A) H1 w x.d:=Is.flat (TupStay.refl H1) (o1.is r.ok r.p) fl
 exact P.nx A σ _ _ (r1.change e hv ha (hs1.snoc iw)) ((Frm.stp s1).trans (.change ha)) q1
end
def GR(K:Qa)(O:Ob)(t:TG)(g:DG):Prop :=
 ∀ (H₀:Hp) (A:Nat->Addr->Prop) (σ:St) (H:Hp) (ρ:DSt) (v:V) (d:PyData) (Q:St->Hp->Prop) (Qd:DSt->Prop),Rep K O H₀ A H σ ρ->flat d=true->Is K (unO O A) H v d->g d ρ Qd ->
   (∀ A' σ' ρ',Rep K O H₀ A' H σ' ρ'->Frm O A H A' H->Qd ρ'->Q σ' H)->t v σ H Q
section
variable {K : Qa} {O : Ob}
theorem zx8{i:Nat}:GR K O (zbi i) (gN i):=λH₀ A σ H ρ v d Q Qd r _ h q k=>k _ _ _ (r.setIm h) (.setIm (.refl _ _)) q
def GRs(K:Qa)(O:Ob)(t:TGs)(is:List Nat):Prop :=
 ∀ (H₀:Hp) (A:Nat->Addr->Prop) (σ:St) (H:Hp) (ρ:DSt) (vs:List V) (ds:List PyData) (Q:St->Hp->Prop) (Qd:DSt->Prop),Rep K O H₀ A H σ ρ->flats ds=true->IsAll K (unO O A) H vs ds->gTD is ds ρ Qd ->
   (∀ A' σ' ρ',Rep K O H₀ A' H σ' ρ'->Frm O A H A' H->Qd ρ'->Q σ' H)->t vs σ H Q
theorem zy8:GRs K O gNil []:=λH₀ A σ H ρ vs ds Q Qd r _ i h k=>by
 cases i with
 | nil=>exact⟨rfl,k A σ ρ r .refl h⟩
 | cons _ _=>exact h.elim
theorem zt3{i:Nat}{is:List Nat}{t:TGs}(ht:GRs K O t is):GRs K O (zju (zbi i) t) (i::is):=λH₀ A σ H ρ vs ds Q Qd r fl h q k=>by
 cases h with
 | nil=>exact q.elim
 | cons h1 h2 =>
   rw[flats,Qv] at fl
   have f1:Frm O A H (λj a=>j ≠ i/\A j a) H := .setIm (.refl _ _)
   refine⟨_,_,rfl,ht _ _ _ H _ _ _ _ _ (r.setIm h1) fl.2 (IsAll.flats (TupStay.refl H) h2 fl.2) q λA' σ' ρ' r' f q'=>k A' σ' ρ' r' (f1.trans f) q'⟩
theorem z0h{is:List Nat}{t:TGs}{n:Nat}(hn:is.length=n)(ht:GRs K O t is):GR K O (gTup K n t) (gT is):=λH₀ A σ H ρ v d Q Qd r fl i h k=>by
 obtain⟨ds,rfl,h⟩:=h
 cases i with
 | tuple q is'=>exact⟨_,_,rfl,q,by rw[is'.length,zhr h];exact hn,ht H₀ A σ H ρ _ ds Q Qd r (by simpa[flat] using fl) is' h k⟩
def zf3(g:DG)(gb:DS)(Dd:DEnds):List PyData->DSt->Prop
 | [],ρ=>Dd.nx ρ
 | d::ds,ρ=>flat d=true/\g d ρ λρ2=>gb { Dd with nx:=zf3 g gb Dd ds,ct:=zf3 g gb Dd ds,bk:=Dd.nx } ρ2
abbrev DJ:=DSt->(List PyData->Prop)->Prop
def SrcR(K:Qa)(O:Ob)(wi:TI)(f:DJ):Prop :=
 ∀ (H₀:Hp) (A:Nat->Addr->Prop) (σ:St) (H:Hp) (ρ:DSt) (R:It->Hp->Prop) (Qd:List PyData->Prop),Rep K O H₀ A H σ ρ->f ρ Qd ->
   (∀ (J:It) (H1:Hp) (ds:List PyData) (B:Addr->Prop),Walk K O H H1 J ds B->(∀ a,B a->unO O A a)->Qd ds->R J H1)->wi σ H R
def newJ(f:DI):DJ:=λρ Q=>f ρ λfr ds=>fr=true/\Q ds
theorem zzn{wi:TI}{f:DI}(h:SrcS K O wi f):SrcR K O wi (newJ f):=λH₀ A σ H ρ R Qd r q k=>by
 refine h σ H ρ _ _ r.seen q λJ H1 ds B fr W hfr ⟨e,q1⟩=>k J H1 ds B W (λa b=>⟨(W.hb a b).1,λj z=>?_⟩) q1
 obtain⟨_,⟨xs,q,_⟩,_⟩:=r.own j a z
 rw[hfr e a b] at q;cases q
def forS(f:DJ)(g:DG)(gb:DS):DS:=λDd ρ=>f ρ λds=>zf3 g gb Dd ds ρ
theorem Rep.tupStay{H₀:Hp}{A A2:Nat->Addr->Prop}{H1 H2:Hp}{σ:St}{ρ:DSt}(r:Rep K O H₀ A H1 σ ρ)(f:Frm O A H1 A2 H2):TupStay H1 H2:=λa u hu e=>by
 refine(f a u e ⟨λm=>?_,λj z=>?_⟩).1
 ·have mm:=r.ok.mutb H1 a u r.p e m
  obtain⟨xs,e1|⟨o,e1⟩⟩:=hu
  ·exact mm.1 xs e1
  ·exact mm.2 o _ e1
 ·obtain⟨_,⟨xs,q,ho⟩,_⟩:=r.own j a z
  rw[e] at q
  cases q
  obtain⟨ys,e1|⟨o,e1⟩⟩:=hu
  ·exact(ho ys).1 e1
  ·exact(ho ys).2 o e1
theorem z2d{wi:TI}{tg:TG}{tb:TS}{f:DJ}{g:DG}{gb:DS}(hs:SrcR K O wi f)(hg:GR K O tg g)(hb:SD K O tb gb):SD K O (tFor wi tg tb) (forS f g gb):=λH₀ A σ H ρ D Dd r q P=>by
 refine hs H₀ A σ H ρ _ _ r q λJ H1 ds B W uB go=>?_
 have r1:=r.stp W.st
 have f1:Frm O A H A H1 := .stp W.st
 refine⟨λi m σ2 H2=>m=ds.length - i/\i<=ds.length/\∃ A2 ρ2,Rep K O H₀ A2 H2 σ2 ρ2/\Frm O A H1 A2 H2/\zf3 g gb Dd (ds.drop i) ρ2,⟨ds.length,rfl,QH _,A,ρ,r1,.refl,by simpa using go⟩,?_⟩
 rintro i m σ2 H2 ⟨rfl,hi,A2,ρ2,r2,f2,go2⟩
 have kB:∀ a o,B a->H1 a=some o->H2 a=some o:=λa o b e=>(f2 a o e (uB a b)).1
 have ts:TupStay H1 H2:=r1.tupStay f2
 by_cases hlt:i<ds.length
 ·right
  have hd:ds[i]? = some ds[i]:=Ql hlt
  rw[Zm hlt] at go2
  obtain⟨fl,go2⟩:=go2
  obtain⟨hgo,hy⟩:=W.item H2 i ds[i] kB ts hd (.inl fl)
  refine⟨hgo,λσ' H'=>∃ A' ρ',Rep K O H₀ A' H' σ' ρ'/\Frm O A H1 A' H'/\zf3 g gb Dd (ds.drop (i+1)) ρ',λσ' H' ⟨A',ρ',x1,x2,x3⟩=>⟨ds.length - (i+1),by omega,rfl,hlt,A',ρ',x1,x2,x3⟩,λx H3 y=>?_⟩
  obtain⟨sm,ix⟩:=hy x H3 y
  have st3:Stp O H2 H3 := .same r2.ok sm
  have r3:=r2.stp st3
  refine hg H₀ A2 σ2 H3 ρ2 x ds[i] _ _ r3 fl (Is.flat (TupStay.refl H3) ix fl) go2 λA3 σ3 ρ3 r3' f3 q3=>?_
  have f13:Frm O A H1 A3 H3:=(f2.trans (.stp st3)).trans f3
  refine hb H₀ A3 σ3 H3 ρ3 _ _ r3' q3 ⟨λA' σ' H' ρ' r' f' q'=>⟨A',ρ',r',f13.trans f',q'⟩,λA' σ' H' ρ' r' f' q'=>P.nx A' σ' H' ρ' r' (f1.trans (f13.trans f')) q',λA' σ' H' ρ' r' f' q'=>⟨A',ρ',r',f13.trans f',q'⟩,P.rt⟩
 ·left
  have e:i=ds.length:=by omega
  subst e
  rw[Ys] at go2
  exact⟨W.stop H2 _ kB ts (Qo _),P.nx A2 σ2 H2 ρ2 r2 (f1.trans f2) go2⟩
end
def spO(K:Qa)(φ:Ob->Prop)(n:Nat)(f:List PyData->(R->Prop)->Prop):Sp:=λvs H Q _ =>
 ∃ (O:Ob) (ds:List PyData) (Qr:R->Prop),O.Ok/\φ O/\O.P H/\ds.length=n/\IsAll K (unM O) H vs ds/\f ds Qr/\∀ r,Qr r->∀ v H',Stp O H H'->Out K O H H' v r->Q v H'
def spD(K:Qa)(φ:Ob->Prop)(n:Nat)(f:List PyData->(R->Prop)->Prop):Sp:=λvs H Q _ =>
 ∃ (O:Ob) (ds:List PyData) (ws:List V) (Qr:R->Prop),O.Ok/\φ O/\O.P H/\ds.length=n/\vs=O.v::ws/\IsAll K (unM O) H ws ds/\f ds Qr/\∀ r,Qr r->∀ v H',Stp O H H'->Out K O H H' v r->Q v H'
def zdj(N:List Str)(rs:List DV):DSt:=rs.map some++Qf (N.length - rs.length) none
section
variable {K : Qa} {O : Ob}
theorem zgm{N:List Str}{H:Hp}{vs:List V}{rs:List DV}(ok:O.Ok)(p:O.P H)(hl:vs.length=rs.length)(h:∀ (i:Nat) r,rs[i]? = some r->∃ v,vs[i]? = some v/\((∃ d,r = .im d/\Is K (unM O) H v d)\/(r = .ob/\v=O.v))) :
 Rep K O H (λ_ _=>False) H (L2.start N vs) (zdj N rs):=by
 refine⟨ok,p,p,.refl _ _,λ_ _ _ z=>z.elim,λ_ _ z=>z.elim,λi r e=>?_,?_⟩
 ·unfold zdj at e
  by_cases hi:i<rs.length
  ·rw[QU (by simpa using hi),Qy] at e
   cases q:rs[i]? with
   | none=>rw[q] at e;cases e
   | some r' =>
     rw[q] at e
     have e':r'=r:=Zy (Zy e)
     subst e'
     obtain⟨v,hv,hh⟩:=h i r' q
     refine⟨v,?_,?_⟩
     ·unfold L2.start
      rw[QU (by rw[Qb,hl];exact hi),Qy,hv]
      rfl
     ·rcases hh with ⟨d,rfl,hd⟩|⟨rfl,hd⟩
      ·exact hd.weak λa u=>⟨u,λj z=>z⟩
      ·exact hd
  ·rw[Z6 (by simpa using hi),Z4] at e
   split at e <;> cases e
 ·unfold zdj L2.start
  rw[Qg,Qg,Qb,Qb,QN,QN,hl]
theorem z4s{N:List Str}{t:TS}{g:DS}{H:Hp}{vs:List V}{ds:List PyData}{Q:VK}{Qr:R->Prop}(h:SD K O t g)(ok:O.Ok)(p:O.P H)(ia:IsAll K (unM O) H vs ds)
 (hg:g { nx:=λ_=>Qr (.o .none),rt:=Qr } (zdj N (ds.map .im))) (hQ:∀ r,Qr r->∀ v H',Stp O H H'->Out K O H H' v r->Q v H'):t { nx:=λ_ H'=>Q .non H',rt:=Q } (L2.start N vs) H:=by
 refine h H _ _ H _ _ _ (zgm ok p (by rw[Qb];exact ia.length) λi r e=>?_) hg ⟨λA' σ' H' ρ' r' _ q=>hQ _ q .non H' r'.st Is.none,λA' σ' H' ρ' r' _ q=>q.elim,λA' σ' H' ρ' r' _ q=>q.elim,λH' v r s o q=>hQ r q v H' s o⟩
 rw[Qy] at e
 obtain⟨d,hd,rfl⟩:=QA.mp e
 obtain⟨v,hv,iv⟩:=ia.get hd
 exact⟨v,hv,.inl ⟨d,rfl,iv⟩⟩
theorem z4x{N:List Str}{t:TS}{g:DS}{H:Hp}{ws:List V}{ds:List PyData}{Q:VK}{Qr:R->Prop}(h:SD K O t g)(ok:O.Ok)(p:O.P H)(ia:IsAll K (unM O) H ws ds)
 (hg:g { nx:=λ_=>Qr (.o .none),rt:=Qr } (zdj N (.ob::ds.map .im))) (hQ:∀ r,Qr r->∀ v H',Stp O H H'->Out K O H H' v r->Q v H'):t { nx:=λ_ H'=>Q .non H',rt:=Q } (L2.start N (O.v::ws)) H:=by
 refine h H _ _ H _ _ _ (zgm ok p (by rw[Qm,Qm,Qb,ia.length]) λi r e=>?_) hg ⟨λA' σ' H' ρ' r' _ q=>hQ _ q .non H' r'.st Is.none,λA' σ' H' ρ' r' _ q=>q.elim,λA' σ' H' ρ' r' _ q=>q.elim,λH' v r s o q=>hQ r q v H' s o⟩
 cases i with
 | zero=>cases e;exact⟨O.v,rfl,.inr ⟨rfl,rfl⟩⟩
 | succ i =>
   rw[ZV,Qy] at e
   obtain⟨d,hd,rfl⟩:=QA.mp e
   obtain⟨v,hv,iv⟩:=ia.get hd
   exact⟨v,by rw[ZV];exact hv,.inl ⟨d,rfl,iv⟩⟩
def calD(n:Nat)(f:List PyData->(R->Prop)->Prop)(g:DA):DE:=λρ Q=>g ρ λds=>ds.length=n/\f ds Q
theorem zy0{φ:Ob->Prop}{n:Nat}{f:List PyData->(R->Prop)->Prop}{E:XK}{t:TA}{g:DA}(hφ:φ O)(h:AD K O t g):ED K O (ze0 (spO K φ n f) [] E t) (calD n f g):=λσ H ρ Q Qd S q k=>by
 refine h σ H ρ _ _ S q λvs H1 ds s1 is ⟨hn,q1⟩=>?_
 rw[Z8]
 exact⟨O,ds,Qd,S.ok,hφ,s1.p S.p,hn,is,q1,λr qr v H' s2 o2=>k v H' r (s1.trans s2) (o2.ahead S.ok S.p s1) qr⟩
def calO(i:Nat)(n:Nat)(f:List PyData->(R->Prop)->Prop)(g:DA):DE:=λρ Q=>ρ[i]? = some (some .ob)/\g ρ λds=>ds.length=n/\f ds Q
theorem zvp{φ:Ob->Prop}{i n:Nat}{f:List PyData->(R->Prop)->Prop}{E:XK}{t:TA}{g:DA}(hφ:φ O)(h:AD K O t g):ED K O (ze0 (spD K φ n f) [] E (zbu (tVar i) t)) (calO i n f g):=λσ H ρ Q Qd S q k=>by
 obtain⟨e,q⟩:=q
 obtain⟨v,hv,hh⟩:=S.at_ i _ e
 refine⟨v,hv,?_⟩
 refine h σ H ρ _ _ S q λvs H1 ds s1 is ⟨hn,q1⟩=>?_
 show spD K φ n f ((v::vs) ++ []) H1 Q E
 rw[Z8]
 exact⟨O,ds,vs,Qd,S.ok,hφ,s1.p S.p,hn,by rw[show v=O.v from hh],is,q1,λr qr v H' s2 o2=>k v H' r (s1.trans s2) (o2.ahead S.ok S.p s1) qr⟩
theorem zn9{φ:Ob->Prop}{n:Nat}{f:List PyData->(R->Prop)->Prop}{ps:List Str}(hn:ps.length=n):∀ vs H Q E,spO K φ n f vs H Q E->vs.length=ps.length:=λvs H Q E zz=>by obtain⟨O,ds,_,_,_,_,h,is,_⟩:=zz;rw[is.length,h,hn]
theorem zoh{φ:Ob->Prop}{n:Nat}{f:List PyData->(R->Prop)->Prop}{ps:List Str}(hn:ps.length=n+1):∀ vs H Q E,spD K φ n f vs H Q E->vs.length=ps.length:=λvs H Q E zz=>by obtain⟨O,ds,ws,_,_,_,_,h,e,is,_⟩:=zz;rw[e,Qm,is.length,h,hn]
end
section
variable {X : Cx}
def rEqD(K:Qa)(neg:Bool):R2:=λx y H Q=>∃ F G d e,Is K F H x d/\Is K G H y e/\d.canLay0=true/\e.canLay0=true/\d.depth<=60/\Q (.bl (if neg then !PyData.eqv d e else QM d e)) H
theorem z3k(hu:X.A.units+64<cLine):OpR X (compareOp .Eq) (rEqD X.K false):=by
 intro pins s σ H x y v u Q I rx ry h
 obtain⟨F,G,d,e,i1,i2,h1,h2,h3,q⟩:=h
 obtain⟨as,ra⟩:=i1.reads I rx
 obtain⟨bs,rb⟩:=i2.reads I ry
 exact SeqAt.compareEq_reads ra rb h1 h2 (by omega) ⟨.bl _,H,I,rfl,q⟩
theorem z0p(hu:X.A.units+64<cLine):OpR X (compareOp .NotEq) (rEqD X.K true):=by
 intro pins s σ H x y v u Q I rx ry h
 obtain⟨F,G,d,e,i1,i2,h1,h2,h3,q⟩:=h
 obtain⟨as,ra⟩:=i1.reads I rx
 obtain⟨bs,rb⟩:=i2.reads I ry
 exact SeqAt.compareNe_reads ra rb h1 h2 (by omega) ⟨.bl _,H,I,rfl,q⟩
def rInD(K:Qa)(neg:Bool):R2:=λx y H Q=>∃ F G d es,Is K F H x d/\(Is K G H y (.list es)\/Is K G H y (.tuple es))/\d.canLay0=true/\Z3 es=true/\d.depth<=60 /\
 Q (.bl (if neg then !es.any (λy=>QM y d) else es.any λy=>QM y d)) H
theorem z1y(hu:X.A.units+64<cLine):OpR X (compareOp .In) (rInD X.K false):=by
 intro pins s σ H x y v u Q I rx ry h
 obtain⟨F,G,d,es,i1,i2,h1,h2,h3,q⟩:=h
 obtain⟨as,ra⟩:=i1.reads I rx
 rcases i2 with i2|i2
 ·obtain⟨bs,rb⟩:=i2.reads I ry
  exact SeqAt.in_list_reads rb ra h2 h1 (by omega) ⟨.bl _,H,I,rfl,q⟩
 ·obtain⟨bs,rb⟩:=i2.reads I ry
  exact SeqAt.in_tuple_reads rb ra h2 h1 (by omega) ⟨.bl _,H,I,rfl,q⟩
theorem zrf(hu:X.A.units+64<cLine):OpR X (compareOp .NotIn) (rInD X.K true):=by
 intro pins s σ H x y v u Q I rx ry h
 obtain⟨F,G,d,es,i1,i2,h1,h2,h3,q⟩:=h
 obtain⟨as,ra⟩:=i1.reads I rx
 rcases i2 with i2|i2
 ·obtain⟨bs,rb⟩:=i2.reads I ry
  exact SeqAt.notIn_list_reads rb ra h2 h1 (by omega) ⟨.bl _,H,I,rfl,q⟩
 ·obtain⟨bs,rb⟩:=i2.reads I ry
  exact SeqAt.notIn_tuple_reads rb ra h2 h1 (by omega) ⟨.bl _,H,I,rfl,q⟩
theorem zo1:∀ {bs:List Bool} {us:List Value},Vals (bs.map V.bl) us->us=bs.map Jr
 | [],_,r=>by cases r;rfl
 | b::bs,_,r=>by
   rw[Q2] at r
   cases r with
   | cons h t=>rw[zo1 t,show _=Jr b from h];rfl
theorem zr9{bs:List Bool}:(Jb bs.length).all (λi=>bs[i]?.getD false)=bs.all id:=by
 apply JW.mpr
 rw[Q9,Q9]
 constructor
 ·intro h x hx
  obtain⟨i,hi,e⟩:=List.mem_iff_getElem.mp hx
  have:=h i (by simpa using hi)
  rw[Ql hi] at this
  rw[<- e];simpa using this
 ·intro h i hi
  have hi':i<bs.length:=by simpa using hi
  rw[Ql hi']
  simpa using h _ (QL hi')
def rAll(any:Bool):List V->Hp->VK->Prop:=λxs H Q=>∃ (p:Addr) (bs:List Bool),xs = [.ref p]/\H p=some (.lst (bs.map V.bl))/\Q (.bl (if any then bs.any id else bs.all id)) H
theorem zrk(hc:X.calm=true):CallR X (.builtin "all") (rAll false):=by
 intro pins s σ H xs us Q I r h
 obtain⟨p,bs,rfl,hH,q⟩:=h
 obtain⟨u,rfl,ru⟩:=Vals.one r
 cases ru
 obtain⟨z,its,n,rv,hl,e⟩:=I.lstM hH
 have ei:=zo1 rv
 subst ei
 have pl:s.heap.IsList p (bs.map Jr).toArray:=⟨_,e,rfl,_,rfl⟩
 have hne:p ≠ s.heap.objs.size:=Q8 (Qk e)
 refine call_all_walk (wpAny_pyIter_list pl ?_)
 refine⟨s.heap.objs.size,_,_,_,_,_,λi=>bs[i]?.getD false,rfl,Walks.list (A:=X.A.in1) (I.ok.hd hc) _ p hne (bs.map Jr).toArray,⟨⟨_,Qq _ rfl,rfl,rfl⟩,_,Qc _ e,rfl,_,rfl⟩,?_,λh' tk kk=>?_⟩
 ·intro i v s' Q' E' hv hq
  have hv:(bs.map Jr).toArray[i]? = some v:=hv
  rw[List.getElem?_toArray,Qy] at hv
  obtain⟨b,hb,rfl⟩:=QA.mp hv
  have hq:Q' (bs[i]?.getD false) s':=hq
  rw[hb] at hq
  exact wpAny_truthy_bool hq
 ·have I1:Inv X pins σ H { s with heap:=h',toks:=tk }:=I.kept λb o eb=>kk b o (by simp;exact Q8 (Qk eb)) (Qc _ eb)
  refine⟨.bl _,H,I1,?_,q⟩
  show Jr _=Jr _
  rw[Qx,Qb,zr9]
  rfl
theorem zfz:∀ {ys:List Str} {us:List Value},Vals (ys.map V.str) us->StrsAre us ys
 | [],_,r=>by cases r;exact .nil
 | y::ys,_,r=>by
   rw[Q2] at r
   cases r with
   | cons h t=>obtain⟨tk,rfl⟩:=h;exact .cons y tk (zfz t)
theorem zg5:∀ {ys:List Str} {us:List Value},StrsAre us ys->Vals (ys.map V.str) us
 | _,_,.nil => .nil
 | _,_,.cons y t r => .cons ⟨t,rfl⟩ (zg5 r)
def zlk:V->List V->Hp->VK->Prop:=λx vs H Q=>∃ sep p ys,x = .str sep/\vs = [.ref p]/\H p=some (.lst (ys.map V.str))/\(ys.map (·.length)).sum+ys.length * sep.length<=16777216/\Q (.str (J0 sep ys)) H
theorem zyy:MtM X "str.join" zlk:=by
 intro pins s σ H x vs v us Q I rx rv h
 obtain⟨sep,p,ys,rfl,rfl,hH,hz,q⟩:=h
 obtain⟨t,rfl⟩:=rx
 obtain⟨u,rfl,ru⟩:=rv.one
 cases ru
 obtain⟨z,its,n,r,hl,e⟩:=I.lstM hH
 exact join_list ⟨_,e,rfl,_,rfl⟩ (by simpa using zfz r) hz λt' k=>⟨.str _,H,I.tok _,⟨_,rfl⟩,q⟩
theorem zp1{P:Nat->Value->Prop}{acc:Array Value}{ys:List V}(h:ItemsOf P acc ys.length)(hv:∀ i v,P i v->∃ y,ys[i]? = some y/\RelV y v):Vals ys acc.toList:=by
 have go:∀ (k:Nat) (zs:List V) (l:List Value),zs.length=l.length->(∀ (i:Nat) v,l[i]? = some v->∃ y,zs[i]? = some y/\RelV y v)->Vals zs l:=by
  intro k zs l
  induction l generalizing zs with
  | nil=>intro e _;cases zs with
    | nil=>exact .nil
    | cons _ _=>simp at e
  | cons a l ih=>intro e hh;cases zs with
    | nil=>simp at e
    | cons z zs =>
      obtain⟨y,h1,h2⟩:=hh 0 a rfl
      simp at h1
      subst h1
      exact .cons h2 (ih zs (by simpa using e) λi v ev=>by simpa using hh (i+1) v (by simpa using ev))
 refine go 0 ys acc.toList (by have e:=h.1;simp[e]) λi v e=>hv i v (h.2 i v (by simpa using e))
def zr6:List V->Hp->VK->Prop:=λxs H Q=>∃ x:Str,xs = [.str x]/\x.cps.size<=sizeLine/\∀ l,H l=none->Q (.ref l) (upd H l (.lst (x.cps.toList.map λc=>V.str (sg c))))
theorem zqp(hc:X.calm=true):CallR X (.type "list") zr6:=by
 intro pins s σ H xs us Q I r h
 obtain⟨x,rfl,hz,q⟩:=h
 obtain⟨u,rfl,ru⟩:=Vals.one r
 obtain⟨t,rfl⟩:=ru
 refine call_list_str (I.ok.hd hc) x t (λh' tk acc c kk e it=>?_) hz
 refine⟨.ref _,_,I.laid (a:=s.heap.objs.size) (o := .lst (x.cps.toList.map λc=>V.str (sg c))) kk (Qo _) ?_,rfl,q _ I.fresh⟩
 refine⟨by simpa using hz,acc.toList,c,zp1 (P:=SignAt x) (by simpa using it) λi v hv=>?_,by simpa using e⟩
 obtain⟨cc,uu,h1,rfl⟩:=hv
 exact⟨.str (sg cc),by rw[Qy];simp[h1],⟨uu,rfl⟩⟩
end
def tx(l:List Nat):Str:=⟨l.toArray⟩
theorem zrz(x:Str):tx x.cps.toList=x:=by cases x;simp[tx]
theorem zbd(l:List Nat):(tx l).cps.toList=l:=by simp[tx]
theorem zsb(l:List Nat):(tx l).length=l.length:=by simp[tx,YH]
def cutL{α:Type}(xs:List α)(lo hi:Option Int):List α:=(xs.drop (HT.sIx xs.length 0 lo)).take (HT.sIx xs.length xs.length hi - HT.sIx xs.length 0 lo)
theorem zij(n d:Nat)(v:Int):max (0:Int) (min (if v<0 then v+n else v) n)=((HT.sIx n d (some v):Nat):Int):=by
 rw[<- HT.clip_eq v n d]
 by_cases h:v<0
 ·rw[if_pos h,if_pos h];omega
 ·rw[if_neg h,if_neg h];omega
theorem zn0(lo hi:Option Int)(n:Nat):Y9 lo hi 1 n=(Jb (HT.sIx n n hi - HT.sIx n 0 lo)).map λk=>HT.sIx n 0 lo+k:=by
 have e1:(match lo with|none=>(0:Int)|some i=>max 0 (min (if i<0 then i+(n:Int) else i) n))=((HT.sIx n 0 lo:Nat):Int):=by
  cases lo with
  | none=>rfl
  | some v=>exact zij n 0 v
 have e2:(match hi with|none=>(n:Int)|some i=>max 0 (min (if i<0 then i+(n:Int) else i) n))=((HT.sIx n n hi:Nat):Int):=by
  cases hi with
  | none=>rfl
  | some v=>exact zij n n v
 have e0:Y9 lo hi 1 n=sliceRange ((HT.sIx n 0 lo:Nat):Int) ((HT.sIx n n hi:Nat):Int) 1:=by
  rw[<- e1,<- e2]
  cases lo <;> cases hi <;> rfl
 rw[e0]
 generalize HT.sIx n 0 lo=a
 generalize HT.sIx n n hi=b
 simp only[sliceRange,show((1:Int) > 0)=True from by simp,if_true]
 by_cases hlt:(a:Int)<b
 ·have e3:(((b:Int) - a+1 - 1) / 1).toNat=b - a:=by first|omega|(simp;done)|(simp;omega)
  simp only[hlt,if_true,e3]
  refine Zl λk _=>?_
  omega
 ·have:b - a=0:=by omega
  simp[hlt,this]
theorem zsv{α:Type}(l:List α):∀ (n a:Nat),a+n<=l.length->((Jb n).map λk=>a+k).filterMap (λi=>l[i]?)=(l.drop a).take n
 | 0,_,_=>by simp
 | n+1,a,h=>by
   have hlt:a+n<l.length:=by omega
   rw[List.range_succ,QR,List.filterMap_append,zsv l n a (by omega),List.take_add_one,ZG]
   simp[Ql hlt]
section
variable {X : Cx}
def rSlS:V->Option Int->Option Int->Hp->VK->Prop:=λx lo hi H Q=>∃ z:Str,x = .str z/\z.length<=sizeLine/\Q (.str (tx (cutL z.cps.toList lo hi))) H
theorem z1c:SlR X rSlS:=by
 intro pins s σ H x v vl vu lo hi sl Q I rx hs pl pu h
 obtain⟨z,rfl,hz,q⟩:=h
 obtain⟨t,rfl⟩:=rx
 refine⟨"str", _,PySem.F.slot_str_getitem.lookup,typeIs_str s z t,?_⟩
 have hl:z.cps.toList.length=z.length:=by simp[YH]
 have hi':HT.sIx z.length z.length hi<=z.length:=HT.sIx_le _ _ (Qo _) hi
 have key:∀ l u:Option (Int × Tok),l.map (·.1)=lo->u.map (·.1)=hi->s.heap.IsSlice sl l u none->wpAny (model X.prog X.w) X.A (getItem (.str z t) (.ref sl)) (EP X pins σ Q) X.xe s:=by
  intro l u el eu hsl
  have e:slicePicked z l u none=(Jb (HT.sIx z.length z.length hi - HT.sIx z.length 0 lo)).map λk=>HT.sIx z.length 0 lo+k:=by
   unfold slicePicked
   rw[el,eu]
   exact zn0 lo hi z.length
  have ec:tx (cutL z.cps.toList lo hi)=⟨((slicePicked z l u none).filterMap (z.cps[·]?)).toArray⟩:=by
   rw[e]
   unfold cutL tx
   rw[hl]
   by_cases hij:HT.sIx z.length 0 lo<=HT.sIx z.length z.length hi
   ·have p:=zsv z.cps.toList (HT.sIx z.length z.length hi - HT.sIx z.length 0 lo) (HT.sIx z.length 0 lo) (by rw[hl];omega)
    rw[<- p]
    simp
   ·have:HT.sIx z.length z.length hi - HT.sIx z.length 0 lo=0:=by omega
    rw[this]
    simp
  refine wpAny_getItem_str_slice hsl rfl ?_
  unfold sliceMade
  split
  ·rename_i hc
   have hw:(slicePicked z l u none).length=z.length:=by simpa using hc
   have ex:tx (cutL z.cps.toList lo hi)=z:=by
    rw[e,Qb,QZ] at hw
    unfold cutL
    rw[hl]
    have h0:HT.sIx z.length 0 lo=0\/z.length=0:=by omega
    rcases h0 with h0|h0
    ·rw[h0] at hw ⊢
     rw[YL,J8 (by rw[hl];omega)]
     exact zrz z
    ·have hn:z.cps.toList = []:=ZT (by rw[hl];exact h0)
     rw[hn]
     simp only[List.drop_nil,qV]
     rw[<- hn]
     exact zrz z
   exact⟨.str _,H,I,⟨t,by rw[ex]⟩,q⟩
  ·rw[<- ec]
   have hlen:(tx (cutL z.cps.toList lo hi)).length<=sizeLine:=by
    rw[zsb]
    unfold cutL
    rw[Qz,QD,hl]
    omega
   first
    | exact⟨.str _,H,I.tok _,⟨_,rfl⟩,q⟩
    | exact⟨hlen,.str _,H,I.tok _,⟨_,rfl⟩,q⟩
    | exact λ_=>⟨.str _,H,I.tok _,⟨_,rfl⟩,q⟩
 obtain⟨o,ho,hc,hd⟩:=hs
 cases pl with
 | none=>cases pu with
   | none=>exact key none none rfl rfl ⟨o,ho,hc,hd⟩
   | int j t'=>exact key none (some (j,t')) rfl rfl ⟨o,ho,hc,hd⟩
 | int i ti=>cases pu with
   | none=>exact key (some (i,ti)) none rfl rfl ⟨o,ho,hc,hd⟩
   | int j t'=>exact key (some (i,ti)) (some (j,t')) rfl rfl ⟨o,ho,hc,hd⟩
def zwz(K:Qa):V->Option Int->Option Int->Hp->VK->Prop:=λx lo hi H Q=>∃ a xs,x = .ref a/\SqT K H a xs/\(HT.sIx xs.length 0 lo=0/\HT.sIx xs.length xs.length hi=xs.length)/\Q (.ref a) H
theorem zgj{prog:Program}{w:World}{A:Around}{E:Value->Shared->Prop}{s:Shared}{t sl:Addr}{items:Array Value}{vl vu:Value}{lo hi:Option Int}{Q:Value->Shared->Prop}(ht:IsTup s.heap t items)(hs:s.heap.IsSliceOf sl vl vu .none)(pl:IsPart vl lo)(pu:IsPart vu hi)
 (hw:HT.sIx items.size 0 lo=0/\HT.sIx items.size items.size hi=items.size) (h:Q (.ref t) s):wpAny (model prog w) A (getItem (.ref t) (.ref sl)) Q E s:=by
 obtain⟨os,hos,hcs,hds⟩:=id hs
 have hTs:s.TypeIs (.ref sl) "slice" := ⟨os,hos,hcs⟩
 unfold getItem
 try with_reducible refine wpAny_holding ?_
 first|refine wpAny_bind (wpAny_pure ?_)|skip
 refine wpAny_bind (wpAny_sequenceKey ht.typeIs (by decide) ?_)
 refine wpAny_bind (wpAny_callSpecial?_slot (name:=Qp "__getitem__") ht.typeIs Zp
  (wpAny_call_entry Zp ht.typeIs entry_tuple_getitem ?_ (args_tuple_getitem _ _)))
 show wpAny _ _ (YG (.ref t) >>= _) _ _ s
 refine wpAny_bind (tupleItemsOf_ ht ?_)
 refine wpAny_bind (wpAny_typeOf hTs ?_)
 rw[if_pos (by decide)]
 refine wpAny_bind (HT.sliceApplied_gen hs pl pu ?_)
 have hno:(((HT.sIx items.size 0 lo:Nat):Int) == 0 && (1:Int) == 1 && (HT.sIx items.size items.size hi - HT.sIx items.size 0 lo) == items.size)=true:=by
  rw[hw.1,hw.2]
  simp
 show wpAny _ _ (if(((HT.sIx items.size 0 lo:Nat):Int) == 0 && (1:Int) == 1 && (HT.sIx items.size items.size hi - HT.sIx items.size 0 lo) == items.size)=true then _ else _) _ _ s
 rw[if_pos hno]
 obtain⟨o,ho,hc,n,hd⟩:=id ht
 refine wpAny_bind ?_
 unfold Builtin.Tuple.tupleIsExact
 refine wpAny_bind (wpAny_typeOf ht.typeIs (wpAny_pure ?_))
 show wpAny _ _ (if((JZ "tuple") == (JZ "tuple"))=true then _ else _) _ _ s
 rw[if_pos (by decide)]
 exact wpAny_bind (wpAny_rule (wpAny_pure ⟨_,rfl,wpAny_pure h⟩))
theorem sl_tupW:SlR X (zwz X.K):=by
 intro pins s σ H x v vl vu lo hi sl Q I rx hs pl pu h
 obtain⟨a,xs,rfl,hx,hw,q⟩:=h
 cases rx
 obtain⟨its,r,ht,hz⟩:=I.tuple hx
 have hlen:its.toArray.size=xs.length:=by rw[Qx];exact r.length.symm
 exact⟨"tuple", _,Zp.lookup,ht.typeIs,zgj ht hs pl pu (by rw[hlen];exact hw) ⟨.ref a,H,I,rfl,q⟩⟩
def rSl(K:Qa):V->Option Int->Option Int->Hp->VK->Prop:=λx lo hi H Q=>rSlL K x lo hi H Q\/rSlT K x lo hi H Q\/zwz K x lo hi H Q\/rSlS x lo hi H Q
theorem z1f:SlR X (rSl X.K):=sl_list.or (sl_tup.or (sl_tupW.or z1c))
def ztn(K:Qa):R2:=λx y H Q=>∃ a b ys,x = .ref a/\y = .ref b/\SqT K H a []/\SqT K H b ys/\Q (.ref b) H
theorem zu7:OpR X (binaryOp .Add) (ztn X.K):=by
 intro pins s σ H x y v u Q I rx ry h
 obtain⟨a,b,ys,rfl,rfl,ha,hb,q⟩:=h
 cases rx
 cases ry
 obtain⟨its,r1,p1,_⟩:=I.tuple ha
 obtain⟨its2,r2,p2,_⟩:=I.tuple hb
 cases r1
 obtain⟨⟨cls,dd,data,sl⟩,ho,hc,n,hd⟩:=id p1
 obtain⟨⟨cls2,dd2,data2,sl2⟩,ho2,hc2,n2,hd2⟩:=id p2
 simp only at hc hd hc2 hd2
 subst hc hd hc2 hd2
 exact concat_meets ⟨_,ho,rfl⟩ ⟨_,ho2,rfl⟩ noFill_tuple_add seq_tuple_add Yg Ya (JS _ _)
  (tuple_addW0 a b _ its2.toArray n n2 dd dd2 sl sl2 (by simp)) ⟨ho,ho2,⟨.ref b,H,I,rfl,q⟩⟩
end
section
variable {K : Qa} {O : Ob} {F : Addr → Prop} {H : Hp}
theorem zd8:∀ {vs:List V} {ys:List Str},IsAll K F H vs (ys.map .str)->vs=ys.map V.str
 | _,[],h=>by cases h;rfl
 | _,y::ys,h=>by
   rw[Q2] at h
   cases h with
   | cons h1 h2=>cases h1;rw[zd8 h2];rfl
theorem zh8:∀ {vs:List V} {bs:List Bool},IsAll K F H vs (bs.map .bool)->vs=bs.map V.bl
 | _,[],h=>by cases h;rfl
 | _,y::ys,h=>by
   rw[Q2] at h
   cases h with
   | cons h1 h2=>cases h1;rw[zh8 h2];rfl
theorem zf9:∀ (ys:List Str),IsAll K F H (ys.map V.str) (ys.map .str)
 | [] => .nil
 | y::ys => .cons (.str y) (zf9 ys)
theorem zk7{vs:List V}{ds:List PyData}{i:Int}{d:PyData}(h:IsAll K F H vs ds)(e:atI ds i=some d):∃ v,atI vs i=some v/\Is K F H v d:=by
 unfold atI at e ⊢
 rw[h.length]
 cases q:ixN ds.length i with
 | none=>rw[q] at e;cases e
 | some j =>
   rw[q] at e
   obtain⟨v,hv,iv⟩:=h.get (i:=j) e
   exact⟨v,hv,iv⟩
theorem zgw{vs:List V}{ds:List PyData}(h:IsAll K F H vs ds)(lo hi:Option Int):IsAll K F H (cutV vs lo hi) (cutL ds lo hi):=by
 unfold cutV cutL
 rw[h.length]
 exact(h.drop _).take _
theorem zc5{H:Hp}{p:Addr}{vs:List V}{ds:List PyData}(ok:O.Ok)(hp:H p=none)(h:IsAll K (unM O) H vs ds):Stp O H (upd H p (.lst vs))/\Out K O H (upd H p (.lst vs)) (.ref p) (.n ds):=by
 have s:Stp O H (upd H p (.lst vs)) := .new ok hp _
 exact⟨s,p,vs,rfl,hp,zar,h.stp s (λ_ z=>z) (λ_ z=>z)⟩
theorem zhg{H:Hp}{p:Addr}{vs:List V}{ds:List PyData}(ok:O.Ok)(hp:H p=none)(h:IsAll K (unM O) H vs ds):Stp O H (upd H p (.tup vs))/\Out K O H (upd H p (.tup vs)) (.ref p) (.o (.tuple ds)):=by
 have s:Stp O H (upd H p (.tup vs)) := .new ok hp _
 exact⟨s,Is.tuple (.of zar) (h.stp s (λ_ z=>z) (λ_ z=>z))⟩
def okD(d:PyData):Bool:=d.canLay0 && decide (d.depth<=60)
def eqF(neg:Bool):PyData->PyData->Option R:=λd e=>if(okD d && e.canLay0)=true then some (.o (.bool (if neg then !PyData.eqv d e else QM d e))) else none
theorem zjq(neg:Bool):OpD K O (rEqD K neg) (fn2 (eqF neg)):=λH x y d e Q Qd ok p ix iy ⟨r,hr,q⟩ k=>by
 unfold eqF at hr
 split at hr
 ·rename_i hc
  cases hr
  simp only[Qv,okD,decide_eq_true_eq] at hc
  exact⟨_,_,d,e,ix,iy,hc.1.1,hc.2,hc.1.2,k _ H (.o _) (.refl _ _) (Is.bool _) q⟩
 ·cases hr
def inF(neg:Bool):PyData->PyData->Option R:=λd e=>match d,e with
 | .str x,.str y=>some (.o (.bool (if neg then !(!(QE y x 0 y.length 1).isEmpty) else !(QE y x 0 y.length 1).isEmpty)))
 | d,.list es=>if(okD d && Z3 es)=true then some (.o (.bool (if neg then !es.any (λy=>QM y d) else es.any λy=>QM y d))) else none
 | d,.tuple es=>if(okD d && Z3 es)=true then some (.o (.bool (if neg then !es.any (λy=>QM y d) else es.any λy=>QM y d))) else none
 | _,_=>none
def rInU(K:Qa):R2:=λx y H Q=>(∃ i j,x = .str i/\y = .str j/\Q (.bl (!(QE j i 0 j.length 1).isEmpty)) H)\/rInD K false x y H Q
def zj5(K:Qa):R2:=λx y H Q=>(∃ i j,x = .str i/\y = .str j/\Q (.bl (!(!(QE j i 0 j.length 1).isEmpty))) H)\/rInD K true x y H Q
theorem z0b{X:Cx}(hu:X.A.units+64<cLine):OpR X (compareOp .In) (rInU X.K):=op_in_str.or (z1y hu)
theorem zs4{X:Cx}(hu:X.A.units+64<cLine):OpR X (compareOp .NotIn) (zj5 X.K):=op_notin_str.or (zrf hu)
theorem zoz{neg:Bool}{H:Hp}{x y:V}{d e:PyData}{Q:VK}{Qd:R->Prop}(ix:Is K (unM O) H x d)(iy:Is K (unM O) H y e)(q:fn2 (inF neg) d e Qd)(k:∀ v H' r,Stp O H H'->Out K O H H' v r->Qd r->Q v H') :
 (∃ i j,x = .str i/\y = .str j/\Q (.bl (if neg then !(!(QE j i 0 j.length 1).isEmpty) else !(QE j i 0 j.length 1).isEmpty)) H)\/rInD K neg x y H Q:=by
 obtain⟨r,hr,q⟩:=q
 unfold inF at hr
 split at hr
 ·rename_i a b
  cases ix
  cases iy
  cases hr
  exact .inl ⟨a,b,rfl,rfl,k _ H (.o _) (.refl _ _) (Is.bool _) q⟩
 ·split at hr
  ·rename_i hc
   cases hr
   simp only[Qv,okD,decide_eq_true_eq] at hc
   exact .inr ⟨_,_,_,_,ix,.inl iy,hc.1.1,hc.2,hc.1.2,k _ H (.o _) (.refl _ _) (Is.bool _) q⟩
  ·cases hr
 ·split at hr
  ·rename_i hc
   cases hr
   simp only[Qv,okD,decide_eq_true_eq] at hc
   exact .inr ⟨_,_,_,_,ix,.inr iy,hc.1.1,hc.2,hc.1.2,k _ H (.o _) (.refl _ _) (Is.bool _) q⟩
  ·cases hr
 ·cases hr
theorem ztf:OpD K O (rInU K) (fn2 (inF false)):=λH x y d e Q Qd ok p ix iy q k=>zoz ix iy q k
theorem zsr:OpD K O (zj5 K) (fn2 (inF true)):=λH x y d e Q Qd ok p ix iy q k=>zoz (neg:=true) ix iy q k
def intF(g:Int->Int->PyData):PyData->PyData->Option R
 | .int i,.int j=>some (.o (g i j))
 | _,_=>none
theorem zew{g:Int->Int->V}{G:Int->Int->PyData}(h:∀ i j H,Is K (unM O) H (g i j) (G i j)):OpD K O (rI0 g) (fn2 (intF G)):=λH x y d e Q Qd ok p ix iy ⟨r,hr,q⟩ k=>by
 unfold intF at hr
 split at hr
 ·cases ix
  cases iy
  cases hr
  exact⟨_,_,rfl,rfl,k _ H (.o _) (.refl _ _) (h _ _ H) q⟩
 ·cases hr
theorem zxh:OpD K O (rI0 λi j => .int (i - j)) (fn2 (intF λi j => .int (i - j))):=zew λ_ _ _ => .int _
theorem zri:OpD K O (rI0 λi j => .bl (decide (i<j))) (fn2 (intF λi j => .bool (decide (i<j)))):=zew λ_ _ _ => .bool _
theorem zl8:OpD K O (rI0 λi j => .bl (decide (i<=j))) (fn2 (intF λi j => .bool (decide (i<=j)))):=zew λ_ _ _ => .bool _
theorem zq8:OpD K O (rI0 λi j => .bl (decide (j<i))) (fn2 (intF λi j => .bool (decide (j<i)))):=zew λ_ _ _ => .bool _
theorem z0g:OpD K O (rI0 λi j => .bl (decide (j<=i))) (fn2 (intF λi j => .bool (decide (j<=i)))):=zew λ_ _ _ => .bool _
def isNF(neg:Bool):PyData->PyData->(R->Prop)->Prop:=λd e Q=>e = .none/\Q (.o (.bool (match d with | .none=>!neg|_=>neg)))
theorem Is.non{v:V}{d:PyData}(h:Is K F H v d):decide (v = .non)=(match d with | .none=>true|_=>false):=by cases h <;> rfl
theorem zpb:OpD K O (λx y H Q=>y = .non/\Q (.bl (decide (x = .non))) H) (isNF false):=λH x y d e Q Qd ok p ix iy ⟨e1,q⟩ k=>by
 subst e1
 cases iy
 refine⟨rfl,k _ H (.o _) (.refl _ _) ?_ q⟩
 rw[ix.non]
 cases d <;> exact Is.bool _
theorem znk:OpD K O (λx y H Q=>y = .non/\Q (.bl (!decide (x = .non))) H) (isNF true):=λH x y d e Q Qd ok p ix iy ⟨e1,q⟩ k=>by
 subst e1
 cases iy
 refine⟨rfl,k _ H (.o _) (.refl _ _) ?_ q⟩
 rw[ix.non]
 cases d <;> exact Is.bool _
def zwk(K:Qa):R2:=λx y H Q=>rI0 (λi j => .int (i+j)) x y H Q\/(∃ i j,x = .str i/\y = .str j/\i.length+j.length<=sizeLine/\Q (.str (i++j)) H)\/rCat x y H Q\/zwn K x y H Q\/ztn K x y H Q
theorem zy4{X:Cx}:OpR X (binaryOp .Add) (zwk X.K):=op_add.or (op_add_str.or (op_cat.or (op_catT.or zu7)))
def addF:PyData->PyData->Option R:=λd e=>match d,e with
 | .int i,.int j=>some (.o (.int (i+j)))
 | .str x,.str y=>if x.length+y.length<=sizeLine then some (.o (.str (x++y))) else none
 | .list a,.list b=>if a.length+b.length<=sizeLine then some (.n (a++b)) else none
 | .tuple a,.tuple b=>if a.length+b.length<=sizeLine then some (.o (.tuple (a++b))) else none
 | _,_=>none
theorem zzc:OpD K O (zwk K) (fn2 addF):=λH x y d e Q Qd ok p ix iy ⟨r,hr,q⟩ k=>by
 unfold addF at hr
 split at hr
 ·cases ix
  cases iy
  cases hr
  exact .inl ⟨_,_,rfl,rfl,k _ H (.o _) (.refl _ _) (Is.int _) q⟩
 ·split at hr
  ·rename_i hz
   cases ix
   cases iy
   cases hr
   exact .inr (.inl ⟨_,_,rfl,rfl,hz,k _ H (.o _) (.refl _ _) (Is.str _) q⟩)
  ·cases hr
 ·split at hr
  ·rename_i hz
   cases hr
   cases ix with
   | list f1 h1 s1 =>
     cases iy with
     | list f2 h2 s2 =>
       refine .inr (.inr (.inl ⟨_,_,_,_,rfl,rfl,h1,h2,by rw[s1.length,s2.length];exact hz,λp' hp=>?_⟩))
       obtain⟨a1,a2⟩:=zc5 ok hp (s1.append s2)
       exact k _ _ _ a1 a2 q
  ·cases hr
 ·split at hr
  ·rename_i hz
   cases hr
   cases ix with
   | tuple h1 s1 =>
     cases iy with
     | tuple h2 s2 =>
       rename_i a xs b ys
       cases xs with
       | nil =>
         cases s1
         exact .inr (.inr (.inr (.inr ⟨a,b,ys,rfl,rfl,h1,h2,k _ H (.o _) (.refl _ _) (Is.tuple h2 s2) q⟩)))
       | cons z zs =>
         refine .inr (.inr (.inr (.inl ⟨a,b,_,ys,rfl,rfl,h1,h2,by simp,by rw[s1.length,s2.length];exact hz,λe=>?_,λ_ p' hp=>?_⟩)))
         ·subst e
          cases s2
          rw[Z8] at q
          exact k _ H (.o _) (.refl _ _) (Is.tuple h1 s1) q
         ·obtain⟨a1,a2⟩:=zhg ok hp (s1.append s2)
          exact k _ _ _ a1 a2 q
  ·cases hr
 ·cases hr
def idxF:PyData->PyData->Option R:=λd e=>match d,e with
 | .list ds,.int i=>(atI ds i).map .o
 | .tuple ds,.int i=>(atI ds i).map .o
 | .str x,.int i=>if x.length<=sizeLine then(atI x.cps.toList i).map λc => .o (.str (sg c)) else none
 | _,_=>none
theorem zx1:OpD K O (rIx K) (fn2 idxF):=λH x y d e Q Qd ok p ix iy ⟨r,hr,q⟩ k=>by
 unfold idxF at hr
 split at hr
 ·obtain⟨z,hz,rfl⟩:=QA.mp hr
  cases iy
  cases ix with
  | list f1 h1 s1 =>
    obtain⟨v,hv,iv⟩:=zk7 s1 hz
    exact .inl ⟨_,_,_,v,rfl,rfl,.of h1,hv,k v H (.o z) (.refl _ _) iv q⟩
 ·obtain⟨z,hz,rfl⟩:=QA.mp hr
  cases iy
  cases ix with
  | tuple h1 s1 =>
    obtain⟨v,hv,iv⟩:=zk7 s1 hz
    exact .inr (.inl ⟨_,_,_,v,rfl,rfl,h1,hv,k v H (.o z) (.refl _ _) iv q⟩)
 ·split at hr
  ·rename_i hl
   obtain⟨c,hc,rfl⟩:=QA.mp hr
   cases iy
   cases ix
   exact .inr (.inr ⟨_,_,c,rfl,rfl,hl,hc,k _ H (.o _) (.refl _ _) (Is.str _) q⟩)
  ·cases hr
 ·cases hr
abbrev DO:=DSt->(Option Int->Prop)->Prop
def OD(K:Qa)(O:Ob)(t:TO)(f:DO):Prop :=
 ∀ (σ:St) (H:Hp) (ρ:DSt) (Q:Option Int->Hp->Prop) (Qd:Option Int->Prop),Seen K O H σ ρ->f ρ Qd->(∀ o H',Stp O H H'->Qd o->Q o H')->t σ H Q
def noO:DO:=λ_ Q=>Q none
def zv4(f:DE):DO:=λρ Q=>f ρ λr=>∃ i,r.d = .int i/\Q (some i)
theorem zyb:OD K O zon noO:=λσ H ρ Q Qd S h k=>k none H (.refl _ _) h
theorem zyj{t:TE}{f:DE}(h:ED K O t f):OD K O (zw7 t) (zv4 f):=λσ H ρ Q Qd S hf k=>by
 refine h σ H ρ _ _ S hf λv H1 r s1 o1 ⟨i,e,q⟩=>?_
 have iv:=o1.is S.ok S.p
 rw[e] at iv
 cases iv
 exact⟨i,rfl,k (some i) H1 s1 q⟩
def slcF(lo hi:Option Int):PyData->Option R
 | .list ds=>some (.n (cutL ds lo hi))
 | .tuple ds=>some (.o (.tuple (cutL ds lo hi)))
 | .str x=>if x.length<=sizeLine then some (.o (.str (tx (cutL x.cps.toList lo hi)))) else none
 | _=>none
def slD(f:DE)(a b:DO):DE:=λρ Q=>f ρ λr=>a ρ λlo=>b ρ λhi=>∃ s,slcF lo hi r.d=some s/\Q s
theorem zvi{t:TE}{tl th:TO}{f:DE}{a b:DO}(h:ED K O t f)(ha:OD K O tl a)(hb:OD K O th b):ED K O (tSl (rSl K) t tl th) (slD f a b):=λσ H ρ Q Qd S hf k=>by
 refine h σ H ρ _ _ S hf λv H1 r s1 o1 q1=>?_
 refine ha σ H1 ρ _ _ (S.stp s1) q1 λlo H2 s2 q2=>?_
 refine hb σ H2 ρ _ _ ((S.stp s1).stp s2) q2 λhi H3 s3 ⟨s,hr,q⟩=>?_
 have st:=(s1.trans s2).trans s3
 have iv:Is K (unM O) H3 v r.d:=Is.stp (s2.trans s3) (λ_ z=>z) (λ_ z=>z) (o1.is S.ok S.p)
 revert hr
 generalize r.d=d at iv
 intro hr
 unfold slcF at hr
 split at hr
 ·cases hr
  cases iv with
  | list f1 h1 z1 =>
    refine .inl ⟨_,_,rfl,.of h1,λp hp=>?_⟩
    obtain⟨a1,a2⟩:=zc5 S.ok hp (zgw z1 lo hi)
    exact k _ _ _ (st.trans a1) (Out.ahead S.ok S.p st a2) q
 ·cases hr
  cases iv with
  | tuple h1 z1 =>
    rename_i a' xs
    by_cases hw:HT.sIx xs.length 0 lo=0/\HT.sIx xs.length xs.length hi=xs.length
    ·refine .inr (.inr (.inl ⟨a',xs,rfl,h1,hw,k _ H3 (.o _) st ?_ q⟩))
     have e:cutV xs lo hi=xs:=by
      unfold cutV
      rw[hw.1,hw.2,YL,Nat.sub_zero,jg]
     have z2:=zgw z1 lo hi
     rw[e] at z2
     exact Is.tuple h1 z2
    ·refine .inr (.inl ⟨a',xs,rfl,h1,hw,λp hp=>?_⟩)
     obtain⟨a1,a2⟩:=zhg S.ok hp (zgw z1 lo hi)
     exact k _ _ _ (st.trans a1) (Out.ahead S.ok S.p st a2) q
 ·split at hr
  ·rename_i hl
   cases hr
   cases iv
   exact .inr (.inr (.inr ⟨_,rfl,hl,k _ H3 (.o _) st (Is.str _) q⟩))
  ·cases hr
 ·cases hr
def lenF:List PyData->Option R
 | [.str x]=>if x.length<=sizeLine then some (.o (.int x.length)) else none
 | [.list ds]=>some (.o (.int ds.length))
 | [.tuple ds]=>some (.o (.int ds.length))
 | _=>none
theorem zbc{vs:List V}{d:PyData}(h:IsAll K F H vs [d]):∃ v,vs = [v]/\Is K F H v d:=by
 cases h with
 | cons h1 h2=>cases h2;exact⟨_,rfl,h1⟩
theorem z1q:zed K O (λxs H Q=>∃ x n,xs = [x]/\LenV K x H n/\Q (.int n) H) (fn1 lenF):=λH vs ds Q Qd ok p is ⟨r,hr,q⟩ k=>by
 unfold lenF at hr
 split at hr
 ·split at hr
  ·rename_i hl
   obtain⟨v,rfl,iv⟩:=zbc is
   cases iv
   cases hr
   exact⟨_,_,rfl,⟨hl,rfl⟩,k _ H (.o _) (.refl _ _) (Is.int _) q⟩
  ·cases hr
 ·obtain⟨v,rfl,iv⟩:=zbc is
  cases hr
  cases iv with
  | list f1 h1 s1=>exact⟨_,_,rfl,.inl ⟨_,.of h1,s1.length.symm⟩,k _ H (.o _) (.refl _ _) (Is.int _) q⟩
 ·obtain⟨v,rfl,iv⟩:=zbc is
  cases hr
  cases iv with
  | tuple h1 s1=>exact⟨_,_,rfl,.inr ⟨_,h1,s1.length.symm⟩,k _ H (.o _) (.refl _ _) (Is.int _) q⟩
 ·cases hr
def allD(any:Bool):List PyData->(R->Prop)->Prop:=λds Q=>∃ bs:List Bool,ds = [.list (bs.map .bool)]/\Q (.o (.bool (if any then bs.any id else bs.all id)))
theorem z0o(any:Bool):zed K O (rAll any) (allD any):=λH vs ds Q Qd ok p is ⟨bs,e,q⟩ k=>by
 subst e
 obtain⟨v,rfl,iv⟩:=zbc is
 cases iv with
 | list f1 h1 s1 =>
   rw[zh8 s1] at h1
   exact⟨_,bs,rfl,h1,k _ H (.o _) (.refl _ _) (Is.bool _) q⟩
def zr0(K:Qa):List V->Hp->VK->Prop:=λxs H Q=>zr6 xs H Q\/(∃ p ys,xs = [.ref p]/\(SqL K H p ys\/SqT K H p ys)/\∀ l,H l=none->Q (.ref l) (upd H l (.lst ys)))
theorem zql{X:Cx}(hc:X.calm=true):CallR X (.type "list") (zr0 X.K):=(zqp hc).or zg1
def zqq:List PyData->Option R
 | [.str x]=>if x.length<=sizeLine then some (.n (sgs x)) else none
 | [.list ds]=>some (.n ds)
 | [.tuple ds]=>some (.n ds)
 | _=>none
theorem ztv(x:Str):IsAll K F H (x.cps.toList.map λc=>V.str (sg c)) (sgs x):=by
 have e:=zf9 (K:=K) (F:=F) (H:=H) (x.cps.toList.map sg)
 rw[QB,QB] at e
 exact e
theorem zyt:zed K O (zr0 K) (fn1 zqq):=λH vs ds Q Qd ok p is ⟨r,hr,q⟩ k=>by
 unfold zqq at hr
 split at hr
 ·split at hr
  ·rename_i hl
   obtain⟨v,rfl,iv⟩:=zbc is
   cases iv
   cases hr
   refine .inl ⟨_,rfl,hl,λl hl=>?_⟩
   obtain⟨a1,a2⟩:=zc5 (K:=K) ok hl (ztv _)
   exact k _ _ _ a1 a2 q
  ·cases hr
 ·obtain⟨v,rfl,iv⟩:=zbc is
  cases hr
  cases iv with
  | list f1 h1 s1 =>
    refine .inr ⟨_,_,rfl,.inl (.of h1),λl hl=>?_⟩
    obtain⟨a1,a2⟩:=zc5 ok hl s1
    exact k _ _ _ a1 a2 q
 ·obtain⟨v,rfl,iv⟩:=zbc is
  cases hr
  cases iv with
  | tuple h1 s1 =>
    refine .inr ⟨_,_,rfl,.inr h1,λl hl=>?_⟩
    obtain⟨a1,a2⟩:=zc5 ok hl s1
    exact k _ _ _ a1 a2 q
 ·cases hr
def tupF:List PyData->Option R
 | [.list ds]=>some (.o (.tuple ds))
 | [.tuple ds]=>some (.o (.tuple ds))
 | _=>none
theorem zt9:zed K O (λxs H Q=>∃ p ys,xs = [.ref p]/\((SqL K H p ys/\∀ l,H l=none->Q (.ref l) (upd H l (.tup ys)))\/(SqT K H p ys/\Q (.ref p) H))) (fn1 tupF):=λH vs ds Q Qd ok p is ⟨r,hr,q⟩ k=>by
 unfold tupF at hr
 split at hr
 ·obtain⟨v,rfl,iv⟩:=zbc is
  cases hr
  cases iv with
  | list f1 h1 s1 =>
    refine⟨_,_,rfl,.inl ⟨.of h1,λl hl=>?_⟩⟩
    obtain⟨a1,a2⟩:=zhg ok hl s1
    exact k _ _ _ a1 a2 q
 ·obtain⟨v,rfl,iv⟩:=zbc is
  cases hr
  cases iv with
  | tuple h1 s1=>exact⟨_,_,rfl,.inr ⟨h1,k _ H (.o _) (.refl _ _) (Is.tuple h1 s1) q⟩⟩
 ·cases hr
def zwr(fo:DE)(fa:DE):DE:=λρ Q=>fo ρ λr0=>∃ sep,r0.d = .str sep/\fa ρ λr=>∃ ys:List Str,r.d = .list (ys.map .str)/\(ys.map (·.length)).sum+ys.length * sep.length<=16777216/\Q (.o (.str (J0 sep ys)))
theorem zw9{to ta:TE}{fo fa:DE}(ho:ED K O to fo)(ha:ED K O ta fa):ED K O (tBM K "str" zlk to (zbu ta tNil)) (zwr fo fa):=λσ H ρ Q Qd S hf k=>by
 refine ho σ H ρ _ _ S hf λv H1 r0 s1 o1 ⟨sep,e0,q1⟩=>?_
 have i0:=o1.is S.ok S.p
 rw[e0] at i0
 cases i0
 refine⟨rfl,?_⟩
 refine ha σ H1 ρ _ _ (S.stp s1) q1 λw H2 r s2 o2 ⟨ys,e,hz,q⟩=>?_
 have i1:=o2.is S.ok (s1.p S.p)
 rw[e] at i1
 cases i1 with
 | list f1 h1 z1 =>
   rw[zd8 z1] at h1
   exact⟨sep,_,ys,rfl,rfl,h1,hz,k _ H2 (.o _) (s1.trans s2) (Is.str _) q⟩
end
structure Ctx3 {ι:Type} (P:Program) (w:World) (K:Qa) (mg:Str->Option Value) (base:Heap) (k:Nat) (X:ι->Cx):Prop where
 hP:∀ i,(X i).prog=P
 hw:∀ i,(X i).w=w
 hK:∀ i,(X i).K=K
 hmg:∀ i,(X i).mg=mg
 hb:∀ i,(X i).base=base
 calm:∀ i,(X i).calm=true
 room:∀ i,Room k (X i).A
 xe:∀ i,(X i).xe=λ_ _=>False
def E3{ι κ:Type}(K:Qa)(X:ι->Cx)(O:κ->Ob)(e:Expr)(f:DE):Prop:=∃ t,(∀ i,PE (X i) e t)/\∀ j,ED K (O j) t f
def T3{ι κ:Type}(K:Qa)(X:ι->Cx)(O:κ->Ob)(e:Expr)(f:DT):Prop:=∃ t,(∀ i,PT (X i) e t)/\∀ j,TD K (O j) t f
def W3{ι κ:Type}(K:Qa)(X:ι->Cx)(O:κ->Ob)(e:Expr)(f:DT):Prop:=∃ t,(∀ i,PW (X i) e t)/\∀ j,TD K (O j) t f
def A3{ι κ:Type}(K:Qa)(X:ι->Cx)(O:κ->Ob)(es:List Expr)(f:DA):Prop:=∃ t,(∀ i,PA (X i) es t)/\∀ j,AD K (O j) t f
def I3{ι κ:Type}(K:Qa)(X:ι->Cx)(O:κ->Ob)(tg e:Expr)(f:DI):Prop:=∃ t,(∀ i,PI (X i) tg e t)/\∀ j,SrcS K (O j) t f
def J3{ι κ:Type}(K:Qa)(X:ι->Cx)(O:κ->Ob)(tg e:Expr)(f:DJ):Prop:=∃ t,(∀ i,PI (X i) tg e t)/\∀ j,SrcR K (O j) t f
def S3{ι κ:Type}(K:Qa)(X:ι->Cx)(O:κ->Ob)(s:Stmt)(g:DS):Prop:=∃ t,(∀ i,PS (X i) s t)/\∀ j,SD K (O j) t g
def Ss3{ι κ:Type}(K:Qa)(X:ι->Cx)(O:κ->Ob)(s:List Stmt)(g:DS):Prop:=∃ t,(∀ i,PSs (X i) s t)/\∀ j,SD K (O j) t g
def O3{ι κ:Type}(K:Qa)(X:ι->Cx)(O:κ->Ob)(e:Option Expr)(f:DO):Prop:=∃ t,(∀ i,PO (X i) e t)/\∀ j,OD K (O j) t f
def G3{ι:Type}(K:Qa)(X:ι->Cx)(h:Nat)(tg:Expr)(g:DG):Prop:=∃ t,(∀ i,PG (X i) tg t)/\(∀ O:Ob,GS K O t g)/\(∀ O:Ob,GR K O t g)/\OwnG h t
section
variable {ι κ : Type} {P : Program} {w : World} {K : Qa} {mg : Str → Option Value} {base : Heap} {k : Nat} {X : ι → Cx} {O : κ → Ob} {a b c : Expr} {fa fb fc : DE} {pos : Pos}
theorem zab(n:Nat){x:Str}(hN:∀ i,(X i).N[n]? = some x:=by intro i;rfl)(hv:∀ i,Vis (X i).env.scope x:=by intro i;first|exact Or.inl rfl|exact Or.inr (Or.inl rfl)|exact Or.inr (Or.inr rfl))
 (hd:(x == ("__debug__" : Str))=false:=by decide) (hcd:(x == ("__classdict__" : Str))=false:=by decide):E3 K X O (.Name x pos) (vD n):=⟨_,λi=>zap (hN i) (hv i) hd hcd,λj=>z2j⟩
theorem zae{n:Int}{j:Nat}:E3 K X O (.Constant (.int n) j pos) (cD (.int n)):=⟨_,λi=>zat,λj=>z4b⟩
theorem zam{x:Str}{j:Nat}:E3 K X O (.Constant (.str x) j pos) (cD (.str x)):=⟨_,λi=>z2f,λj=>z3p⟩
theorem e_bl{x:Bool}{j:Nat}:E3 K X O (.Constant (.bool x) j pos) (cD (.bool x)):=⟨_,λi=>z5m,λj=>z4j⟩
theorem zcr{j:Nat}:E3 K X O (.Constant .none j pos) (cD .none):=⟨_,λi=>zs9,λj=>z1h⟩
theorem e_op{op:Operator}{r:R2}{F:PyData->PyData->(R->Prop)->Prop}(ho:∀ i,OpR (X i) (binaryOp op) r)(hd:∀ j,OpD K (O j) r F)(ha:E3 K X O a fa)(hb:E3 K X O b fb):E3 K X O (.BinOp a op b pos) (opDE F fa fb) :=
 let ⟨_,p1,d1⟩:=ha;let ⟨_,p2,d2⟩:=hb; ⟨_,λi=>zbf (ho i) (p1 i) (p2 i),λj=>zlp (hd j) (d1 j) (d2 j)⟩
theorem zas(C:Ctx3 P w K mg base k X)(ha:E3 K X O a fa)(hb:E3 K X O b fb):E3 K X O (.BinOp a .Add b pos) (opDE (fn2 addF) fa fb):=e_op (λi=>by have h:=zy4 (X:=X i);rw[C.hK] at h;exact h) (λ_=>zzc) ha hb
theorem zwg(ha:E3 K X O a fa)(hb:E3 K X O b fb):E3 K X O (.BinOp a .Sub b pos) (opDE (fn2 (intF λi j => .int (i - j))) fa fb):=e_op (λi=>z0m) (λ_=>zxh) ha hb
theorem zhw{op:CmpOp}{r:R2}{F:PyData->PyData->(R->Prop)->Prop}(ho:∀ i,OpR (X i) (compareOp op) r)(hd:∀ j,OpD K (O j) r F)(ha:E3 K X O a fa)(hb:E3 K X O b fb)(hm:behindInMarks op b=false):E3 K X O (.Compare a [op] [b] pos) (opDE F fa fb) :=
 let ⟨_,p1,d1⟩:=ha;let ⟨_,p2,d2⟩:=hb; ⟨_,λi=>zxb (ho i) (p1 i) (p2 i) hm,λj=>zlp (hd j) (d1 j) (d2 j)⟩
theorem zdw{op:CmpOp}{r:R2}{F:PyData->PyData->(R->Prop)->Prop}(ho:∀ i,OpR (X i) (compareOp op) r)(hd:∀ j,OpD K (O j) r F)(ha:E3 K X O a fa)(hb:E3 K X O b fb)(hm:behindInMarks op b=false):T3 K X O (.Compare a [op] [b] pos) (bD (opDE F fa fb)) :=
 let ⟨_,p1,d1⟩:=ha;let ⟨_,p2,d2⟩:=hb; ⟨_,λi=>zeh (ho i) (p1 i) (p2 i) hm,λj=>zs5 (zlp (hd j) (d1 j) (d2 j))⟩
theorem zv1(C:Ctx3 P w K mg base k X):∀ i,OpR (X i) (compareOp .Eq) (rEqD K false):=λi=>by have h:=z3k (X:=X i) (C.room i).units;rw[C.hK] at h;exact h
theorem zws(C:Ctx3 P w K mg base k X):∀ i,OpR (X i) (compareOp .NotEq) (rEqD K true):=λi=>by have h:=z0p (X:=X i) (C.room i).units;rw[C.hK] at h;exact h
theorem zwf(C:Ctx3 P w K mg base k X):∀ i,OpR (X i) (compareOp .In) (rInU K):=λi=>by have h:=z0b (X:=X i) (C.room i).units;rw[C.hK] at h;exact h
theorem zuy(C:Ctx3 P w K mg base k X):∀ i,OpR (X i) (compareOp .NotIn) (zj5 K):=λi=>by have h:=zs4 (X:=X i) (C.room i).units;rw[C.hK] at h;exact h
theorem e_eq(C:Ctx3 P w K mg base k X)(ha:E3 K X O a fa)(hb:E3 K X O b fb):E3 K X O (.Compare a [.Eq] [b] pos) (opDE (fn2 (eqF false)) fa fb):=zhw (zv1 C) (λ_=>zjq false) ha hb (zbm b)
theorem e_ne(C:Ctx3 P w K mg base k X)(ha:E3 K X O a fa)(hb:E3 K X O b fb):E3 K X O (.Compare a [.NotEq] [b] pos) (opDE (fn2 (eqF true)) fa fb):=zhw (zws C) (λ_=>zjq true) ha hb (zbm b)
theorem e_gt(ha:E3 K X O a fa)(hb:E3 K X O b fb):E3 K X O (.Compare a [.Gt] [b] pos) (opDE (fn2 (intF λi j => .bool (decide (j<i)))) fa fb):=zhw (λi=>zlj) (λ_=>zq8) ha hb (zbm b)
theorem e_in(C:Ctx3 P w K mg base k X)(ha:E3 K X O a fa)(hb:E3 K X O b fb)(hm:behindInMarks .In b=false:=by rfl):E3 K X O (.Compare a [.In] [b] pos) (opDE (fn2 (inF false)) fa fb):=zhw (zwf C) (λ_=>ztf) ha hb hm
theorem e_is(ha:E3 K X O a fa)(hb:E3 K X O b fb):E3 K X O (.Compare a [.Is] [b] pos) (opDE (isNF false) fa fb):=zhw (λi=>zmy) (λ_=>zpb) ha hb (zbm b)
theorem zzl(ha:E3 K X O a fa)(hb:E3 K X O b fb):E3 K X O (.Compare a [.IsNot] [b] pos) (opDE (isNF true) fa fb):=zhw (λi=>zow) (λ_=>znk) ha hb (zbm b)
theorem t_eq(C:Ctx3 P w K mg base k X)(ha:E3 K X O a fa)(hb:E3 K X O b fb):T3 K X O (.Compare a [.Eq] [b] pos) (bD (opDE (fn2 (eqF false)) fa fb)):=zdw (zv1 C) (λ_=>zjq false) ha hb (zbm b)
theorem t_ne(C:Ctx3 P w K mg base k X)(ha:E3 K X O a fa)(hb:E3 K X O b fb):T3 K X O (.Compare a [.NotEq] [b] pos) (bD (opDE (fn2 (eqF true)) fa fb)):=zdw (zws C) (λ_=>zjq true) ha hb (zbm b)
theorem t_lt(ha:E3 K X O a fa)(hb:E3 K X O b fb):T3 K X O (.Compare a [.Lt] [b] pos) (bD (opDE (fn2 (intF λi j => .bool (decide (i<j)))) fa fb)):=zdw (λi=>zp7) (λ_=>zri) ha hb (zbm b)
theorem t_gt(ha:E3 K X O a fa)(hb:E3 K X O b fb):T3 K X O (.Compare a [.Gt] [b] pos) (bD (opDE (fn2 (intF λi j => .bool (decide (j<i)))) fa fb)):=zdw (λi=>zlj) (λ_=>zq8) ha hb (zbm b)
theorem t_ge(ha:E3 K X O a fa)(hb:E3 K X O b fb):T3 K X O (.Compare a [.GtE] [b] pos) (bD (opDE (fn2 (intF λi j => .bool (decide (j<=i)))) fa fb)):=zdw (λi=>zv8) (λ_=>z0g) ha hb (zbm b)
theorem t_in(C:Ctx3 P w K mg base k X)(ha:E3 K X O a fa)(hb:E3 K X O b fb)(hm:behindInMarks .In b=false:=by rfl):T3 K X O (.Compare a [.In] [b] pos) (bD (opDE (fn2 (inF false)) fa fb)):=zdw (zwf C) (λ_=>ztf) ha hb hm
theorem zzh(C:Ctx3 P w K mg base k X)(ha:E3 K X O a fa)(hb:E3 K X O b fb)(hm:behindInMarks .NotIn b=false:=by rfl):T3 K X O (.Compare a [.NotIn] [b] pos) (bD (opDE (fn2 (inF true)) fa fb)):=zdw (zuy C) (λ_=>zsr) ha hb hm
theorem t_is(ha:E3 K X O a fa)(hb:E3 K X O b fb):T3 K X O (.Compare a [.Is] [b] pos) (bD (opDE (isNF false) fa fb)):=zdw (λi=>zmy) (λ_=>zpb) ha hb (zbm b)
theorem zyc(ha:E3 K X O a fa)(hb:E3 K X O b fb):T3 K X O (.Compare a [.IsNot] [b] pos) (bD (opDE (isNF true) fa fb)):=zdw (λi=>zow) (λ_=>znk) ha hb (zbm b)
variable {ft fu : DT} {rest : List Expr}
theorem zb8(ha:E3 K X O a fa)(he:∀ i whole,isTrue a (X i).env whole=(do let v <- whole;standAt a.pos;holding [v] (truthy v)):=by intro _ _;rfl):T3 K X O a (bD fa):=let ⟨_,p,d⟩:=ha; ⟨_,λi=>z1a (p i) (he i),λj=>zyr (d j)⟩
theorem zc2(h:T3 K X O a ft):T3 K X O (.UnaryOp .Not a pos) (notT ft):=let ⟨_,p,d⟩:=h; ⟨_,λi=>z4d (p i),λj=>z3m (d j)⟩
theorem zjn(h:T3 K X O a ft):W3 K X O (.BoolOp .And [a] pos) ft:=let ⟨_,p,d⟩:=h; ⟨_,λi=>zxe (p i),d⟩
theorem zcf(h:T3 K X O a ft):W3 K X O (.BoolOp .Or [a] pos) ft:=let ⟨_,p,d⟩:=h; ⟨_,λi=>z0e (p i),d⟩
theorem zlm(h:T3 K X O a ft)(h':W3 K X O (.BoolOp .And (b::rest) pos) fu):W3 K X O (.BoolOp .And (a::b::rest) pos) (andT ft fu):=let ⟨_,p,d⟩:=h;let ⟨_,p2,d2⟩:=h'; ⟨_,λi=>z0f (p i) (p2 i),λj=>z1j (d j) (d2 j)⟩
theorem w_or(h:T3 K X O a ft)(h':W3 K X O (.BoolOp .Or (b::rest) pos) fu):W3 K X O (.BoolOp .Or (a::b::rest) pos) (orT ft fu):=let ⟨_,p,d⟩:=h;let ⟨_,p2,d2⟩:=h'; ⟨_,λi=>z5c (p i) (p2 i),λj=>z4u (d j) (d2 j)⟩
theorem t_w(h:W3 K X O a ft):T3 K X O a ft:=let ⟨_,p,d⟩:=h; ⟨_,λi=>(p i).pt,d⟩
theorem zf4{op:BoolOp}(h:E3 K X O a fa):E3 K X O (.BoolOp op [a] pos) fa:=let ⟨_,p,d⟩:=h; ⟨_,λi=>z1g (p i),d⟩
theorem zea(h:E3 K X O a fa)(h':E3 K X O (.BoolOp .And (b::rest) pos) fb):E3 K X O (.BoolOp .And (a::b::rest) pos) (andV fa fb):=let ⟨_,p,d⟩:=h;let ⟨_,p2,d2⟩:=h'; ⟨_,λi=>z1r (p i) (p2 i),λj=>zxn (d j) (d2 j)⟩
theorem e_or(h:E3 K X O a fa)(h':E3 K X O (.BoolOp .Or (b::rest) pos) fb):E3 K X O (.BoolOp .Or (a::b::rest) pos) (orV fa fb):=let ⟨_,p,d⟩:=h;let ⟨_,p2,d2⟩:=h'; ⟨_,λi=>z4q (p i) (p2 i),λj=>z1k (d j) (d2 j)⟩
theorem zw1(h:E3 K X O a fa):E3 K X O (.UnaryOp .Not a pos) (notV fa):=let ⟨_,p,d⟩:=h; ⟨_,λi=>z1b (p i),λj=>zyq (d j)⟩
theorem e_if(hc:T3 K X O c ft)(ha:E3 K X O a fa)(hb:E3 K X O b fb):E3 K X O (.IfExp c a b pos) (ifD ft fa fb):=let ⟨_,p,d⟩:=hc;let ⟨_,p1,d1⟩:=ha;let ⟨_,p2,d2⟩:=hb; ⟨_,λi=>zu3 (p i) (p1 i) (p2 i),λj=>z4y (d j) (d1 j) (d2 j)⟩
variable {es : List Expr} {ga : DA}
theorem zac:A3 K X O [] aNil:=⟨_,λi=>zcl,λj=>z2s⟩
theorem zaa(ha:E3 K X O a fa)(hr:A3 K X O es ga)(hs:∀ i,starEach (a::es) (X i).env=(false,eval a (X i).env)::starEach es (X i).env:=by intro i;rfl):A3 K X O (a::es) (ze6 fa ga):=let ⟨_,p,d⟩:=ha;let ⟨_,p2,d2⟩:=hr; ⟨_,λi=>zbo (p i) (p2 i) (hs i),λj=>zxq (d j) (d2 j)⟩
theorem za0{n:Nat}(h:A3 K X O es ga):E3 K X O (.Tuple es n pos) (tupD ga):=let ⟨_,p,d⟩:=h; ⟨_,λi=>zte (p i),λj=>z2o (d j)⟩
theorem za5(h:A3 K X O es ga):E3 K X O (.List es pos) (lstD ga):=let ⟨_,p,d⟩:=h; ⟨_,λi=>zta (p i),λj=>z0y (d j)⟩
theorem zaj(C:Ctx3 P w K mg base k X)(ha:E3 K X O a fa)(hb:E3 K X O b fb)(hs:zo0 b:=by intro _ _;rfl):E3 K X O (.Subscript a b pos) (opDE (fn2 idxF) fa fb) :=
 let ⟨_,p1,d1⟩:=ha;let ⟨_,p2,d2⟩:=hb; ⟨tOp (rIx K) _ _,λi=>by have h:=zb1 (pos:=pos) (z2p (X:=X i)) (p1 i) (p2 i) hs;rw[C.hK] at h;exact h,λj=>zlp zx1 (d1 j) (d2 j)⟩
theorem za8:O3 K X O none noO:=⟨_,λi=>zx9,λj=>zyb⟩
theorem za2(ha:E3 K X O a fa):O3 K X O (some a) (zv4 fa):=let ⟨_,p,d⟩:=ha; ⟨_,λi=>zyf (p i),λj=>zyj (d j)⟩
theorem zay(C:Ctx3 P w K mg base k X){lo hi:Option Expr}{fl fh:DO}{p2:Pos}(ha:E3 K X O a fa)(hl:O3 K X O lo fl)(hh:O3 K X O hi fh):E3 K X O (.Subscript a (.Slice lo hi none p2) pos) (slD fa fl fh) :=
 let ⟨_,p1,d1⟩:=ha;let ⟨_,q2,d2⟩:=hl;let ⟨_,q3,d3⟩:=hh; ⟨tSl (rSl K) _ _ _,λi=>by have h:=zue (pos:=pos) (p2:=p2) (z1f (X:=X i)) (p1 i) (q2 i) (q3 i);rw[C.hK] at h;exact h,λj=>zvi (d1 j) (d2 j) (d3 j)⟩
theorem zv2{x:Str}{id:String}{r:List V->Hp->VK->Prop}{F:List PyData->(R->Prop)->Prop}{p:Pos}(C:Ctx3 P w K mg base k X)(hc:∀ i,CallR (X i) (.builtin id) r)(hd:∀ j,zed K (O j) r F)(hv:bootBuiltins x=some (.builtin id))(hm:mg x=none)(ha:A3 K X O (a::es) ga)
 (hg:∀ i,Gl (X i) x:=by intro i;rfl) (hn:x ≠ "__name__" := by decide) (hdb:(x == ("__debug__" : Str))=false:=by decide) (he:∀ i,starEach (a::es) (X i).env=(false,eval a (X i).env)::starEach es (X i).env:=by intro i;rfl) (hpl:∀ i,(backTo pos (starEach es (X i).env)).any (·.1)=false:=by intro i;rfl) :
 E3 K X O (.Call (.Name x p) (a::es) [] pos) (zcb F ga):=let ⟨_,q,d⟩:=ha; ⟨_,λi=>zfv (hc i) (hg i) (by rw[C.hmg];exact hm) hv (q i) hn hdb (he i) (hpl i),λj=>zns (hd j) (d j)⟩
theorem zlw{x:Str}{T:String}{r:List V->Hp->VK->Prop}{F:List PyData->(R->Prop)->Prop}{p:Pos}(C:Ctx3 P w K mg base k X)(hc:∀ i,CallR (X i) (.type T) r)(hd:∀ j,zed K (O j) r F)(hv:bootBuiltins x=some (.type T))(hm:mg x=none)(ha:A3 K X O (a::es) ga)
 (hg:∀ i,Gl (X i) x:=by intro i;rfl) (hn:x ≠ "__name__" := by decide) (hdb:(x == ("__debug__" : Str))=false:=by decide) (he:∀ i,starEach (a::es) (X i).env=(false,eval a (X i).env)::starEach es (X i).env:=by intro i;rfl) (hpl:∀ i,(backTo pos (starEach es (X i).env)).any (·.1)=false:=by intro i;rfl) :
 E3 K X O (.Call (.Name x p) (a::es) [] pos) (zcb F ga):=let ⟨_,q,d⟩:=ha; ⟨_,λi=>zk0 (hc i) (hg i) (by rw[C.hmg];exact hm) hv (q i) hn hdb (he i) (hpl i),λj=>zns (hd j) (d j)⟩
end
theorem zjs:bootBuiltins "len" = some (.builtin "len"):=by decide +kernel
theorem z1m:bootBuiltins "all" = some (.builtin "all"):=by decide +kernel
theorem zqw:bootBuiltins "sorted" = some (.builtin "sorted"):=by decide +kernel
theorem z3x:bootBuiltins "int" = some (.type "int"):=by decide +kernel
theorem zox:bootBuiltins "list" = some (.type "list"):=by decide +kernel
theorem zu2:bootBuiltins "tuple" = some (.type "tuple"):=by decide +kernel
structure Blt (mg:Str->Option Value):Prop where
 len:mg "len" = none
 all:mg "all" = none
 any:mg "any" = none
 sorted:mg "sorted" = none
 min:mg "min" = none
 max:mg "max" = none
 repr:mg "repr" = none
 int:mg "int" = none
 list:mg "list" = none
 tuple:mg "tuple" = none
 range:mg "range" = none
 set:mg "set" = none
 isinstance:mg "isinstance" = none
 enumerate:mg "enumerate" = none
 zip:mg "zip" = none
 reversed:mg "reversed" = none
 str:mg "str" = none
 sum:mg "sum" = none
 dict:mg "dict" = none
 bool:mg "bool" = none
structure Def3 (P:Program) (w:World) (K:Qa) (mg:Str->Option Value) (base:Heap) (k:Nat) (x:Str) (ps:List Str) (sp:Sp):Prop where
 ex:∃ f fd,FnOk P w K mg base CX0 k f fd ps sp/\mg x=some (.ref f)/\ZB K (.ref f)=true/\Binds K fd ps []
structure Top3 (K:Qa) (mg:Str->Option Value) (x:Str) (st:Stmt):Prop where
 ex:∃ f fd,Fun K x x st f fd/\mg x=some (.ref f)
structure CIx where
 C:Addr
 s:Shared
 H:Hp
 ex:List Addr
def zgb{ι:Type}(X:ι->Cx)(scope:Scope)(N':List Str):ι × CIx->Cx:=λp=>zb9 (X p.1) scope N' p.2.C p.2.s p.2.H p.2.ex
def zjw{κ:Type}(O:κ->Ob):{ p:κ × (Addr × List V) // ¬ (O p.1).M p.2.1 }->Ob:=λp=>(O p.1.1).plus p.1.2.1 (.lst p.1.2.2)
def F3{ι κ:Type}(K:Qa)(X:ι->Cx)(O:κ->Ob)(ifs:List Expr)(f:DT):Prop:=∃ t,(∀ i,PF (X i) ifs t)/\∀ j,TD K (O j) t f
def yesD:DT:=λ_ Q=>Q true
section
variable {ι κ : Type} {P : Program} {w : World} {K : Qa} {mg : Str → Option Value} {base : Heap} {k : Nat} {X : ι → Cx} {O : κ → Ob} {a b c tg : Expr} {fa fb fc : DE} {pos p : Pos} {es : List Expr} {ga : DA}
theorem Ctx3.comp(C:Ctx3 P w K mg base k X)(scope:Scope)(N':List Str):Ctx3 P w K mg base k (zgb X scope N'):=⟨λi=>C.hP i.1,λi=>C.hw i.1,λi=>C.hK i.1,λi=>C.hmg i.1,λi=>C.hb i.1,λi=>C.calm i.1,λi=>C.room i.1,λ_=>rfl⟩
theorem za9(C:Ctx3 P w K mg base k X)(B:Blt mg)(ha:A3 K X O [a] ga)(hg:∀ i,Gl (X i) "len" := by intro i;rfl)(he:∀ i,starEach [a] (X i).env=(false,eval a (X i).env)::starEach [] (X i).env:=by intro i;rfl):E3 K X O (.Call (.Name "len" p) [a] [] pos) (zcb (fn1 lenF) ga) :=
 zv2 C (λi=>by have h:=zfu (X:=X i);rw[C.hK] at h;exact h) (λ_=>z1q) zjs B.len ha hg (by decide) (by decide) he
theorem ze8(C:Ctx3 P w K mg base k X)(B:Blt mg)(ha:A3 K X O [a] ga)(hg:∀ i,Gl (X i) "all" := by intro i;rfl)(he:∀ i,starEach [a] (X i).env=(false,eval a (X i).env)::starEach [] (X i).env:=by intro i;rfl):E3 K X O (.Call (.Name "all" p) [a] [] pos) (zcb (allD false) ga) :=
 zv2 C (λi=>zrk (C.calm i)) (λ_=>z0o false) z1m B.all ha hg (by decide) (by decide) he
theorem zo9(C:Ctx3 P w K mg base k X)(B:Blt mg)(ha:A3 K X O [a] ga)(hg:∀ i,Gl (X i) "list" := by intro i;rfl)(he:∀ i,starEach [a] (X i).env=(false,eval a (X i).env)::starEach [] (X i).env:=by intro i;rfl):E3 K X O (.Call (.Name "list" p) [a] [] pos) (zcb (fn1 zqq) ga) :=
 zlw C (λi=>by have h:=zql (X:=X i) (C.calm i);rw[C.hK] at h;exact h) (λ_=>zyt) zox B.list ha hg (by decide) (by decide) he
theorem zbb(C:Ctx3 P w K mg base k X)(B:Blt mg)(ha:A3 K X O [a] ga)(hg:∀ i,Gl (X i) "tuple" := by intro i;rfl)(he:∀ i,starEach [a] (X i).env=(false,eval a (X i).env)::starEach [] (X i).env:=by intro i;rfl):E3 K X O (.Call (.Name "tuple" p) [a] [] pos) (zcb (fn1 tupF) ga) :=
 zlw C (λi=>by have h:=zlg (X:=X i);rw[C.hK] at h;exact h) (λ_=>zt9) zu2 B.tuple ha hg (by decide) (by decide) he
theorem zun{X:Cx}:MtR X "str.join" zlk:=λpins s σ H x xs v us Q I rx rv h=>zyy pins s σ H x xs v us Q I rx rv h
theorem zfh{apos:Pos}(C:Ctx3 P w K mg base k X)(ho:E3 K X O a fa)(hb:E3 K X O b fb)(hbase:∀ i,attributeBase a "join" (X i).env (eval a (X i).env)=eval a (X i).env:=by intro i;rfl)
 (hfew:∀ i,((backTo pos (starEach [b] (X i).env)).all (λx=>!x.1) && (backToKw pos (keywordEach [] (X i).env)).all (λx=>x.1.isSome) && decide (([b]:List Expr).length+([]:List Keyword).length+(if([]:List Keyword).isEmpty then 0 else 1)<30))=true:=by intro i;rfl)
 (hline:(apos.endLine == pos.line)=true:=by rfl) (hs:∀ i,starEach [b] (X i).env = [(false,eval b (X i).env)]:=by intro i;rfl):E3 K X O (.Call (.Attribute a "join" apos) [b] [] pos) (zwr fa fb) :=
 let ⟨_,p1,d1⟩:=ho;let ⟨_,p2,d2⟩:=hb; ⟨tBM K "str" zlk _ (zbu _ tNil),λi=>by
  have h:=zjk (apos:=apos) (cpos:=pos) J9 jz j0 (zun (X:=X i)) (p1 i) (zbo (p2 i) zcl (hs i)) (hbase i) (hfew i) hline (hs i)
  rw[C.hK] at h
  exact h,λj=>zw9 (d1 j) (d2 j)⟩
theorem zav{k' n:Nat}{x:Str}{ps:List Str}{φ:Ob->Prop}{F:List PyData->(R->Prop)->Prop}(C:Ctx3 P w K mg base k X)(D:Def3 P w K mg base k' x ps (spO K φ n F))(hφ:∀ j,φ (O j))(ha:A3 K X O (a::es) ga)(hk:k'<=k:=by decide)(hg:∀ i,Gl (X i) x:=by intro i;rfl)
 (hdb:(x == ("__debug__" : Str))=false:=by decide) (he:∀ i,starEach (a::es) (X i).env=(false,eval a (X i).env)::starEach es (X i).env:=by intro i;rfl) (hpl:∀ i,(backTo pos (starEach es (X i).env)).any (·.1)=false:=by intro i;rfl):E3 K X O (.Call (.Name x p) (a::es) [] pos) (calD n F ga):=by
 obtain⟨f,fd,G,m,kp,bn⟩:=D.ex
 obtain⟨t,q,d⟩:=ha
 refine⟨ze0 (spO K φ n F) [] E0 t,λi=>?_,λj=>zy0 (hφ j) (d j)⟩
 have G':FnOk (X i).prog (X i).w (X i).K (X i).mg (X i).base CX0 k f fd ps (spO K φ n F):=by rw[C.hP,C.hw,C.hK,C.hmg,C.hb];exact G.mono hk
 exact zoe G' (C.room i) (hg i) (by rw[C.hmg];exact m) (by rw[C.hK];exact kp) (by rw[C.hK];exact bn) .nil zwd (q i) hdb (he i) (hpl i)
theorem zak{k' n:Nat}(v:Nat){x y:Str}{py:Pos}{ps:List Str}{φ:Ob->Prop}{F:List PyData->(R->Prop)->Prop}(C:Ctx3 P w K mg base k X)(D:Def3 P w K mg base k' x ps (spD K φ n F))(hφ:∀ j,φ (O j))(ha:A3 K X O es ga)(hk:k'<=k:=by decide)(hg:∀ i,Gl (X i) x:=by intro i;rfl)
 (hN:∀ i,(X i).N[v]? = some y:=by intro i;rfl) (hv:∀ i,Vis (X i).env.scope y:=by intro i;first|exact Or.inl rfl|exact Or.inr (Or.inl rfl)|exact Or.inr (Or.inr rfl)) (hd:(y == ("__debug__" : Str))=false:=by decide) (hcd:(y == ("__classdict__" : Str))=false:=by decide)
 (hdb:(x == ("__debug__" : Str))=false:=by decide) (he:∀ i,starEach (.Name y py::es) (X i).env=(false,eval (.Name y py) (X i).env)::starEach es (X i).env:=by intro i;rfl) (hpl:∀ i,(backTo pos (starEach es (X i).env)).any (·.1)=false:=by intro i;rfl) :
 E3 K X O (.Call (.Name x p) (.Name y py::es) [] pos) (calO v n F ga):=by
 obtain⟨f,fd,G,m,kp,bn⟩:=D.ex
 obtain⟨t,q,d⟩:=ha
 refine⟨ze0 (spD K φ n F) [] E0 (zbu (tVar v) t),λi=>?_,λj=>zvp (hφ j) (d j)⟩
 have G':FnOk (X i).prog (X i).w (X i).K (X i).mg (X i).base CX0 k f fd ps (spD K φ n F):=by rw[C.hP,C.hw,C.hK,C.hmg,C.hb];exact G.mono hk
 exact zoe G' (C.room i) (hg i) (by rw[C.hmg];exact m) (by rw[C.hK];exact kp) (by rw[C.hK];exact bn) .nil zwd (zbo (zap (hN i) (hv i) hd hcd) (q i) (he i)) hdb (he i) (hpl i)
theorem zdi(C:Ctx3 P w K mg base k X)(ha:E3 K X O a fa):I3 K X O tg a (srcL fa):=let ⟨_,p,d⟩:=ha; ⟨zpy K _,λi=>by have h:=zye (tg:=tg) (p i);rw[C.hK] at h;exact h,λj=>zu4 (d j)⟩
theorem zcg(C:Ctx3 P w K mg base k X)(ha:E3 K X O a fa):I3 K X O tg a (srcT fa):=let ⟨_,p,d⟩:=ha; ⟨iTup K _,λi=>by have h:=z3y (tg:=tg) (p i);rw[C.hK] at h;exact h,λj=>zzf (d j)⟩
theorem zjv(ha:E3 K X O a fa):I3 K X O tg a (srcS fa):=let ⟨_,p,d⟩:=ha; ⟨_,λi=>z4f (p i),λj=>zy7 (d j)⟩
theorem i_r1(C:Ctx3 P w K mg base k X)(B:Blt mg)(ha:A3 K X O [a] ga)(hg:∀ i,Gl (X i) "range" := by intro i;rfl)(hs:∀ i,starEach [a] (X i).env = [(false,eval a (X i).env)]:=by intro i;rfl):I3 K X O tg (.Call (.Name "range" p) [a] [] pos) (zwe ga) :=
 let ⟨_,q,d⟩:=ha; ⟨_,λi=>zrw (hg i) (by rw[C.hmg];exact B.range) (q i) (hs i),λj=>zuk (d j)⟩
theorem zcy{fi:DI}(h:I3 K X O tg a fi):J3 K X O tg a (newJ fi):=let ⟨_,p,d⟩:=h; ⟨_,p,λj=>zzn (d j)⟩
theorem zau{h:Nat}(n:Nat){x:Str}(hlt:n<h:=by decide)(hN:∀ i,(X i).N.Nodup:=by intro i;exact of_decide_eq_true (by kernel_rfl))(hi:∀ i,(X i).N[n]? = some x:=by intro i;rfl)(hx:∀ i,Loc (X i).env.scope x:=by intro i;first|exact Or.inl rfl|exact Or.inr rfl)
 (hf:∀ i,(X i).fn x=true\/(X i).env.scope.names.lookup x=some .local:=by intro i;first|exact .inl rfl|exact .inr rfl):G3 K X h (.Name x pos) (gN n):=⟨_,λi=>zpm (hN i) (hi i) (hx i) (hf i),λ_=>zxx,λ_=>zx8,zng hlt⟩
def Gs3{ι:Type}(K:Qa)(X:ι->Cx)(h:Nat)(es:List Expr)(is:List Nat):Prop:=∃ t,(∀ i,PGs (X i) es t)/\(∀ O:Ob,GSs K O t is)/\(∀ O:Ob,GRs K O t is)/\zi7 h t/\zjo t
theorem zcj{h:Nat}:Gs3 K X h [] []:=⟨_,λi=>zxm,λ_=>zyw,λ_=>zy8,zyk,zzv⟩
theorem za1{h:Nat}{es:List Expr}{is:List Nat}(n:Nat){x:Str}(hr:Gs3 K X h es is)(hlt:n<h:=by decide)(hN:∀ i,(X i).N.Nodup:=by intro i;exact of_decide_eq_true (by kernel_rfl))(hi:∀ i,(X i).N[n]? = some x:=by intro i;rfl)(hx:∀ i,Loc (X i).env.scope x:=by intro i;first|exact Or.inl rfl|exact Or.inr rfl)
 (hf:∀ i,(X i).fn x=true\/(X i).env.scope.names.lookup x=some .local:=by intro i;first|exact .inl rfl|exact .inr rfl) (hs:∀ i,(assignEach (.Name x pos::es) (X i).env).map (·.2)=assign (.Name x pos) (X i).env::(assignEach es (X i).env).map (·.2):=by intro i;rfl):Gs3 K X h (.Name x pos::es) (n::is) :=
 let ⟨_,p,d1,d2,o,m⟩:=hr; ⟨_,λi=>zvj (zpm (hN i) (hi i) (hx i) (hf i)) (p i) (hs i),λO=>zvo (d1 O),λO=>zt3 (d2 O),zvq zl6 m (zng hlt) o,zuc zl6 m⟩
theorem zgg{h n:Nat}{es:List Expr}{is:List Nat}{j:Nat}(C:Ctx3 P w K mg base k X)(hr:Gs3 K X h es is)(hn:is.length=n:=by rfl)(hn2:∀ i,(assignEach es (X i).env).length=n:=by intro i;rfl)(hst:∀ i,(assignEach es (X i).env).findIdx? (·.1)=none:=by intro i;rfl):G3 K X h (.Tuple es j pos) (gT is) :=
 let ⟨_,p,d1,d2,o,m⟩:=hr; ⟨_,λi=>by have z:=zqv (pos:=pos) (k:=j) (C.calm i) (p i) (hn2 i) (hst i);rw[C.hK] at z;exact z,λO=>z2k hn (d1 O),λO=>z0h hn (d2 O),zym o⟩
theorem zw3{n:Int}{j:Nat}{p2:Pos}:E3 K X O (.UnaryOp .USub (.Constant (.int n) j p2) pos) (cD (.int (-n))):=⟨tUn (rU λi => .int (-i)) (tC (.int n)),λi=>z4i z3b zat,λ_ σ H ρ Q Qd S h kk=>⟨n,rfl,kk _ H (.o _) (.refl _ _) (Is.int _) h⟩⟩
theorem za6{O':κ->Ob}:F3 K X O' [] yesD:=⟨_,λi=>z3h,λj σ H ρ Q Qd S h k=>k true H (.refl _ _) h⟩
theorem zi6{ft:DT}(h:T3 K X O c ft):F3 K X O [c] ft:=let ⟨_,p,d⟩:=h; ⟨_,λi=>z1o (p i),d⟩
theorem zaz{elt iter:Expr}{ifs:List Expr}{scope:Scope}{fi:DI}{g:DG}{ft:DT}{fe:DE}(h:Nat)(N':List Str)(C:Ctx3 P w K mg base k X)(S:∀ i,ScopeOk h N' (X i).N scope (X i).env.scope)(hs:I3 K X O tg iter fi)
 (hg:G3 K (zgb X scope N') h tg g) (hf:F3 K (zgb X scope N') (zjw O) ifs ft) (he:E3 K (zgb X scope N') (zjw O) elt fe) (hset:∀ i x,foldedSetIterable iter (X i).env x=pure x:=by intro _ _;rfl) :
 E3 K X O (.ListComp elt [⟨tg,iter,ifs,0⟩] scope pos) (zps h fi g ft fe):=by
 obtain⟨ti,p1,d1⟩:=hs
 obtain⟨tg',p2,d2,_,ow⟩:=hg
 obtain⟨tf,p3,d3⟩:=hf
 obtain⟨te,p4,d4⟩:=he
 exact⟨_,λi=>zx7 h (S i) (C.calm i) (p1 i) (λc s H ex=>p2 (i,⟨c,s,H,ex⟩)) ow (λc s H ex=>p3 (i,⟨c,s,H,ex⟩)) (λc s H ex=>p4 (i,⟨c,s,H,ex⟩)) (hset i),λj=>zpe (d1 j) d2 (λD xs nm=>d3 ⟨(j,(D,xs)),nm⟩) λD xs nm=>d4 ⟨(j,(D,xs)),nm⟩⟩
variable {st : Stmt} {sts : List Stmt} {g1 g2 : DS} {ft : DT}
theorem zax:Ss3 K X O [] (λDd ρ=>Dd.nx ρ):=⟨_,λi=>zhk,λj=>zz1⟩
theorem zai(h:S3 K X O st g1):Ss3 K X O [st] g1:=let ⟨_,p,d⟩:=h; ⟨_,λi=>zcp (p i),d⟩
theorem zad(h:S3 K X O st g1)(h':Ss3 K X O sts g2):Ss3 K X O (st::sts) (seqD g1 g2):=let ⟨_,p,d⟩:=h;let ⟨_,p2,d2⟩:=h'; ⟨_,λi=>zbg (p i) (p2 i),λj=>z3q (d j) (d2 j)⟩
theorem zao(ha:E3 K X O a fa):S3 K X O (.Return (some a) pos) (retS fa):=let ⟨_,p,d⟩:=ha; ⟨_,λi=>zgr (p i),λj=>z1w (d j)⟩
theorem z1d(n:Nat){x:Str}{px:Pos}(hN:∀ i,(X i).N[n]? = some x:=by intro i;rfl)(hv:∀ i,Vis (X i).env.scope x:=by intro i;first|exact Or.inl rfl|exact Or.inr (Or.inl rfl)|exact Or.inr (Or.inr rfl))(hd:(x == ("__debug__" : Str))=false:=by decide)(hcd:(x == ("__classdict__" : Str))=false:=by decide) :
 S3 K X O (.Return (some (.Name x px)) pos) (retO n):=⟨_,λi=>zgr (zap (hN i) (hv i) hd hcd),λj=>zrd⟩
theorem s_if{sa sb:List Stmt}(hc:T3 K X O c ft)(h:Ss3 K X O sa g1)(h':Ss3 K X O sb g2):S3 K X O (.If c sa sb pos) (ifS ft g1 g2):=let ⟨_,p,d⟩:=hc;let ⟨_,p1,d1⟩:=h;let ⟨_,p2,d2⟩:=h'; ⟨_,λi=>zhl (p i) (p1 i) (p2 i),λj=>z4h (d j) (d1 j) (d2 j)⟩
theorem zan(n:Nat){x:Str}{px:Pos}(ha:E3 K X O a fa)(hN:∀ i,(X i).N.Nodup:=by intro i;exact of_decide_eq_true (by kernel_rfl))(hi:∀ i,(X i).N[n]? = some x:=by intro i;rfl)(hx:∀ i,Loc (X i).env.scope x:=by intro i;first|exact Or.inl rfl|exact Or.inr rfl)
 (hs:∀ i,swapsWith a (some (.Name x px)) pos.line (X i).env=pure false:=by intro i;rfl) (hf:∀ i,(X i).fn x=true\/(X i).env.scope.names.lookup x=some .local:=by intro i;first|exact .inl rfl|exact .inr rfl):S3 K X O (.Assign [.Name x px] a pos) (asgS n fa) :=
 let ⟨_,p,d⟩:=ha; ⟨_,λi=>zcn (hN i) (hi i) (hx i) (p i) (hs i) (hf i),λj=>zsg (d j)⟩
theorem zji(n:Nat){x:Str}{px p0:Pos}{elt iter:Expr}{ifs:List Expr}{scope:Scope}{fi:DI}{g:DG}{ft:DT}{fe:DE}(h:Nat)(N':List Str)(C:Ctx3 P w K mg base k X)(S:∀ i,ScopeOk h N' (X i).N scope (X i).env.scope)(hs:I3 K X O tg iter fi)
 (hg:G3 K (zgb X scope N') h tg g) (hf:F3 K (zgb X scope N') (zjw O) ifs ft) (he:E3 K (zgb X scope N') (zjw O) elt fe) (hN:∀ i,(X i).N.Nodup:=by intro i;exact of_decide_eq_true (by kernel_rfl)) (hi:∀ i,(X i).N[n]? = some x:=by intro i;rfl) (hx:∀ i,(X i).env.scope.names.lookup x=some .local:=by intro i;rfl)
 (hsw:∀ i,swapsWith (.ListComp elt [⟨tg,iter,ifs,0⟩] scope p0) (some (.Name x px)) pos.line (X i).env=pure true:=by intro i;rfl) (hset:∀ i x,foldedSetIterable iter (X i).env x=pure x:=by intro _ _;rfl) :
 S3 K X O (.Assign [.Name x px] (.ListComp elt [⟨tg,iter,ifs,0⟩] scope p0) pos) (asgS n (zps h fi g ft fe)):=by
 obtain⟨ti,p1,d1⟩:=hs
 obtain⟨tg',p2,d2,_,ow⟩:=hg
 obtain⟨tf,p3,d3⟩:=hf
 obtain⟨te,p4,d4⟩:=he
 exact⟨_,λi=>zqa (hN i) (hi i) (hx i) (hsw i) h (S i) (C.calm i) (p1 i) (λc s H ex=>p2 (i,⟨c,s,H,ex⟩)) ow (λc s H ex=>p3 (i,⟨c,s,H,ex⟩)) (λc s H ex=>p4 (i,⟨c,s,H,ex⟩)) (hset i),λj=>zsg (zpe (d1 j) d2 (λD xs nm=>d3 ⟨(j,(D,xs)),nm⟩) λD xs nm=>d4 ⟨(j,(D,xs)),nm⟩)⟩
theorem zp4{X:Cx}:MtR X "list.append" zhv:=λpins s σ H x xs v us Q I rx rv h=>zg2 pins s σ H x xs v us Q I rx rv h
theorem zlq(n:Nat){x:Str}{px apos cpos:Pos}(C:Ctx3 P w K mg base k X)(hb:E3 K X O b fb)(hN:∀ i,(X i).N[n]? = some x:=by intro i;rfl)(hv:∀ i,Vis (X i).env.scope x:=by intro i;first|exact Or.inl rfl|exact Or.inr (Or.inl rfl)|exact Or.inr (Or.inr rfl))(hd:(x == ("__debug__" : Str))=false:=by decide)(hcd:(x == ("__classdict__" : Str))=false:=by decide)
 (hbase:∀ i,attributeBase (.Name x px) "append" (X i).env (eval (.Name x px) (X i).env)=eval (.Name x px) (X i).env:=by intro i;rfl)
 (hfew:∀ i,((backTo cpos (starEach [b] (X i).env)).all (λx=>!x.1) && (backToKw cpos (keywordEach [] (X i).env)).all (λx=>x.1.isSome) && decide (([b]:List Expr).length+([]:List Keyword).length+(if([]:List Keyword).isEmpty then 0 else 1)<30))=true:=by intro i;rfl)
 (hline:(apos.endLine == cpos.line)=true:=by rfl) (hs:∀ i,starEach [b] (X i).env = [(false,eval b (X i).env)]:=by intro i;rfl) (hsw:∀ i,swapsWith (.Call (.Attribute (.Name x px) "append" apos) [b] [] cpos) none pos.line (X i).env=pure false:=by intro i;rfl) :
 S3 K X O (.Expr (.Call (.Attribute (.Name x px) "append" apos) [b] [] cpos) pos) (appS n fb):=let ⟨_,p2,d2⟩:=hb;
 ⟨zpt (tBM K "list" zhv (tVar n) (zbu _ tNil)),λi=>by
  have h:=zjk (apos:=apos) (cpos:=cpos) PySem.F.plainAttrs_list PySem.F.slot_list_append PySem.F.type_list_append (zp4 (X:=X i)) (zap (pos:=px) (hN i) (hv i) hd hcd) (zbo (p2 i) zcl (hs i)) (hbase i) (hfew i) hline (hs i)
  rw[C.hK] at h
  exact zzo h (hsw i),λj=>zr5 (d2 j)⟩
theorem zm4{X:Cx}(h:X.xe=λ_ _=>False):PassesOwn (model X.prog X.w) X.A X.env X.xe:=by rw[h];exact PassesOwn.never
theorem zcz{iter:Expr}{body:List Stmt}{fj:DJ}{g:DG}{hh:Nat}(C:Ctx3 P w K mg base k X)(hi:J3 K X O tg iter fj)(hg:G3 K X hh tg g)(hb:Ss3 K X O body g1)(hs:∀ i x,foldedSetIterable iter (X i).env x=pure x:=by intro _ _;rfl):S3 K X O (.For tg iter body [] pos) (forS fj g g1):=by
 obtain⟨ti,p1,d1⟩:=hi
 obtain⟨tg',p2,_,d2,_⟩:=hg
 obtain⟨tb,p3,d3⟩:=hb
 exact⟨_,λi=>z4g (zm4 (C.xe i)) (C.calm i) (p1 i) (p2 i) (p3 i) (hs i),λj=>z2d (d1 j) (d2 (O j)) (d3 j)⟩
end
theorem len1{fd:FuncData}{p0:Str}{us:List Value}(hl:us.length=1)(h:∀ u0,bindArgs fd ⟨[u0],[]⟩=pure ([p0].zip [u0])):bindArgs fd ⟨us,[]⟩=pure ([p0].zip us):=by
 match us,hl with
 | [u0],_=>exact h u0
theorem len2{fd:FuncData}{p0 p1:Str}{us:List Value}(hl:us.length=2)(h:∀ u0 u1,bindArgs fd ⟨[u0,u1],[]⟩=pure ([p0,p1].zip [u0,u1])):bindArgs fd ⟨us,[]⟩=pure ([p0,p1].zip us):=by
 match us,hl with
 | [u0,u1],_=>exact h u0 u1
theorem len3{fd:FuncData}{p0 p1 p2:Str}{us:List Value}(hl:us.length=3)(h:∀ u0 u1 u2,bindArgs fd ⟨[u0,u1,u2],[]⟩=pure ([p0,p1,p2].zip [u0,u1,u2])):bindArgs fd ⟨us,[]⟩=pure ([p0,p1,p2].zip us):=by
 match us,hl with
 | [u0,u1,u2],_=>exact h u0 u1 u2
theorem len4{fd:FuncData}{p0 p1 p2 p3:Str}{us:List Value}(hl:us.length=4)(h:∀ u0 u1 u2 u3,bindArgs fd ⟨[u0,u1,u2,u3],[]⟩=pure ([p0,p1,p2,p3].zip [u0,u1,u2,u3])):bindArgs fd ⟨us,[]⟩=pure ([p0,p1,p2,p3].zip us):=by
 match us,hl with
 | [u0,u1,u2,u3],_=>exact h u0 u1 u2 u3
section
variable {P : Program} {w : World} {K : Qa} {mg : Str → Option Value} {base : Heap} {k n : Nat} {x : Str} {st : Stmt} {N ps : List Str} {φ : Ob → Prop} {F : List PyData → (R → Prop) → Prop}
abbrev zec(P:Program)(w:World)(K:Qa)(mg:Str->Option Value)(base:Heap)(N:List Str)(x:Str)(sc:Scope)(f:Addr)(cdv:Value)(A:Around)(outer:List Env)(s:Shared)(H:Hp)(E:XK):Unit->Cx:=λ_=>(cxOf CX0 P w K mg base N x sc f cdv A outer s H E).nox
theorem zin{f:Addr}{cdv:Value}{A:Around}{outer:List Env}{s:Shared}{H:Hp}{E:XK}{sc:Scope}(hr:Room k (A.deeper (envOfC x sc s.heap.objs.size f cdv))):Ctx3 P w K mg base k (zec P w K mg base N x sc f cdv A outer s H E) :=
 ⟨λ_=>rfl,λ_=>rfl,λ_=>rfl,λ_=>rfl,λ_=>rfl,λ_=>rfl,λ_=>hr,λ_=>rfl⟩
theorem mk_O(T:Top3 K mg x st)(S:FnScope N ps (zah st))(hb:∀ (kV doc pm:Value) (an:Option Addr) (cdv ct:Value) (us:List Value),us.length=ps.length->bindArgs (Zx x x (zce st) (zbn st) (zah st) .none kV doc pm an cdv ct) ⟨us,[]⟩=pure (ps.zip us))(hn:ps.length=n)
 (body:∀ (f:Addr) (cdv:Value) (A:Around) (outer:List Env) (s:Shared) (H:Hp) (E:XK) (O:Ob),φ O->Ctx3 P w K mg base k (zec P w K mg base N x (zah st) f cdv A outer s H E) ->
  ∃ g,Ss3 K (zec P w K mg base N x (zah st) f cdv A outer s H E) (λ_:Unit=>O) (zbn st) g/\∀ ds Qr,ds.length=n->F ds Qr->g { nx:=λ_=>Qr (.o .none),rt:=Qr } (zdj N (ds.map .im))):Def3 P w K mg base (k+1) x ps (spO K φ n F):=by
 obtain⟨f,fd,Fu,m⟩:=T.ex
 refine⟨f,fd,Fu.ok S (zn9 hn) (λcdv A outer s H vs Q E hr h=>?_),m,Fu.kp,Fu.binds hb⟩
 obtain⟨O,ds,Qr,ok,hφ,p,hl,is,q,kk⟩:=h
 obtain⟨g,⟨t,h1,h2⟩,h3⟩:=body f cdv A outer s H E O hφ (zin hr)
 exact⟨t,h1 (),z4s (h2 ()) ok p is (h3 ds Qr hl q) kk⟩
theorem mk_D(T:Top3 K mg x st)(S:FnScope N ps (zah st))(hb:∀ (kV doc pm:Value) (an:Option Addr) (cdv ct:Value) (us:List Value),us.length=ps.length->bindArgs (Zx x x (zce st) (zbn st) (zah st) .none kV doc pm an cdv ct) ⟨us,[]⟩=pure (ps.zip us))(hn:ps.length=n+1)
 (body:∀ (f:Addr) (cdv:Value) (A:Around) (outer:List Env) (s:Shared) (H:Hp) (E:XK) (O:Ob),φ O->Ctx3 P w K mg base k (zec P w K mg base N x (zah st) f cdv A outer s H E) ->
  ∃ g,Ss3 K (zec P w K mg base N x (zah st) f cdv A outer s H E) (λ_:Unit=>O) (zbn st) g/\∀ ds Qr,ds.length=n->F ds Qr->g { nx:=λ_=>Qr (.o .none),rt:=Qr } (zdj N (.ob::ds.map .im))):Def3 P w K mg base (k+1) x ps (spD K φ n F):=by
 obtain⟨f,fd,Fu,m⟩:=T.ex
 refine⟨f,fd,Fu.ok S (zoh hn) (λcdv A outer s H vs Q E hr h=>?_),m,Fu.kp,Fu.binds hb⟩
 obtain⟨O,ds,ws,Qr,ok,hφ,p,hl,rfl,is,q,kk⟩:=h
 obtain⟨g,⟨t,h1,h2⟩,h3⟩:=body f cdv A outer s H E O hφ (zin hr)
 exact⟨t,h1 (),z4x (h2 ()) ok p is (h3 ds Qr hl q) kk⟩
end
structure PotStp (a l:Addr) (H H':Hp):Prop where
 oth:∀ b,b ≠ a->b ≠ l->H' b=H b
theorem PotStp.trans{a l:Addr}{H H1 H2:Hp}(x:PotStp a l H H1)(y:PotStp a l H1 H2):PotStp a l H H2:=⟨λb h1 h2=>(y.oth b h1 h2).trans (x.oth b h1 h2)⟩
theorem PotStp.upA{a l:Addr}{H:Hp}(o:HO):PotStp a l H (upd H a o):=⟨λb h1 _=>zaf h1⟩
abbrev lenR(K:Qa):List V->Hp->VK->Prop:=λxs H Q=>∃ x n,xs = [x]/\LenV K x H n/\Q (.int n) H
abbrev pAt(K:Qa)(i:Int):TE:=tOp (rIxL K) (tVar 0) (tC (.int i))
def zhn:List PyData->(R->Prop)->Prop:=λds Q=>∃ m:Int,ds = [.int m]/\0<m/\m<1073741824/\∀ k,0<=k->k<m->Q (.o (.int k))
def abc:List Nat:=(Jb 26).map (· + 97)
def zvz(c:Nat):Prop:=97<=c/\c<123
theorem zk1:∀ (l:List Nat) (acc:Array Nat),(l.map sg).foldl (λacc p=>acc++(Qp "").cps++p.cps) acc=acc++l.toArray
 | [],acc=>by simp
 | c::r,acc=>by
   rw[Q2,Jl,zk1 r]
   have e:(Qp "").cps = #[]:=by decide +kernel
   rw[e]
   apply JK.mp
   simp[sg]
theorem zxs(w:List Nat):J0 "" (w.map sg)=tx w:=by
 cases w with
 | nil=>decide +kernel
 | cons c r =>
   show Yj (Qp "") (sg c::r.map sg)=tx (c::r)
   unfold Yj
   show(⟨(r.map sg).foldl _ (sg c).cps⟩:Str)=_
   rw[zk1]
   unfold tx sg
   congr 1
   apply JK.mp
   simp
theorem z2g(c:Nat):(sg c).length=1:=rfl
theorem z0r(w:List Nat):((w.map sg).map (·.length)).sum=w.length:=by
 induction w with
 | nil=>rfl
 | cons c r ih=>rw[Q2,Q2,jb,ih,z2g,Qm];omega
theorem zib:∀ {w:List Nat} {x:Nat},risingS (sg x) (w.map sg)=true->(∀ c ∈ w,x<=c)/\w.Pairwise (·<=·)
 | [],_,_=>⟨λ_ h=>(nomatch h),.nil⟩
 | y::r,x,h=>by
   have h:(!(decide (y<x) || (y == x && false)) && risingS (sg y) (r.map sg))=true:=h
   rw[qN,qT,Qv,JF,decide_eq_false_iff_not] at h
   obtain⟨h1,h2⟩:=zib (w:=r) (x:=y) h.2
   refine⟨λc hc=>?_,.cons h1 h2⟩
   rcases Qt.mp hc with rfl|hc
   ·omega
   ·have:=h1 c hc
    omega
theorem zpz:∀ {w:List Nat},sortedS (w.map sg)=true->w.Nodup->w.Pairwise (· < ·)
 | [],_,_ => .nil
 | x::r,h,hn=>by
   obtain⟨h1,h2⟩:=zib (w:=r) (x:=x) h
   obtain⟨n1,n2⟩:=Jk.mp hn
   refine .cons (λc hc=>jR (h1 c hc) λe=>n1 (e ▸ hc)) ?_
   exact(List.Pairwise.and h2 n2).imp λ⟨a,b⟩=>jR a b
structure StAt (H:Hp) (a l:Addr) (num cnt:Int) (pl:Nat) (cs:List Int):Prop where
 ne:a ≠ l
 ha:H a=some (.lst [.ref l,.int num,.int cnt,.int pl])
 hl:H l=some (.lst (cs.map V.int))
 n0:0<=num
 c0:0<=cnt
structure IsState (O:Ob):Prop where
 ex:∃ a l,O.v = .ref a/\O.M a/\O.M l/\(∀ H,O.P H->∃ n c p cs,StAt H a l n c p cs)/\∀ H H' n c p cs,O.P H->StAt H' a l n c p cs->(∀ b,O.M b->b ≠ a->b ≠ l->H' b=H b)->O.P H'
theorem IsState.plus{O:Ob}(h:IsState O)(D:Addr)(u:HO)(nm:¬ O.M D):IsState (O.plus D u):=by
 obtain⟨a,l,hv,ma,ml,h1,h2⟩:=h.ex
 have da:D ≠ a:=λe=>nm (e ▸ ma)
 have dl:D ≠ l:=λe=>nm (e ▸ ml)
 refine⟨a,l,hv,.inl ma,.inl ml,λH p=>h1 H p.1,λH H' n c p cs pp q k=>⟨h2 H H' n c p cs pp.1 q λb mb=>k b (.inl mb),?_⟩⟩
 rw[k D (.inr rfl) da dl]
 exact pp.2
theorem upS{κ:Type}{O:κ->Ob}(h:∀ j,IsState (O j)):∀ j,IsState (zjw O j):=λj=>(h j.1.1).plus _ _ j.2
def stOb(a l:Addr):Ob:=⟨λb=>b=a\/b=l,λH=>∃ n c p cs,StAt H a l n c p cs,.ref a⟩
theorem zzd(a l:Addr):(stOb a l).Ok:=by
 refine⟨λH H' e ⟨n,c,pl,cs,p⟩=>⟨n,c,pl,cs,p.ne,(e a (.inl rfl)).trans p.ha,(e l (.inr rfl)).trans p.hl,p.n0,p.c0⟩,λH b o ⟨n,c,pl,cs,p⟩ eb m=>?_,λH b ⟨n,c,pl,cs,p⟩ m=>?_⟩
 ·rcases m with rfl|rfl
  ·rw[p.ha] at eb;cases eb;exact⟨λ_ z=>(by cases z),λ_ _ z=>(by cases z)⟩
  ·rw[p.hl] at eb;cases eb;exact⟨λ_ z=>(by cases z),λ_ _ z=>(by cases z)⟩
 ·rcases m with rfl|rfl
  ·exact⟨_,p.ha⟩
  ·exact⟨_,p.hl⟩
theorem zzm(a l:Addr):IsState (stOb a l):=⟨a,l,rfl,.inl rfl,.inr rfl,λ_ p=>p,λ_ _ n c p cs _ q _=>⟨n,c,p,cs,q⟩⟩
abbrev mAdd(a b:TE):TE:=tOp (rI0 λi j => .int (i+j)) a b
abbrev mMul(a b:TE):TE:=tOp (rI CMul λi j => .int (i * j)) a b
abbrev mMod(a b:TE):TE:=tOp (rI (λ_ j=>0<j) λi j => .int (i % j)) a b
abbrev mDiv(a b:TE):TE:=tOp (rI CDiv λi j => .int (i / j)) a b
abbrev mC(i:Int):TE:=tC (.int i)
abbrev mLen(K:Qa):TE:=tCB (lenR K) (zbu (pAt K 0) tNil)
def ziv(K:Qa):TS :=
 tSeq (tAsg (mMod (mAdd (mAdd (mMul (mMod (tVar 3) (mC 2147483629)) (mC 48271)) (mMul (mC 7919) (pAt K 2))) (mC 5)) (mC 2147483647)) (zbi 4))
 (tSeq (tAsg (mMod (mAdd (mMul (tVar 4) (tVar 4)) (mMul (mC 104729) (pAt K 2))) (mC 2147483629)) (zbi 4))
 (tSeq (tAsg (mMod (mAdd (mMul (tVar 4) (mC 69621)) (mC 16807)) (mC 2147483587)) (zbi 4))
 (tRet (mMod (mMod (mMul (tVar 4) (tVar 4)) (mC 2147483579)) (tVar 1)))))
def zme(K:Qa):TS :=
 tSeq (tAsg (mAdd (pAt K 2) (mC 1)) (gSub (tVar 0) (mC 2) zjl))
 (tSeq (tIfS (zhz (tOp (rI0 λi j => .bl (decide (j<i))) (pAt K 1) (mC 0)))
  (tSeq (tAsg (mMod (pAt K 1) (tVar 1)) (zbi 2)) (tSeq (tAsg (mDiv (pAt K 1) (tVar 1)) (gSub (tVar 0) (mC 1) zjl)) (tRet (tVar 2)))) zi4)
 (tSeq (tAsg (mC 7) (zbi 3))
 (tSeq (tIfS (zhz (tOp (rI0 λi j => .bl (decide (i<j))) (pAt K 3) (mLen K)))
  (tSeq (tAsg (tOp (rIxL K) (pAt K 0) (pAt K 3)) (zbi 3)) (tSeq (tAsg (mAdd (pAt K 3) (mC 1)) (gSub (tVar 0) (mC 3) zjl))
   (tIfS (zhz (tOp (rI0 λi j => .bl (decide (j<=i))) (tVar 3) (tOp (rI CPow λi j => .int (i ^ j.toNat)) (mC 10) (mC 18))))
    (tSeq (tAsg (mDiv (tVar 3) (tVar 1)) (gSub (tVar 0) (mC 1) zjl)) (tRet (mMod (tVar 3) (tVar 1)))) zi4)))
  (tIfS (zhz (tOp (rI0 λi j => .bl (decide (j<i))) (mLen K) (mC 0))) (tAsg (tOp (rIxL K) (pAt K 0) (mMod (pAt K 2) (mLen K))) (zbi 3)) zi4))
 (ziv K))))
theorem zcs{K:Qa}{H:Hp}{a l:Addr}{n c:Int}{pl:Nat}{cs:List Int}{σ:St}{Q:VK}(p:StAt H a l n c pl cs)(hσ:σ[0]? = some (some (.ref a))){i:Int}{v:V}(hv:atI [V.ref l,V.int n,V.int c,V.int pl] i=some v)(q:Q v H):pAt K i σ H Q :=
 ⟨_,hσ,a,_,i,v,rfl,rfl,.of p.ha,hv,q⟩
theorem StAt.setN{H:Hp}{a l:Addr}{n c:Int}{pl:Nat}{cs:List Int}(p:StAt H a l n c pl cs){n':Int}(h:0<=n'):StAt (upd H a (.lst ([V.ref l,V.int n,V.int c,V.int pl].set 1 (.int n')))) a l n' c pl cs :=
 ⟨p.ne,zar,by rw[zaf (ZD p.ne)];exact p.hl,h,p.c0⟩
theorem StAt.setC{H:Hp}{a l:Addr}{n c:Int}{pl:Nat}{cs:List Int}(p:StAt H a l n c pl cs){c':Int}(h:0<=c'):StAt (upd H a (.lst ([V.ref l,V.int n,V.int c,V.int pl].set 2 (.int c')))) a l n c' pl cs :=
 ⟨p.ne,zar,by rw[zaf (ZD p.ne)];exact p.hl,p.n0,h⟩
theorem StAt.setP{H:Hp}{a l:Addr}{n c:Int}{pl:Nat}{cs:List Int}(p:StAt H a l n c pl cs){pl':Nat}:StAt (upd H a (.lst ([V.ref l,V.int n,V.int c,V.int pl].set 3 (.int pl')))) a l n c pl' cs :=
 ⟨p.ne,zar,by rw[zaf (ZD p.ne)];exact p.hl,p.n0,p.c0⟩
theorem znl{K:Qa}{H:Hp}{a l:Addr}{n c:Int}{pl:Nat}{cs:List Int}{m cell:Int}{o2 o4:Option V}{D:Ends}(p:StAt H a l n c pl cs)(m0:0<m)(q:∀ k,0<=k->k<m->D.rt (.int k) H):ziv K D [some (.ref a),some (.int m),o2,some (.int cell),o4] H:=by
 refine⟨_,rfl,cell,2147483629,rfl,rfl,(show(0:Int)<2147483629 by decide),?_⟩
 refine⟨_,_,rfl,rfl,.inr ⟨by decide,by decide⟩,?_⟩
 refine zcs p rfl rfl ?_
 refine⟨7919,c,rfl,rfl,.inl ⟨by decide,by decide⟩,?_⟩
 refine⟨_,_,rfl,rfl,_,_,rfl,rfl,_,_,rfl,rfl,(show(0:Int)<2147483647 by decide),?_⟩
 dsimp only
 generalize hA:(cell % 2147483629 * 48271+7919 * c+5) % 2147483647=A
 have a0:0<=A:=hA ▸ JD _ (by decide)
 have a1:A<2147483647:=hA ▸ Jd _ (by decide)
 refine⟨_,rfl,_,rfl,A,A,rfl,rfl,.inl ⟨by omega,by omega⟩,?_⟩
 refine zcs p rfl rfl ?_
 refine⟨104729,c,rfl,rfl,.inl ⟨by decide,by decide⟩,?_⟩
 refine⟨_,_,rfl,rfl,_,_,rfl,rfl,(show(0:Int)<2147483629 by decide),?_⟩
 dsimp only
 generalize hB:(A * A+104729 * c) % 2147483629=B
 refine⟨_,rfl,B,69621,rfl,rfl,.inr ⟨by decide,by decide⟩,?_⟩
 refine⟨_,_,rfl,rfl,_,_,rfl,rfl,(show(0:Int)<2147483587 by decide),?_⟩
 dsimp only
 generalize hC:(B * 69621+16807) % 2147483587=C
 have c0:0<=C:=hC ▸ JD _ (by decide)
 have c1:C<2147483587:=hC ▸ Jd _ (by decide)
 refine⟨_,rfl,_,rfl,C,C,rfl,rfl,.inl ⟨by omega,by omega⟩,?_⟩
 refine⟨_,_,rfl,rfl,(show(0:Int)<2147483579 by decide),_,rfl,_,_,rfl,rfl,m0,?_⟩
 exact q _ (JD _ (by omega)) (Jd _ m0)
theorem zug{K:Qa}{H:Hp}{a l:Addr}{n c:Int}{pl:Nat}{cs:List Int}{m:Int}{D:Ends}(p:StAt H a l n c pl cs)(m0:0<m)(m1:m<1073741824)
 (q:∀ k H' n' c' pl',0<=k->k<m->StAt H' a l n' c' pl' cs->PotStp a l H H'->D.rt (.int k) H'):zme K D [some (.ref a),some (.int m),none,none,none] H:=by
 refine zcs p rfl rfl ?_
 refine⟨c,1,rfl,rfl,?_⟩
 refine⟨_,rfl,a,_,2,2,rfl,rfl,p.ha,rfl,?_⟩
 have c0:=p.c0
 have p1:=p.setC (c':=c+1) (by omega)
 refine zcs p1 rfl rfl ?_
 refine⟨n,0,rfl,rfl,_,rfl,?_⟩
 refine ite2 (λz=>?_) (λz=>?_)
 ·refine zcs p1 rfl rfl ?_
  refine⟨_,rfl,n,m,rfl,rfl,m0,?_⟩
  refine zcs p1 rfl rfl ?_
  refine⟨_,rfl,n,m,rfl,rfl,⟨m0,m1⟩,?_⟩
  refine⟨_,rfl,a,_,1,1,rfl,rfl,p1.ha,rfl,?_⟩
  exact⟨_,rfl,q _ _ _ _ _ (JD _ (by omega)) (Jd _ m0) (p1.setN (qE p.n0 (by omega))) (PotStp.trans (.upA _) (.upA _))⟩
 ·refine zcs p1 rfl rfl ?_
  have ln:∀ {Q:VK} {σ:St},σ[0]? = some (some (.ref a))->Q (.int (cs.length:Nat)) (upd H a (.lst ([V.ref l,V.int n,V.int c,V.int pl].set 2 (.int (c+1)))))->mLen K σ (upd H a (.lst ([V.ref l,V.int n,V.int c,V.int pl].set 2 (.int (c+1))))) Q:=λhs q=>zcs p1 hs rfl ⟨_,_,rfl,.inl ⟨_,.of p1.hl,by rw[Qb]⟩,q⟩
  refine ln rfl ?_
  refine⟨(pl:Nat),(cs.length:Nat),rfl,rfl,_,rfl,?_⟩
  refine ite2 (λz2=>?_) (λz2=>?_)
  ·have hlt:pl<cs.length:=by have:=of_decide_eq_true z2;omega
   refine zcs p1 rfl rfl ?_
   refine zcs p1 rfl rfl ?_
   refine⟨l,_,(pl:Nat),.int cs[pl],rfl,rfl,.of p1.hl,?_,?_⟩
   ·exact zhe (by rw[Qy,Ql hlt];rfl)
   refine zcs p1 rfl rfl ?_
   refine⟨(pl:Nat),1,rfl,rfl,?_⟩
   refine⟨_,rfl,a,_,3,3,rfl,rfl,p1.ha,rfl,?_⟩
   have p2:=p1.setP (pl':=pl+1)
   generalize cs[pl]=cell
   have out:ziv K D [some (.ref a),some (.int m),none,some (.int cell),none] (upd (upd H a (.lst ([V.ref l,V.int n,V.int c,V.int pl].set 2 (.int (c+1))))) a (.lst ([V.ref l,V.int n,V.int (c+1),V.int pl].set 3 (.int ((pl+1:Nat):Int))))):=znl p2 m0 λk k0 k1=>q k _ _ _ _ k0 k1 p2 (PotStp.trans (.upA _) (.upA _))
   refine⟨_,rfl,10,18,rfl,rfl,⟨by decide,by decide,by decide⟩,cell,_,rfl,rfl,_,rfl,?_⟩
   refine ite2 (λz3=>?_) (λ_=>out)
   have hc:(10:Int) ^ (18:Nat)<=cell:=of_decide_eq_true z3
   have hc0:0<=cell:=by omega
   refine⟨_,rfl,_,rfl,cell,m,rfl,rfl,⟨m0,m1⟩,?_⟩
   refine⟨_,rfl,a,_,1,1,rfl,rfl,p2.ha,rfl,?_⟩
   have p3:=p2.setN (n':=cell / m) (qE hc0 (by omega))
   exact⟨_,rfl,_,rfl,cell,m,rfl,rfl,m0,q _ _ _ _ _ (JD _ (by omega)) (Jd _ m0) p3 (PotStp.trans (PotStp.trans (.upA _) (.upA _)) (.upA _))⟩
  ·have out:∀ cell:Int,ziv K D [some (.ref a),some (.int m),none,some (.int cell),none] (upd H a (.lst ([V.ref l,V.int n,V.int c,V.int pl].set 2 (.int (c+1))))):=λcell=>znl p1 m0 λk k0 k1=>q k _ _ _ _ k0 k1 p1 (.upA _)
   refine ln rfl ?_
   refine⟨(cs.length:Nat),0,rfl,rfl,_,rfl,?_⟩
   refine ite2 (λz3=>?_) (λ_=>out 7)
   have hl:0<cs.length:=by have:=of_decide_eq_true z3;omega
   refine zcs p1 rfl rfl ?_
   refine zcs p1 rfl rfl ?_
   refine ln rfl ?_
   refine⟨c+1,(cs.length:Nat),rfl,rfl,(show(0:Int)<(cs.length:Nat) by omega),?_⟩
   dsimp only
   have i0:0<=(c+1) % ((cs.length:Nat):Int):=JD _ (by omega)
   have i1:(c+1) % ((cs.length:Nat):Int)<((cs.length:Nat):Int):=Jd _ (by omega)
   obtain⟨j,hj⟩:=QP i0
   rw[hj] at i1 ⊢
   have hlt:j<cs.length:=by omega
   exact⟨l,_,(j:Nat),.int cs[j],rfl,rfl,.of p1.hl,zhe (by rw[Qy,Ql hlt];rfl),out _⟩
theorem z0t{O:Ob}{H H':Hp}{a l:Addr}{n c n' c':Int}{p p':Nat}{cs cs':List Int}(ma:O.M a)(ml:O.M l)(h2:∀ H H' n c p cs,O.P H->StAt H' a l n c p cs->(∀ b,O.M b->b ≠ a->b ≠ l->H' b=H b)->O.P H')(p0:StAt H a l n c p cs)(p1:StAt H' a l n' c' p' cs')(st:PotStp a l H H'):Stp O H H':=by
 refine⟨λb o e nm=>?_,λpp=>h2 H H' _ _ _ _ pp p1 λb _ h3 h4=>st.oth b h3 h4,λb u hu e=>?_⟩
 ·rw[st.oth b (λz=>nm (z ▸ ma)) λz=>nm (z ▸ ml)];exact e
 ·rw[st.oth b (λz=>?_) λz=>?_]
  ·exact e
  ·rw[z,p0.ha] at e;cases e;obtain⟨xs,e1|⟨o,e1⟩⟩:=hu <;> cases e1
  ·rw[z,p0.hl] at e;cases e;obtain⟨xs,e1|⟨o,e1⟩⟩:=hu <;> cases e1
theorem zpv{K:Qa}{O:Ob}{H:Hp}{ds:List PyData}{ws:List V}{Qr:R->Prop}{Q:VK}{x1 x2 x3 x4 x5:Str}(hφ:IsState O)(p:O.P H)(is:IsAll K (unM O) H ws ds)(q:zhn ds Qr)(kk:∀ r,Qr r->∀ v H',Stp O H H'->Out K O H H' v r->Q v H') :
 zme K { nx:=λ_ H'=>Q .non H',rt:=Q } (L2.start [x1,x2,x3,x4,x5] (O.v::ws)) H:=by
 obtain⟨m,rfl,m0,m1,q⟩:=q
 obtain⟨a,l,hv,ma,ml,h1,h2⟩:=hφ.ex
 obtain⟨n,c,pl,cs,pa⟩:=h1 H p
 cases is with
 | cons i1 is =>
   cases is
   cases i1
   rw[hv]
   exact zug pa m0 m1 λk H' n' c' pl' k0 k1 pa' st=>kk _ (q k k0 k1) _ H' (z0t ma ml h2 pa pa' st) (.int k)
end L3
namespace L33
open PySem PySem.Spec
open PyProof.Rows hiding St
open L2 L3
def top(i:Nat):Stmt:=PySem.Challenge.pw_lostpost_k33_standings_told.main.body.getD i (.Pass ⟨0,0,0,0⟩)
section
variable {P : Program} {w : World} {K : Qa} {mg : Str → Option Value} {base : Heap} {k : Nat}
abbrev zdx(P:Program)(w:World)(K:Qa)(mg:Str->Option Value)(base:Heap):Prop:=Def3 P w K mg base 1 "_law_draw" ["_law_state", "_law_many"] (spD K IsState 1 zhn)
abbrev zp0:Stmt:=top 26
theorem z2m:FnScope ["_law_state", "_law_many", "_law_found", "_law_cell", "_law_number"] ["_law_state", "_law_many"] (zah zp0):=⟨rfl,rfl,rfl,by decide +kernel,rfl,by decide +kernel,by decide +kernel⟩
theorem zag(B:Blt mg)(T:Top3 K mg "_law_draw" zp0):Def3 P w K mg base 1 "_law_draw" ["_law_state", "_law_many"] (spD K IsState 1 zhn):=by
 obtain⟨f,fd,Fu,m⟩:=T.ex
 refine⟨f,fd,Fu.ok z2m (zoh rfl) (λcdv A outer s H vs Q E hr h=>?_),m,Fu.kp,Fu.binds (λ_ _ _ _ _ _ us hl=>len2 hl λ_ _=>rfl)⟩
 obtain⟨O,ds,ws,Qr,ok,hφ,p,hl,rfl,is,q,kk⟩:=h
 have nd:(["_law_state", "_law_many", "_law_found", "_law_cell", "_law_number"]:List Str).Nodup:=by decide +kernel
 refine⟨zme K,?_,zpv hφ p is q kk⟩
 exact(zbg (zgq (zbf op_add (zb1 ix_list (zap (i:=0) rfl (by first|exact Or.inl rfl|exact Or.inr (Or.inl rfl)|exact Or.inr (Or.inr rfl))) zat (λ_ _=>rfl)) zat) (ziw (zap (i:=0) rfl (by first|exact Or.inl rfl|exact Or.inr (Or.inl rfl)|exact Or.inr (Or.inr rfl))) zat zgh)) (zbg (zhl (zeh zlj (zb1 ix_list (zap (i:=0) rfl (by first|exact Or.inl rfl|exact Or.inr (Or.inl rfl)|exact Or.inr (Or.inr rfl))) zat (λ_ _=>rfl)) zat (zbm _)) (zbg (zcn (i:=2) nd rfl (by first|exact Or.inl rfl|exact Or.inr rfl) (zbf zdm (zb1 ix_list (zap (i:=0) rfl (by first|exact Or.inl rfl|exact Or.inr (Or.inl rfl)|exact Or.inr (Or.inr rfl))) zat (λ_ _=>rfl)) (zap (i:=1) rfl (by first|exact Or.inl rfl|exact Or.inr (Or.inl rfl)|exact Or.inr (Or.inr rfl))))) (zbg (zgq (zbf zpa (zb1 ix_list (zap (i:=0) rfl (by first|exact Or.inl rfl|exact Or.inr (Or.inl rfl)|exact Or.inr (Or.inr rfl))) zat (λ_ _=>rfl)) (zap (i:=1) rfl (by first|exact Or.inl rfl|exact Or.inr (Or.inl rfl)|exact Or.inr (Or.inr rfl)))) (ziw (zap (i:=0) rfl (by first|exact Or.inl rfl|exact Or.inr (Or.inl rfl)|exact Or.inr (Or.inr rfl))) zat zgh)) (zcp (zgr (zap (i:=2) rfl (by first|exact Or.inl rfl|exact Or.inr (Or.inl rfl)|exact Or.inr (Or.inr rfl))))))) zhk) (zbg (zcn (i:=3) nd rfl (by first|exact Or.inl rfl|exact Or.inr rfl) zat) (zbg (zhl (zeh zp7 (zb1 ix_list (zap (i:=0) rfl (by first|exact Or.inl rfl|exact Or.inr (Or.inl rfl)|exact Or.inr (Or.inr rfl))) zat (λ_ _=>rfl)) (zfv zfu rfl B.len zjs (zbo (zb1 ix_list (zap (i:=0) rfl (by first|exact Or.inl rfl|exact Or.inr (Or.inl rfl)|exact Or.inr (Or.inr rfl))) zat (λ_ _=>rfl)) zcl)) (zbm _)) (zbg (zcn (i:=3) nd rfl (by first|exact Or.inl rfl|exact Or.inr rfl) (zb1 ix_list (zb1 ix_list (zap (i:=0) rfl (by first|exact Or.inl rfl|exact Or.inr (Or.inl rfl)|exact Or.inr (Or.inr rfl))) zat (λ_ _=>rfl)) (zb1 ix_list (zap (i:=0) rfl (by first|exact Or.inl rfl|exact Or.inr (Or.inl rfl)|exact Or.inr (Or.inr rfl))) zat (λ_ _=>rfl)) (λ_ _=>rfl))) (zbg (zgq (zbf op_add (zb1 ix_list (zap (i:=0) rfl (by first|exact Or.inl rfl|exact Or.inr (Or.inl rfl)|exact Or.inr (Or.inr rfl))) zat (λ_ _=>rfl)) zat) (ziw (zap (i:=0) rfl (by first|exact Or.inl rfl|exact Or.inr (Or.inl rfl)|exact Or.inr (Or.inr rfl))) zat zgh)) (zcp (zhl (zeh zv8 (zap (i:=3) rfl (by first|exact Or.inl rfl|exact Or.inr (Or.inl rfl)|exact Or.inr (Or.inr rfl))) (zbf z3f zat zat) (zbm _)) (zbg (zgq (zbf zpa (zap (i:=3) rfl (by first|exact Or.inl rfl|exact Or.inr (Or.inl rfl)|exact Or.inr (Or.inr rfl))) (zap (i:=1) rfl (by first|exact Or.inl rfl|exact Or.inr (Or.inl rfl)|exact Or.inr (Or.inr rfl)))) (ziw (zap (i:=0) rfl (by first|exact Or.inl rfl|exact Or.inr (Or.inl rfl)|exact Or.inr (Or.inr rfl))) zat zgh)) (zcp (zgr (zbf zdm (zap (i:=3) rfl (by first|exact Or.inl rfl|exact Or.inr (Or.inl rfl)|exact Or.inr (Or.inr rfl))) (zap (i:=1) rfl (by first|exact Or.inl rfl|exact Or.inr (Or.inl rfl)|exact Or.inr (Or.inr rfl))))))) zhk)))) (zcp (zhl (zeh zlj (zfv zfu rfl B.len zjs (zbo (zb1 ix_list (zap (i:=0) rfl (by first|exact Or.inl rfl|exact Or.inr (Or.inl rfl)|exact Or.inr (Or.inr rfl))) zat (λ_ _=>rfl)) zcl)) zat (zbm _)) (zcp (zcn (i:=3) nd rfl (by first|exact Or.inl rfl|exact Or.inr rfl) (zb1 ix_list (zb1 ix_list (zap (i:=0) rfl (by first|exact Or.inl rfl|exact Or.inr (Or.inl rfl)|exact Or.inr (Or.inr rfl))) zat (λ_ _=>rfl)) (zbf zdm (zb1 ix_list (zap (i:=0) rfl (by first|exact Or.inl rfl|exact Or.inr (Or.inl rfl)|exact Or.inr (Or.inr rfl))) zat (λ_ _=>rfl)) (zfv zfu rfl B.len zjs (zbo (zb1 ix_list (zap (i:=0) rfl (by first|exact Or.inl rfl|exact Or.inr (Or.inl rfl)|exact Or.inr (Or.inr rfl))) zat (λ_ _=>rfl)) zcl))) (λ_ _=>rfl)))) zhk))) (zbg (zcn (i:=4) nd rfl (by first|exact Or.inl rfl|exact Or.inr rfl) (zbf zdm (zbf op_add (zbf op_add (zbf op_mul (zbf zdm (zap (i:=3) rfl (by first|exact Or.inl rfl|exact Or.inr (Or.inl rfl)|exact Or.inr (Or.inr rfl))) zat) zat) (zbf op_mul zat (zb1 ix_list (zap (i:=0) rfl (by first|exact Or.inl rfl|exact Or.inr (Or.inl rfl)|exact Or.inr (Or.inr rfl))) zat (λ_ _=>rfl)))) zat) zat)) (zbg (zcn (i:=4) nd rfl (by first|exact Or.inl rfl|exact Or.inr rfl) (zbf zdm (zbf op_add (zbf op_mul (zap (i:=4) rfl (by first|exact Or.inl rfl|exact Or.inr (Or.inl rfl)|exact Or.inr (Or.inr rfl))) (zap (i:=4) rfl (by first|exact Or.inl rfl|exact Or.inr (Or.inl rfl)|exact Or.inr (Or.inr rfl)))) (zbf op_mul zat (zb1 ix_list (zap (i:=0) rfl (by first|exact Or.inl rfl|exact Or.inr (Or.inl rfl)|exact Or.inr (Or.inr rfl))) zat (λ_ _=>rfl)))) zat)) (zbg (zcn (i:=4) nd rfl (by first|exact Or.inl rfl|exact Or.inr rfl) (zbf zdm (zbf op_add (zbf op_mul (zap (i:=4) rfl (by first|exact Or.inl rfl|exact Or.inr (Or.inl rfl)|exact Or.inr (Or.inr rfl))) zat) zat) zat)) (zcp (zgr (zbf zdm (zbf zdm (zbf op_mul (zap (i:=4) rfl (by first|exact Or.inl rfl|exact Or.inr (Or.inl rfl)|exact Or.inr (Or.inr rfl))) (zap (i:=4) rfl (by first|exact Or.inl rfl|exact Or.inr (Or.inl rfl)|exact Or.inr (Or.inr rfl)))) zat) (zap (i:=1) rfl (by first|exact Or.inl rfl|exact Or.inr (Or.inl rfl)|exact Or.inr (Or.inr rfl)))))))))))))
end
end L33
namespace L3
open PySem PySem.Spec
open PyProof.Rows hiding St
open L2
theorem zok{neg:Bool}{x y:Str}(hx:ZX x=true)(hy:ZX y=true):eqF neg (.str x) (.str y)=some (.o (.bool (if neg then !(x == y) else x == y))):=by
 unfold eqF
 rw[if_pos (by simp[okD,Je,JA,hx,hy])]
 rfl
theorem zi8{v w:List Nat}(h:tx v=tx w):v=w:=by
 have:=congrArg (λx:Str=>x.cps.toList) h
 simpa[tx] using this
theorem z2t(v w:List Nat):(tx v == tx w)=decide (v=w):=by
 by_cases e:v=w
 ·subst e;simp
 ·rw[decide_eq_false e]
  exact beq_eq_false_iff_ne.mpr λh=>e (zi8 h)
theorem zei{neg:Bool}{i j:Int}:eqF neg (.int i) (.int j)=some (.o (.bool (if neg then !decide (i=j) else decide (i=j)))):=by
 unfold eqF
 have e:(okD (YM i) && (YM j).canLay0)=true:=by simp[okD,Je,JA]
 rw[if_pos e]
 rfl
theorem zba{α:Type}{enc:α->PyData}{i:Nat}{fe:DE}{ρ:DSt}{Q:List PyData->Prop}{as:List α}{e:α->PyData}{h:Nat}(step:∀ a ∈ as,∀ P:R->Prop,(∀ r,r.d=e a->P r)->fe ((Qf h none++ρ).set i (some (.im (enc a)))) P)(hz:as.length<=sizeLine)(q:Q (as.map e)) :
 za3 h (gN i) yesD fe ρ Q (as.map enc) []:=by
 have key:∀ (as:List α) (acc:List PyData),(∀ a ∈ as,∀ P:R->Prop,(∀ r,r.d=e a->P r)->fe ((Qf h none++ρ).set i (some (.im (enc a)))) P)->acc.length+as.length<=sizeLine->Q (acc++as.map e)->za3 h (gN i) yesD fe ρ Q (as.map enc) acc:=by
  intro as
  induction as with
  | nil=>intro acc _ _ q;show Q acc;simpa using q
  | cons a as ih =>
    intro acc st hz q
    rw[Qm] at hz
    refine st a Qj _ λr hr=>?_
    refine⟨by omega,?_⟩
    rw[hr]
    exact ih (acc ++ [e a]) (λa' ha=>st a' (Qe _ ha)) (by rw[Qg];simp;omega) (by simpa using q)
 exact key as [] step (by simpa using hz) (by simpa using q)
theorem zbk{g:DG}{gb:DS}{Dd:DEnds}{ds:List PyData}{ρ:DSt}(J:Nat->DSt->Prop)(h0:J 0 ρ)(fin:∀ ρ,J ds.length ρ->Dd.nx ρ)
 (step:∀ (j:Nat) d ρ (N:DSt->Prop),ds[j]? = some d->(∀ ρ',J (j+1) ρ'->N ρ')->J j ρ->flat d=true/\g d ρ λρ2=>gb { Dd with nx:=N,ct:=N,bk:=Dd.nx } ρ2):zf3 g gb Dd ds ρ:=by
 have key:∀ (k j:Nat),j+k=ds.length->∀ ρ,J j ρ->zf3 g gb Dd (ds.drop j) ρ:=by
  intro k
  induction k with
  | zero =>
    intro j hj ρ h
    rw[ZY (by omega)]
    have e:j=ds.length:=by omega
    rw[e] at h
    exact fin ρ h
  | succ k ih =>
    intro j hj ρ h
    have hlt:j<ds.length:=by omega
    rw[Zm hlt]
    exact step j ds[j] ρ _ (Ql hlt) (λρ' h'=>ih (j+1) (by omega) ρ' h') h
 have:=key ds.length 0 (by omega) ρ h0
 simpa using this
theorem zgx(lo:Int)(n:Nat):(zdv lo n).length=n:=by simp[zdv]
theorem zpk(w:List Nat):(sgs (tx w)).length=w.length:=by simp[sgs,tx]
theorem zoy{w:List Nat}{j:Nat}{d:PyData}(h:(sgs (tx w))[j]? = some d):∃ c,w[j]? = some c/\d = .str (sg c):=by
 unfold sgs at h
 rw[zbd,Qy] at h
 obtain⟨c,hc,rfl⟩:=QA.mp h
 exact⟨c,hc,rfl⟩
theorem zal{α:Type}{f:α->PyData}(h:∀ a,flat (f a)=true):∀ l:List α,flats (l.map f)=true
 | []=>rfl
 | a::l=>by rw[Q2,flats,h a,zal h l];rfl
abbrev LowW(w:List Nat):Prop:=∀ c ∈ w,zvz c
theorem zb4(w:List Nat):(tx w).length=w.length:=by simp[tx,YH]
theorem zcx{w:List Nat}(h:w.length<=16777216):lenF [.str (tx w)]=some (.o (.int w.length)):=by
 unfold lenF
 dsimp only
 rw[zb4,if_pos (by rw[sizeLine_eq];exact h)]
theorem zdc{w:List Nat}{k:Nat}(h:k<w.length)(hl:w.length<=16777216):idxF (.str (tx w)) (.int (k:Nat))=some (.o (.str (tx [w[k]]))):=by
 unfold idxF
 dsimp only
 rw[zb4,if_pos (by rw[sizeLine_eq];exact hl),zbd,zhe (v:=w[k]) (by rw[Ql h])]
 rfl
theorem zen{v w:List Nat}(h:v.length+w.length<=16777216):addF (.str (tx v)) (.str (tx w))=some (.o (.str (tx (v++w)))):=by
 unfold addF
 dsimp only
 rw[zb4,zb4,if_pos (by rw[sizeLine_eq];exact h)]
 have e:tx v++tx w=tx (v++w):=by
  show Str.mk _=Str.mk _
  simp[tx]
 rw[e]
theorem zhu(n d m:Nat):HT.sIx n d (some (m:Int))=min m n:=by
 have:=zij n d (m:Int)
 rw[if_neg (by omega)] at this
 omega
theorem znq(n d:Nat):HT.sIx n d none=d:=rfl
theorem zcc{α:Type}(xs:List α)(m:Nat):cutL xs none (some (m:Int))=xs.take m:=by
 unfold cutL
 rw[zhu,znq,YL,Nat.sub_zero,j1,Nat.min_assoc,Nat.min_self,<- j1]
theorem zcm{α:Type}(xs:List α)(m:Nat):cutL xs (some (m:Int)) none=xs.drop m:=by
 unfold cutL
 rw[zhu,znq]
 rcases Nat.le_total m xs.length with h|h
 ·rw[jw h,J8 (by rw[QD];exact Qo _)]
 ·rw[qv h,ZY (Qo _),ZY h,qV]
theorem zbv{v:List Nat}{lo hi:Option Int}(h:v.length<=16777216):slcF lo hi (.str (tx v))=some (.o (.str (tx (cutL v lo hi)))):=by
 unfold slcF
 dsimp only
 rw[zb4,zbd,if_pos (by rw[sizeLine_eq];exact h)]
theorem zda{o:Nat}{m:Int}{ρ:DSt}{Q:R->Prop}(hρ:ρ[o]? = some (some .ob))(h0:0<m)(h1:m<1073741824)(q:∀ k:Nat,(k:Int)<m->Q (.o (.int (k:Nat)))):calO o 1 zhn (ze6 (cD (.int m)) aNil) ρ Q:=by
 refine⟨hρ,rfl,m,rfl,h0,h1,λk k0 k1=>?_⟩
 have:=q k.toNat (by omega)
 rwa [show((k.toNat:Nat):Int)=k by omega] at this
theorem zvb{o i:Nat}{d:PyData}{n:Nat}{ρ:DSt}{Q:R->Prop}(hρ:ρ[o]? = some (some .ob)){v:DV}(hi:ρ[i]? = some (some v))(hv:seeR v=some d)(hl:lenF [d]=some (.o (.int (n:Nat))))(h0:0<n)(h1:n<1073741824)(q:∀ k:Nat,k<n->Q (.o (.int (k:Nat)))) :
 calO o 1 zhn (ze6 (zcb (fn1 lenF) (ze6 (vD i) aNil)) aNil) ρ Q:=by
 refine⟨hρ,_,_,hi,hv,_,hl,rfl,_,rfl,by omega,by omega,λk k0 k1=>?_⟩
 have:=q k.toNat (by omega)
 rwa [show((k.toNat:Nat):Int)=k by omega] at this
theorem zk4{o i:Nat}{ls:List Nat}{ρ:DSt}{Q:R->Prop}(hρ:ρ[o]? = some (some .ob))(hi:ρ[i]? = some (some (.im (.str (tx ls)))))(hn:ls ≠ [])(hl:ls.length<=1000)(q:∀ c ∈ ls,Q (.o (.str (tx [c])))) :
 opDE (fn2 idxF) (vD i) (calO o 1 zhn (ze6 (zcb (fn1 lenF) (ze6 (vD i) aNil)) aNil)) ρ Q:=by
 have h0:0<ls.length:=Jw.mpr hn
 refine⟨_,_,hi,rfl,zvb hρ hi rfl (zcx (by omega)) h0 (by omega) λk hk=>⟨_,zdc hk (by omega),q _ (QL hk)⟩⟩
theorem znr{α β:Type}{enc:α->PyData}{enc2:β->PyData}{good:β->Prop}{i h:Nat}{ft:DT}{fe:DE}{ρ:DSt}{Q:List PyData->Prop}{as:List α}
 (step:∀ a ∈ as,∀ (Pn:Prop) (Py:PyData->Prop),Pn->(∀ b,good b->Py (enc2 b))->ft ((Qf h none++ρ).set i (some (.im (enc a)))) λt=>if t=true then fe ((Qf h none++ρ).set i (some (.im (enc a)))) (λr=>Py r.d) else Pn)
 (hz:as.length<=1000) (q:∀ bs:List β,(∀ b ∈ bs,good b)->bs.length<=as.length->Q (bs.map enc2)):za3 h (gN i) ft fe ρ Q (as.map enc) []:=by
 have sz:=sizeLine_eq
 have key:∀ (l:List α) (bs:List β),(∀ a ∈ l,a ∈ as)->(∀ b ∈ bs,good b)->bs.length+l.length<=as.length->za3 h (gN i) ft fe ρ Q (l.map enc) (bs.map enc2):=by
  intro l
  induction l with
  | nil=>intro bs _ hb hl;exact q bs hb hl
  | cons a l ih =>
    intro bs hs hb hl
    rw[Qm] at hl
    refine step a (hs a Qj) _ (λd=>(bs.map enc2).length<sizeLine/\za3 h (gN i) ft fe ρ Q (l.map enc) (bs.map enc2 ++ [d])) (ih bs (λx hx=>hs x (Qe _ hx)) hb (by omega)) λb gb=>⟨by rw[Qb];omega,?_⟩
    have:=ih (bs ++ [b]) (λx hx=>hs x (Qe _ hx)) (λx hx=>by rcases Q6.mp hx with hx|hx; (exact hb x hx); (rw[Q3.mp hx];exact gb)) (by rw[Qg];simp;omega)
    rwa [QR] at this
 exact key as [] (λ_ h=>h) (by simp) (by simp)
theorem zko(ws:List Nat)(hl:ws.length<=1000):∃ ys:List Str,JI (ws.map λc => .str (tx [c])) = .list (ys.map .str)/\(ys.map (·.length)).sum+ys.length * (Qp "").length<=16777216/\J0 "" ys=tx ws:=by
 refine⟨ws.map sg,by rw[QB];rfl,?_,zxs ws⟩
 have e0:(Qp "").length=0:=by decide +kernel
 rw[z0r,e0]
 omega
theorem zx3{g k:DS}{Dd:DEnds}{ρ:DSt}(J:DSt->Prop)(hg:∀ N:DSt->Prop,(∀ ρ,J ρ->N ρ)->g { Dd with nx:=N } ρ)(hk:∀ ρ,J ρ->k Dd ρ):seqD g k Dd ρ:=hg (k Dd) hk
theorem zdr{α β:Type}(f:α->β)(xs:List α)(lo hi:Option Int):cutL (xs.map f) lo hi=(cutL xs lo hi).map f:=by
 unfold cutL
 rw[Qb,qW,List.map_drop]
theorem ztd:Qp "abcdefghijklmnopqrstuvwxyz" = tx abc:=by decide +kernel
theorem zzw:LowW abc:=by unfold LowW zvz;decide
def zi2(K:Qa):Sp:=λvs H Q _=>∃ (a:Addr) (ns:List Int),vs = [.ref a]/\SqL K H a (ns.map V.int)/\ns.length<=63/\∀ H',Q (.bl true) H'
section
open PySem PySem.Builtin PySem.Builtin.Str
def sOk(x:Yb):Prop:=∀ c ∈ x.cps.toList,c<0x110000
theorem zsm{x:Yb}:ZX x=true↔sOk x:=by
 unfold ZX sOk
 rw[Array.all_eq_true']
 simp
end
open PySem PySem.Spec
open PyProof.Rows hiding St
open L2
theorem zgi{α:Type}{f:α->PyData}:∀ {l:List α},(∀ a ∈ l,(f a).canLay0=true)->Z3 (l.map f)=true
 | [],_=>rfl
 | a::l,h=>by rw[Q2,Z3,h a Qj,zgi λx hx=>h x (Qe _ hx)];rfl
theorem zgv{α:Type}{f:α->PyData}{n:Nat}:∀ {l:List α},(∀ a ∈ l,(f a).depth<=n)->JX (l.map f)<=n
 | [],_=>by simp[JX]
 | a::l,h=>by
   rw[Q2,JX]
   exact Nat.max_le.mpr ⟨h a Qj,zgv λx hx=>h x (Qe _ hx)⟩
theorem zdo{neg:Bool}{a b:Bool}:eqF neg (.bool a) (.bool b)=some (.o (.bool (if neg then !(a == b) else a == b))):=by
 unfold eqF
 have e:(okD (qD a) && (qD b).canLay0)=true:=by simp[okD,Je,JA]
 rw[if_pos e]
 cases neg <;> cases a <;> cases b <;> rfl
section
variable {K : Qa} {O : Ob}
def disS(m:Nat)(g:DS):DS:=λDd ρ=>g Dd ρ\/∃ ds,ρ[m]? = some (some (.own ds))/\g Dd (ρ.set m (some (.im (.list ds))))
theorem z1x{m:Nat}{t:TS}{g:DS}(h:SD K O t g):SD K O t (disS m g):=λH₀ A σ H ρ D Dd r q P=>by
 rcases q with q|⟨ds,e,q⟩
 ·exact h H₀ A σ H ρ D Dd r q P
 ·exact h H₀ _ σ H _ D Dd (r.disown e) q (P.frm (.setIm (.refl _ _)))
end
section
variable {ι κ : Type} {P : Program} {w : World} {K : Qa} {mg : Str → Option Value} {base : Heap} {k : Nat} {X : ι → Cx} {O : κ → Ob} {st : Stmt} {g : DS} {pos : Pos}
theorem zwa(m:Nat)(h:S3 K X O st g):S3 K X O st (disS m g):=let ⟨t,p,d⟩:=h; ⟨t,p,λj=>z1x (d j)⟩
end
theorem ziu:fillsNumberSlot (.type "tuple") "mul" = pure false :=
 PySem.fillsNumberSlot_seq (id := "tuple.__mul__") (r:=some (.builtin "tuple.__rmul__")) JL.lookup (by decide +kernel) qf.lookup (by decide +kernel)
theorem zmm:seqRepeat? (.type "tuple")=pure (some (.builtin "tuple.__mul__")):=by
 unfold seqRepeat?
 rw[qw (T := "tuple") (name := "__mul__") (id := "tuple.__mul__") JL.lookup (by decide +kernel),qw (T := "tuple") (name := "__rmul__") (id := "tuple.__rmul__") qf.lookup (by decide +kernel)]
 rfl
theorem zke(a:Int)(t:Tok)(l:Addr)(items:Array Value)(n:Nat)(dd:Option Addr)(sl:Array (Option Value)) :
 Meets (Builtin.«int.__rmul__» ⟨[.int a t,.ref l],[]⟩) (λ_ R s=>s.heap.get? l=some { cls := .type "tuple", dict:=dd,data := .seq items n,slots:=sl }/\R (.ok (.ret Value.notImplemented)) s) :=
 .of_wp λprog w A R s h=>by obtain⟨hp,g,d,tk,os⟩:=s;obtain⟨hl,h⟩:=h;wp_walk;exact⟨_,rfl,h⟩
theorem zkb(l:Addr)(items:Array Value)(n:Nat)(dd:Option Addr)(sl:Array (Option Value))(x:Int)(u:Tok)(hr:(decide (x < -2 ^ 63) || decide (x ≥ 2 ^ 63))=false)(h1:(items.isEmpty || x == 1)=true) :
 Meets (Builtin.«tuple.__mul__» ⟨[.ref l,.int x u],[]⟩) (λ_ R s=>s.heap.get? l=some { cls := .type "tuple", dict:=dd,data := .seq items n,slots:=sl }/\R (.ok (.ret (.ref l))) s) :=
 .of_wp λprog w A R s h=>by obtain⟨hp,g,d,tk,os⟩:=s;obtain⟨hl,h⟩:=h;wp_walk;refine wpAny_ite_false (decide_eq_false (by rw[hr];exact Qn)) ?_;wp_walk;exact⟨_,rfl,h⟩
theorem zkn(l:Addr)(items:Array Value)(n:Nat)(dd:Option Addr)(sl:Array (Option Value))(x:Int)(u:Tok)(hr:(decide (x < -2 ^ 63) || decide (x ≥ 2 ^ 63))=false)(h1:¬ (items.isEmpty || x == 1)=true)(h2:(decide (x<=0) || items.isEmpty)=true) :
 Meets (Builtin.«tuple.__mul__» ⟨[.ref l,.int x u],[]⟩) (λ_ R s=>s.heap.get? l=some { cls := .type "tuple", dict:=dd,data := .seq items n,slots:=sl }/\R (.ok (.ret (.ref s.heap.objs.size))) { s with heap:=s.heap.push { cls:=JZ "tuple", data:=zh #[] },toks:=s.toks }) :=
 .of_wp λprog w A R s h=>by obtain⟨hp,g,d,tk,os⟩:=s;obtain⟨hl,h⟩:=h;wp_walk;refine wpAny_ite_false (decide_eq_false (by rw[hr];exact Qn)) ?_;wp_walk;exact⟨_,rfl,h⟩
theorem zkk(l:Addr)(items:Array Value)(n:Nat)(dd:Option Addr)(sl:Array (Option Value))(x:Int)(u:Tok)(hr:(decide (x < -2 ^ 63) || decide (x ≥ 2 ^ 63))=false)(h1:¬ (items.isEmpty || x == 1)=true)(h2:¬ (decide (x<=0) || items.isEmpty)=true)(h3:¬ (items.size:Int) * x > (2 ^ 63 - 1) / 8)(h4:¬ YN ((items.size:Int) * x)=true)(h5:(Yq (λx1 x2=>x1++x2) #[] (Qf x.toNat items)).size<=sizeLine) :
 Meets (Builtin.«tuple.__mul__» ⟨[.ref l,.int x u],[]⟩) (λ_ R s=>s.heap.get? l=some { cls := .type "tuple", dict:=dd,data := .seq items n,slots:=sl }/\R (.ok (.ret (.ref s.heap.objs.size))) { s with heap:=s.heap.push { cls:=JZ "tuple", data:=zh (Yq (λx1 x2=>x1++x2) #[] (Qf x.toNat items)) },toks:=s.toks }) :=
 .of_wp λprog w A R s h=>by obtain⟨hp,g,d,tk,os⟩:=s;obtain⟨hl,h⟩:=h;wp_walk;refine wpAny_ite_false (decide_eq_false (by rw[hr];exact Qn)) ?_;wp_walk;refine wpAny_ite_false (decide_eq_false h3) ?_;wp_walk;exact⟨_,rfl,h⟩
section
variable {X : Cx}
def zwp(K:Qa):R2:=λx y H Q=>∃ a k xs,x = .ref a/\y = .int k/\SqT K H a xs/\-(2 ^ 63)<=k/\k<2 ^ 63/\xs.length * k.toNat<=sizeLine /\
 ((xs = []\/k=1)->Q (.ref a) H)/\(¬ (xs = []\/k=1)->∀ p,H p=none->Q (.ref p) (upd H p (.tup (Qf k.toNat xs).flatten)))
theorem zzx:OpR X (binaryOp .Mult) (zwp X.K):=by
 intro pins s σ H x y v u Q I rx ry h
 obtain⟨a,k,xs,rfl,rfl,hS,h1,h2,hz,q1,q2⟩:=h
 cases rx
 obtain⟨t,rfl⟩:=ry
 obtain⟨its,r1,p1,_⟩:=I.tuple hS
 obtain⟨⟨cls,dd,data,sl⟩,ho,hc,n,hd⟩:=id p1
 simp only at hc hd
 subst hc hd
 have hlen:=r1.length
 have hr:(decide (k < -2 ^ 63) || decide (k ≥ 2 ^ 63))=false:=by
  rw[decide_eq_false (by omega),decide_eq_false (by omega)];rfl
 have nil:its.toArray.isEmpty=true↔xs = []:=by
  rw[<- r1.nil_iff]
  simp
 have go:∀ {R:Value->Shared->Prop},wpAny (model X.prog X.w) X.A (call (.builtin "tuple.__mul__") [.ref a,.int k t]) R X.xe s->wpAny (model X.prog X.w) X.A (binaryOp .Mult (.ref a) (.int k t)) R X.xe s:=λ{R} hh =>
  wpAny_binaryOp_repeat_ref (T := "tuple") (U := "int") (by decide) ⟨_,ho,rfl⟩ (λs'=>typeIs_int s' k t) ziu F.fills_int_mul Y0 zmm qt.lookup
   (call_meets Y0 (typeIs_int s k t) qu (qd _ _) (zke k t a its.toArray n dd sl) ⟨ho,rfl,⟨_,ho,rfl⟩,hh⟩)
 by_cases hc:xs = []\/k=1
 ·refine go (call_meets JL ⟨_,ho,rfl⟩ YY (YO _ _) (zkb a its.toArray n dd sl k t hr ?_) ⟨ho,⟨.ref a,H,I,rfl,q1 hc⟩⟩)
  rcases hc with e|e
  ·rw[nil.mpr e];rfl
  ·rw[e];simp
 ·have hx:xs ≠ []:=λe=>hc (.inl e)
  have hk:k ≠ 1:=λe=>hc (.inr e)
  have hne:its.toArray.isEmpty=false:=by
   cases e:its.toArray.isEmpty with
   | false=>rfl
   | true=>exact absurd (nil.mp e) hx
  have hb:¬ (its.toArray.isEmpty || k == 1)=true:=by rw[hne];simp[hk]
  by_cases h0:k<=0
  ·refine go (call_meets JL ⟨_,ho,rfl⟩ YY (YO _ _) (zkn a its.toArray n dd sl k t hr hb (by rw[decide_eq_true h0];rfl)) ⟨ho,?_⟩)
   have e0:k.toNat=0:=by omega
   have q:=q2 hc s.heap.objs.size (I.hok.fresh (Qo _))
   rw[e0] at q
   exact⟨.ref s.heap.objs.size,_,I.laid (t':=s.toks) (o := .tup []) (λb ob q=>Qc _ q) (Qo _) ⟨QH _,_,.nil,je _ _⟩,rfl,q⟩
  ·have hsz:(its.toArray.size:Int) * k=((xs.length * k.toNat:Nat):Int):=by
    rw[Qx,<- hlen]
    rw[qF]
    congr 1
    omega
   have hnew:Yq (λx1 x2=>x1++x2) #[] (Qf k.toNat its.toArray)=(Qf k.toNat its).flatten.toArray:=by
    have:=zgs its k.toNat []
    rw[JU] at this
    exact this
   have sz:=sizeLine_eq
   refine go (call_meets JL ⟨_,ho,rfl⟩ YY (YO _ _) (zkk a its.toArray n dd sl k t hr hb (by rw[hne,decide_eq_false h0];exact Qn) (by rw[hsz];omega) (by rw[hsz];unfold YN;rw[decide_eq_false (by omega)];exact Qn) (by rw[hnew,Qx,zhx,<- hlen,jp];exact hz)) ⟨ho,?_⟩)
   rw[hnew]
   exact⟨.ref s.heap.objs.size,_,I.laid (t':=s.toks) (o := .tup (Qf k.toNat xs).flatten) (λb ob q=>Qc _ q) (Qo _) ⟨by rw[zhx,jp];exact hz,_,r1.rep k.toNat,je _ _⟩,rfl,q2 hc _ (I.hok.fresh (Qo _))⟩
def zwu:R2:=λx y H Q=>∃ i k,x = .str i/\y = .int k/\-(2 ^ 63)<=k/\k<2 ^ 63/\i.length * k.toNat<=sizeLine/\Q (.str (tx (Qf k.toNat i.cps.toList).flatten)) H
theorem ziz(w:List Nat):∀ (k:Nat) (acc:List Nat),Yq (λx1 x2=>x1++x2) acc.toArray (Qf k w.toArray)=(acc++(Qf k w).flatten).toArray
 | 0,acc=>by simp
 | k+1,acc=>by
   rw[QV,Jl,List.append_toArray,ziz w k (acc++w),QV,QY,Jn]
theorem op_repS:OpR X (binaryOp .Mult) zwu:=by
 intro pins s σ H x y v u Q I rx ry h
 obtain⟨i,k,rfl,rfl,h1,h2,hz,q⟩:=h
 obtain⟨t,rfl⟩:=rx
 obtain⟨t2,rfl⟩:=ry
 have sz:=sizeLine_eq
 have hr:(decide (k < -(2 ^ 63:Int)) || decide (k ≥ 2 ^ 63))=false:=by
  rw[decide_eq_false (by omega),decide_eq_false (by omega)];rfl
 have hlen:i.length=i.cps.toList.length:=by simp[YH]
 have hnew:(⟨(Qf k.toNat i.cps).foldl (· ++ ·) #[]⟩:Str)=tx (Qf k.toNat i.cps.toList).flatten:=by
  have:=ziz i.cps.toList k.toNat []
  rw[JU] at this
  show Str.mk _=Str.mk _
  rw[<- this]
 refine PySem.P.mul_str hr (λn1 nn=>?_) (λn1 nn=>?_) ?_
 ·have hk:0<k.toNat:=by omega
  have h3:i.length<=sizeLine:=Q4 (Nat.le_mul_of_pos_right _ hk) hz
  intro hh
  have h4:(i.length:Int) * k<=16777216:=by
   have:((i.length * k.toNat:Nat):Int)<=16777216:=by omega
   rwa [qF,show((k.toNat:Nat):Int)=k by omega] at this
  have h5:=Int.lt_of_lt_of_le (Int.lt_mul_of_ediv_lt (by omega:(0:Int)<k) hh) h4
  omega
 ·unfold Builtin.Str.tooLong
  exact decide_eq_false (by omega)
 ·by_cases c1:k<1
  ·rw[if_pos c1]
   have e0:k.toNat=0:=by omega
   rw[e0] at q
   exact⟨by decide,.str _,H,I.tok _,⟨_,rfl⟩,q⟩
  ·rw[if_neg c1]
   by_cases c2:(k == 1 || i.length == 0)=true
   ·rw[if_pos c2]
    have e1:tx (Qf k.toNat i.cps.toList).flatten=i:=by
     rcases(JY _ _).mp c2 with e|e
     ·have:k=1:=by simpa using e
      subst this
      show tx ([i.cps.toList]:List (List Nat)).flatten=i
      simp[tx]
     ·have e:i.length=0:=by simpa using e
      have e2:i.cps.toList = []:=ZT (by omega)
      rw[e2]
      have:(Qf k.toNat ([]:List Nat)).flatten = []:=by simp
      rw[this]
      have e3:i.cps = #[]:=JK.mp e2
      cases i
      simp_all [tx]
    rw[e1] at q
    exact⟨.str i,H,I,⟨_,rfl⟩,q⟩
   ·rw[if_neg c2]
    refine⟨?_,.str _,H,I.tok _,⟨_,rfl⟩,?_⟩
    ·show YH _<=sizeLine
     rw[hnew,zb4,zhx,jp,<- hlen]
     exact hz
    ·show Q (.str _) H
     rw[hnew]
     exact q
end
def zwi(K:Qa):R2:=λx y H Q=>rI CMul (λi j => .int (i * j)) x y H Q\/zwu x y H Q\/rRep x y H Q\/zwp K x y H Q
theorem zyx{X:Cx}:OpR X (binaryOp .Mult) (zwi X.K):=op_mul.or (op_repS.or (op_rep.or zzx))
def mulD:PyData->PyData->(R->Prop)->Prop:=λd e Q=>∃ k:Int,e = .int k/\-(2 ^ 63)<=k/\k<2 ^ 63/\match d with
 | .int i=>CMul i k/\Q (.o (.int (i * k)))
 | .str x=>x.length * k.toNat<=sizeLine/\Q (.o (.str (tx (Qf k.toNat x.cps.toList).flatten)))
 | .list ds=>ds.length * k.toNat<=sizeLine/\Q (.n (Qf k.toNat ds).flatten)
 | .tuple ds=>ds.length * k.toNat<=sizeLine/\Q (.o (.tuple (Qf k.toNat ds).flatten))
 | _=>False
section
variable {K : Qa} {O : Ob} {F : Addr → Prop} {H : Hp}
theorem zg3{xs:List V}{ds:List PyData}(h:IsAll K F H xs ds):∀ k:Nat,IsAll K F H (Qf k xs).flatten (Qf k ds).flatten
 | 0 => .nil
 | k+1=>by
   rw[QV,QV,QY,QY]
   exact h.append (zg3 h k)
theorem zu1:OpD K O (zwi K) mulD:=λH x y d e Q Qd ok p ix iy ⟨k,he,h1,h2,q⟩ kk=>by
 subst he
 cases iy
 cases ix with
 | int i=>exact .inl ⟨_,_,rfl,rfl,q.1,kk _ H (.o _) (.refl _ _) (Is.int _) q.2⟩
 | str x=>exact .inr (.inl ⟨_,_,rfl,rfl,h1,h2,q.1,kk _ H (.o _) (.refl _ _) (Is.str _) q.2⟩)
 | list f1 h3 s1 =>
   refine .inr (.inr (.inl ⟨_,_,_,rfl,rfl,h3,h1,h2,by rw[s1.length];exact q.1,λp' hp=>?_⟩))
   obtain⟨a1,a2⟩:=zc5 ok hp (zg3 s1 k.toNat)
   exact kk _ _ _ a1 a2 q.2
 | tuple h3 s1 =>
   refine .inr (.inr (.inr ⟨_,_,_,rfl,rfl,h3,h1,h2,by rw[s1.length];exact q.1,λhc=>?_,λhc p' hp=>?_⟩))
   ·rcases hc with e|e
    ·subst e
     cases s1
     have e2:(Qf k.toNat ([]:List PyData)).flatten = []:=by simp
     have q2:=q.2
     rw[e2] at q2
     exact kk _ H (.o _) (.refl _ _) (Is.tuple h3 .nil) q2
    ·subst e
     have q2:=q.2
     have e2:∀ ds:List PyData,(Qf (1:Int).toNat ds).flatten=ds:=λds=>by simp
     rw[e2] at q2
     exact kk _ H (.o _) (.refl _ _) (Is.tuple h3 s1) q2
   ·obtain⟨a1,a2⟩:=zhg ok hp (zg3 s1 k.toNat)
    exact kk _ _ _ a1 a2 q.2
 | _=>exact q.elim
end
theorem zm0{ι κ:Type}{P:Program}{w:World}{K:Qa}{mg:Str->Option Value}{base:Heap}{k:Nat}{X:ι->Cx}{O:κ->Ob}{a b:Expr}{fa fb:DE}{pos:Pos}(C:Ctx3 P w K mg base k X)(ha:E3 K X O a fa)(hb:E3 K X O b fb):E3 K X O (.BinOp a .Mult b pos) (opDE mulD fa fb):=e_op (λi=>by have h:=zyx (X:=X i);rw[C.hK] at h;exact h) (λ_=>zu1) ha hb
theorem zf8{α:Type}{enc:α->PyData}{g:DG}{fe:DE}{ρ:DSt}{Q:List PyData->Prop}{as:List α}{e:α->PyData}{h:Nat}(step:∀ a ∈ as,∀ P:R->Prop,(∀ r,r.d=e a->P r)->g (enc a) (Qf h none++ρ) λρ2=>if true=true then fe ρ2 P else False)(mg:∀ d ρ (P P':DSt->Prop),(∀ ρ,P ρ->P' ρ)->g d ρ P->g d ρ P')(hz:as.length<=sizeLine)(q:Q (as.map e)) :
 za3 h g yesD fe ρ Q (as.map enc) []:=by
 have key:∀ (l:List α) (acc:List PyData),(∀ a ∈ l,a ∈ as)->acc.length+l.length<=sizeLine->Q (acc++l.map e)->za3 h g yesD fe ρ Q (l.map enc) acc:=by
  intro l
  induction l with
  | nil=>intro acc _ _ q;show Q acc;simpa using q
  | cons a l ih =>
    intro acc hs hz q
    rw[Qm] at hz
    refine mg _ _ _ _ (λρ2 z=>?_) (step a (hs a Qj) (λr=>acc.length<sizeLine/\za3 h g yesD fe ρ Q (l.map enc) (acc ++ [r.d])) λr hr=>⟨by omega,?_⟩)
    ·rw[if_pos rfl] at z
     exact iteT (B:=za3 h g yesD fe ρ Q (l.map enc) acc) z
    ·rw[hr]
     exact ih (acc ++ [e a]) (λx hx=>hs x (Qe _ hx)) (by rw[Qg];simp;omega) (by simpa using q)
 exact key as [] (λ_ h=>h) (by simpa using hz) (by simpa using q)
theorem zhp{is:List Nat}:∀ d ρ (P P':DSt->Prop),(∀ ρ,P ρ->P' ρ)->gT is d ρ P->gT is d ρ P':=by
 have key:∀ (is:List Nat) (ds:List PyData) ρ (P P':DSt->Prop),(∀ ρ,P ρ->P' ρ)->gTD is ds ρ P->gTD is ds ρ P':=by
  intro is
  induction is with
  | nil=>intro ds ρ P P' h z;cases ds with
    | nil=>exact h _ z
    | cons _ _=>exact z.elim
  | cons i is ih=>intro ds ρ P P' h z;cases ds with
    | nil=>exact z.elim
    | cons d ds=>exact ih ds _ P P' h z
 exact λd ρ P P' h ⟨ds,e,z⟩=>⟨ds,e,key _ _ _ _ _ h z⟩
theorem zje:∀ (l:List (List Nat)) (acc:Array Nat),(l.map tx).foldl (λacc p=>acc++(Qp "").cps++p.cps) acc=acc++l.flatten.toArray
 | [],acc=>by simp
 | c::r,acc=>by
   rw[Q2,Jl,zje r]
   have e:(Qp "").cps = #[]:=by decide +kernel
   rw[e]
   apply JK.mp
   simp[tx]
theorem zx6(w:List (List Nat)):J0 "" (w.map tx)=tx w.flatten:=by
 cases w with
 | nil=>decide +kernel
 | cons c r =>
   show Yj (Qp "") (tx c::r.map tx)=tx (c::r).flatten
   unfold Yj
   show(⟨(r.map tx).foldl _ (tx c).cps⟩:Str)=_
   rw[zje]
   unfold tx
   congr 1
   apply JK.mp
   simp
theorem z3z(w:List (List Nat)):((w.map tx).map (·.length)).sum=w.flatten.length:=by
 induction w with
 | nil=>rfl
 | cons c r ih=>rw[Q2,Q2,jb,ih,zb4,QY,Qg]
theorem zzk(ws:List (List Nat))(hl:ws.flatten.length<=16777216):∃ ys:List Str,JI (ws.map λv => .str (tx v)) = .list (ys.map .str)/\(ys.map (·.length)).sum+ys.length * (Qp "").length<=16777216/\J0 "" ys=tx ws.flatten:=by
 refine⟨ws.map tx,by rw[QB];rfl,?_,zx6 ws⟩
 have e0:(Qp "").length=0:=by decide +kernel
 rw[z3z,e0]
 omega
section
variable {K : Qa} {O : Ob} {X : Cx}
theorem zh4{F:Addr->Prop}{H:Hp}:∀ ws:List Str,IsAll K F H (ws.map V.str) (ws.map Z7)
 | [] => .nil
 | w::ws => .cons (.str w) (zh4 ws)
def chD(F F':PyData->PyData->(R->Prop)->Prop)(fa fb fc:DE):DE:=λρ Q=>fa ρ λa=>fb ρ λb=>F a.d b.d λz=>∃ k,z.d = .bool k/\(if k=true then fc ρ λc=>F' b.d c.d Q else Q (.o (.bool false)))
theorem zuv{r r':R2}{ta tb tc:TE}{F F':PyData->PyData->(R->Prop)->Prop}{fa fb fc:DE}(hr:OpD K O r F)(hr':OpD K O r' F')(ha:ED K O ta fa)(hb:ED K O tb fb)(hc:ED K O tc fc):ED K O (zrq r r' ta tb tc) (chD F F' fa fb fc):=λσ H ρ Q Qd S h k=>by
 refine ha σ H ρ _ _ S h λv H1 a s1 o1 h1=>?_
 refine hb σ H1 ρ _ _ (S.stp s1) h1 λw H2 b s2 o2 h2=>?_
 have p1:=s1.p S.p
 have p2:=s2.p p1
 have ib:=o2.is S.ok p1
 refine hr H2 v w a.d b.d _ _ S.ok p2 (Is.stp s2 (λ_ f=>f) (λ_ f=>f) (o1.is S.ok S.p)) ib h2 λz H3 c s3 o3 ⟨kk,e,h3⟩=>?_
 have iz:=o3.is S.ok p2
 rw[e] at iz
 cases iz
 refine⟨kk,rfl,?_⟩
 cases kk with
 | true =>
   refine hc σ H3 ρ _ _ (((S.stp s1).stp s2).stp s3) h3 λx H4 d s4 o4 h4=>?_
   have p3:=s3.p p2
   refine hr' H4 w x b.d d.d _ _ S.ok (s4.p p3) (Is.stp s4 (λ_ f=>f) (λ_ f=>f) (Is.stp s3 (λ_ f=>f) (λ_ f=>f) ib)) (o4.is S.ok p3) h4 λz H5 r5 s5 o5 h5=>?_
   exact k z H5 r5 ((((s1.trans s2).trans s3).trans s4).trans s5) (Out.ahead S.ok S.p (((s1.trans s2).trans s3).trans s4) o5) h5
 | false=>exact k _ H3 (.o (.bool false)) ((s1.trans s2).trans s3) (Is.bool false) h3
def rLeS:R2:=λx y H Q=>∃ i j:Str,x = .str i/\y = .str j/\Q (.bl (!decide (j.cps.toList<i.cps.toList))) H
theorem zk9:OpR X (compareOp .LtE) rLeS:=by
 intro pins s σ H x y v u Q I rx ry h
 obtain⟨i,j,rfl,rfl,q⟩:=h
 obtain⟨t,rfl⟩:=rx
 obtain⟨t',rfl⟩:=ry
 exact PySem.P.le_str ⟨.bl _,H,I,rfl,q⟩
def leSF:PyData->PyData->Option R:=λd e=>match d,e with
 | .str i,.str j=>some (.o (.bool (!decide (j.cps.toList<i.cps.toList))))
 | _,_=>none
theorem zo6:OpD K O rLeS (fn2 leSF):=λH x y d e Q Qd ok p ix iy ⟨r,hr,q⟩ k=>by
 unfold leSF at hr
 split at hr
 ·cases hr
  cases ix
  cases iy
  exact⟨_,_,rfl,rfl,k _ H (.o _) (.refl _ _) (Is.bool _) q⟩
 ·cases hr
def rStr:List V->Hp->VK->Prop:=λxs H Q=>(∃ i:Int,xs = [.int i]/\i.natAbs.log2<1920/\Q (.str (toString i)) H)\/∃ x:Str,xs = [.str x]/\Q (.str x) H
theorem zt1:CallR X (.type "str") rStr:=by
 intro pins s σ H xs us Q I r h
 rcases h with h|⟨x,rfl,q⟩
 ·exact zl3 pins s σ H xs us Q I r h
 ·obtain⟨u,rfl,t,rfl⟩:=ze7 r
  exact PySem.P.str_of_str ⟨.str x,H,I,⟨t,rfl⟩,q⟩
def strF:List PyData->Option R
 | [.int i]=>if i.natAbs.log2<1920 then some (.o (.str (toString i))) else none
 | [.str x]=>some (.o (.str x))
 | _=>none
theorem z3g:zed K O rStr (fn1 strF):=λH vs ds Q Qd ok p is ⟨r,hr,q⟩ k=>by
 unfold strF at hr
 split at hr
 ·obtain⟨v,rfl,iv⟩:=zbc is
  split at hr
  ·cases hr
   cases iv
   exact .inl ⟨_,rfl,by assumption,k _ H (.o _) (.refl _ _) (Is.str _) q⟩
  ·cases hr
 ·obtain⟨v,rfl,iv⟩:=zbc is
  cases hr
  cases iv
  exact .inr ⟨_,rfl,k _ H (.o _) (.refl _ _) (Is.str _) q⟩
 ·cases hr
theorem z2c:bootBuiltins "str" = some (.type "str"):=by decide +kernel
def zvw:List V->Hp->VK->Prop:=λxs H Q=>((∃ i,xs = [.int i]/\Q (.int i) H)\/∃ k,xs = [.bl k]/\Q (.int (if k then 1 else 0)) H)\/∃ x n,xs = [.str x]/\j6 x=some n/\x.length<=640/\Q (.int n) H
theorem zsc:CallR X (.type "int") zvw:=by
 intro pins s σ H xs us Q I r h
 rcases h with h|⟨x,n,rfl,hn,hl,q⟩
 ·exact zr2 pins s σ H xs us Q I r h
 ·obtain⟨u,rfl,t,rfl⟩:=ze7 r
  exact PySem.W.KIN.call_text hn hl ⟨.int n,H,I.tok _,⟨_,rfl⟩,q⟩
def zjh:List PyData->Option R
 | [.int i]=>some (.o (.int i))
 | [.bool b]=>some (.o (.int (if b then 1 else 0)))
 | [.str x]=>if x.length<=640 then(j6 x).map λn => .o (.int n) else none
 | _=>none
theorem zxp:zed K O zvw (fn1 zjh):=λH vs ds Q Qd ok p is ⟨r,hr,q⟩ k=>by
 unfold zjh at hr
 split at hr
 ·obtain⟨v,rfl,iv⟩:=zbc is
  cases hr
  cases iv
  exact .inl (.inl ⟨_,rfl,k _ H (.o _) (.refl _ _) (Is.int _) q⟩)
 ·obtain⟨v,rfl,iv⟩:=zbc is
  cases hr
  cases iv
  exact .inl (.inr ⟨_,rfl,k _ H (.o _) (.refl _ _) (Is.int _) q⟩)
 ·obtain⟨v,rfl,iv⟩:=zbc is
  split at hr
  ·obtain⟨n,hn,rfl⟩:=QA.mp hr
   cases iv
   exact .inr ⟨_,n,rfl,hn,by assumption,k _ H (.o _) (.refl _ _) (Is.int _) q⟩
  ·cases hr
 ·cases hr
def zix:V->List V->Hp->VK->Prop:=λx vs H Q=>∃ t y:Str,x = .str t/\vs = [.str y]/\(y.length == 0)=false/\t.length+2<=sizeLine/\∀ l,H l=none->Q (.ref l) (upd H l (.lst ((Yt t y).map V.str)))
theorem zla:∀ (tk:Nat) (xs:List Str),Vals (xs.map V.str) (strsFrom tk xs)
 | _,[] => .nil
 | tk,x::r => .cons ⟨tk,rfl⟩ (zla (tk+1) r)
theorem zvs:MtM X "str.split" zix:=by
 intro pins s σ H x vs v us Q I rx rv h
 obtain⟨t,y,rfl,rfl,hy,hz,q⟩:=h
 obtain⟨tk,rfl⟩:=rx
 obtain⟨u,rfl,ru⟩:=rv.one
 obtain⟨tk',rfl⟩:=ru
 have hz2:=split_le t y
 have hf0:H s.heap.objs.size=none:=I.hok.fresh (Qo _)
 have itself:Yt t y = [t]->EP X pins σ Q (.ref s.heap.objs.size) { s with heap:=s.heap.push { cls := .type "list", data := .seq [Yp t tk].toArray } }:=λe=>by
  have q:=q _ hf0
  rw[e] at q
  exact⟨.ref s.heap.objs.size,_,I.laid (t':=s.toks) (λb u e=>Qc _ e) (Qo _) (show ObjOk X.prog X.w _ _ _ (.lst [.str t]) from⟨by show 1<=sizeLine;omega,[Yp t tk],_,.cons ⟨tk,rfl⟩ .nil,Qq _ rfl⟩),rfl,q⟩
 cases h1:(decide (t.length<y.length) || decide (jG t<jG y)) with
 | true=>exact call_meets jh (typeIs_str _ _ _) YZ (YQ _ _) (meets_str_split_cannot_occur t y tk tk' h1) (itself (if_pos h1))
 | false =>
   cases hf:(QE t y 0 t.length (t.length+1)).isEmpty with
   | true=>exact call_meets jh (typeIs_str _ _ _) YZ (YQ _ _) (meets_str_split_not_found t y tk tk' h1 hy hf) (itself ((if_neg (by rw[h1];exact Qn)).trans (if_pos hf)))
   | false =>
     have e:Yt t y=jc t (QE t y 0 t.length (t.length+1)) y.length:=(if_neg (by rw[h1];exact Qn)).trans (if_neg (by rw[hf];exact Qn))
     rw[e] at q hz2
     refine call_meets jh (typeIs_str _ _ _) YZ (YQ _ _) (meets_str_split_sep t y tk tk' h1 hy hf (by omega) (by omega)) ?_
     exact⟨.ref s.heap.objs.size,_,I.laid (λb u e=>Qc _ e) (Qo _) (show ObjOk X.prog X.w _ _ _ (.lst ((jc t (QE t y 0 t.length (t.length+1)) y.length).map V.str)) from⟨by rw[Qb];omega,_,_,zla s.toks _,Qq _ rfl⟩),rfl,q _ hf0⟩
theorem zr8:MtR X "str.split" zix:=λpins s σ H x xs v us Q I rx rv h=>zvs pins s σ H x xs v us Q I rx rv h
def zty(fo fa:DE):DE:=λρ Q=>fo ρ λr0=>∃ t,r0.d = .str t/\fa ρ λr=>∃ y,r.d = .str y/\(y.length == 0)=false/\t.length+2<=sizeLine/\Q (.n ((Yt t y).map .str))
theorem zum{to ta:TE}{fo fa:DE}(ho:ED K O to fo)(ha:ED K O ta fa):ED K O (tBM K "str" zix to (zbu ta tNil)) (zty fo fa):=λσ H ρ Q Qd S hf k=>by
 refine ho σ H ρ _ _ S hf λv H1 r0 s1 o1 ⟨t,e0,q1⟩=>?_
 have i0:=o1.is S.ok S.p
 rw[e0] at i0
 cases i0
 refine⟨rfl,?_⟩
 refine ha σ H1 ρ _ _ (S.stp s1) q1 λw H2 r s2 o2 ⟨y,e,hy,hz,q⟩=>?_
 have i1:=o2.is S.ok (s1.p S.p)
 rw[e] at i1
 cases i1
 have p2:=s2.p (s1.p S.p)
 refine⟨t,y,rfl,rfl,hy,hz,λl hl=>?_⟩
 have free:H l=none:=((s1.trans s2).s).free (λm=>by
  obtain⟨o,z⟩:=S.ok.here H2 l p2 m
  rw[hl] at z
  cases z) hl
 refine k _ _ (.n _) ((s1.trans s2).trans (.new S.ok hl _)) ⟨l,_,rfl,free,zar,?_⟩ q
 exact zh4 _
end
section
variable {ι κ : Type} {P : Program} {w : World} {K : Qa} {mg : Str → Option Value} {base : Heap} {k : Nat} {X : ι → Cx} {O : κ → Ob} {a b c : Expr} {fa fb fc : DE} {pos p : Pos} {st : Stmt} {es : List Expr} {ga : DA}
theorem zkh{op op':CmpOp}{r r':R2}{F F':PyData->PyData->(R->Prop)->Prop}(ho:∀ i,OpR (X i) (compareOp op) r)(ho':∀ i,OpR (X i) (compareOp op') r')(hd:∀ j,OpD K (O j) r F)(hd':∀ j,OpD K (O j) r' F')(ha:E3 K X O a fa)(hb:E3 K X O b fb)(hc:E3 K X O c fc)
 (hm:lastMarks [op,op'] [b,c]=false:=by with_unfolding_all rfl):E3 K X O (.Compare a [op,op'] [b,c] pos) (chD F F' fa fb fc) :=
 let ⟨_,p1,d1⟩:=ha;let ⟨_,p2,d2⟩:=hb;let ⟨_,p3,d3⟩:=hc; ⟨_,λi=>zuw (ho i) (ho' i) (p1 i) (p2 i) (p3 i) hm,λj=>zuv (hd j) (hd' j) (d1 j) (d2 j) (d3 j)⟩
theorem z4r(ha:E3 K X O a fa)(hb:E3 K X O b fb)(hc:E3 K X O c fc)(hm:lastMarks [.LtE,.LtE] [b,c]=false:=by with_unfolding_all rfl):E3 K X O (.Compare a [.LtE,.LtE] [b,c] pos) (chD (fn2 leSF) (fn2 leSF) fa fb fc) :=
 zkh (λi=>zk9) (λi=>zk9) (λ_=>zo6) (λ_=>zo6) ha hb hc hm
theorem z5l(ha:E3 K X O a fa)(hb:E3 K X O b fb)(hc:E3 K X O c fc)(hm:lastMarks [.LtE,.LtE] [b,c]=false:=by with_unfolding_all rfl):E3 K X O (.Compare a [.LtE,.LtE] [b,c] pos) (chD (fn2 (intF λi j => .bool (decide (i<=j)))) (fn2 (intF λi j => .bool (decide (i<=j)))) fa fb fc) :=
 zkh (λi=>zpp) (λi=>zpp) (λ_=>zl8) (λ_=>zl8) ha hb hc hm
theorem zgz(C:Ctx3 P w K mg base k X)(B:Blt mg)(ha:A3 K X O [a] ga)(hg:∀ i,Gl (X i) "str" := by intro i;rfl)(he:∀ i,starEach [a] (X i).env=(false,eval a (X i).env)::starEach [] (X i).env:=by intro i;rfl):E3 K X O (.Call (.Name "str" p) [a] [] pos) (zcb (fn1 strF) ga) :=
 zlw C (λi=>zt1) (λ_=>z3g) z2c B.str ha hg (by decide) (by decide) he
theorem zdk(C:Ctx3 P w K mg base k X)(B:Blt mg)(ha:A3 K X O [a] ga)(hg:∀ i,Gl (X i) "int" := by intro i;rfl)(he:∀ i,starEach [a] (X i).env=(false,eval a (X i).env)::starEach [] (X i).env:=by intro i;rfl):E3 K X O (.Call (.Name "int" p) [a] [] pos) (zcb (fn1 zjh) ga) :=
 zlw C (λi=>zsc) (λ_=>zxp) z3x B.int ha hg (by decide) (by decide) he
theorem zj2{apos:Pos}(C:Ctx3 P w K mg base k X)(ho:E3 K X O a fa)(hb:E3 K X O b fb)(hbase:∀ i,attributeBase a "split" (X i).env (eval a (X i).env)=eval a (X i).env:=by intro i;rfl)
 (hfew:∀ i,((backTo pos (starEach [b] (X i).env)).all (λx=>!x.1) && (backToKw pos (keywordEach [] (X i).env)).all (λx=>x.1.isSome) && decide (([b]:List Expr).length+([]:List Keyword).length+(if([]:List Keyword).isEmpty then 0 else 1)<30))=true:=by intro i;rfl)
 (hline:(apos.endLine == pos.line)=true:=by rfl) (hs:∀ i,starEach [b] (X i).env = [(false,eval b (X i).env)]:=by intro i;rfl):E3 K X O (.Call (.Attribute a "split" apos) [b] [] pos) (zty fa fb) :=
 let ⟨_,p1,d1⟩:=ho;let ⟨_,p2,d2⟩:=hb; ⟨tBM K "str" zix _ (zbu _ tNil),λi=>by
  have h:=zjk (apos:=apos) (cpos:=pos) J9 PySem.F.slot_str_split PySem.F.type_str_split (zr8 (X:=X i)) (p1 i) (zbo (p2 i) zcl (hs i)) (hbase i) (hfew i) hline (hs i)
  rw[C.hK] at h
  exact h,λj=>zum (d1 j) (d2 j)⟩
end
section
variable {K : Qa} {O : Ob} {H₀ H : Hp} {A : Nat → Addr → Prop} {σ : St} {ρ : DSt}
def zls(ρ:DSt):Prop:=(∀ (i:Nat) ds,ρ[i]? ≠ some (some (.own ds)))/\(∀ (i:Nat) ks,ρ[i]? ≠ some (some (.dct ks)))/\(∀ (i:Nat) f ds,ρ[i]? ≠ some (some (.gen f ds)))/\∀ (i:Nat) T,ρ[i]? ≠ some (some (.thg T))
theorem Rep.none(r:Rep K O H₀ A H σ ρ)(h:zls ρ):Rep K O H₀ (λ_ _=>False) H σ ρ:=by
 refine⟨r.ok,r.p,r.p0,r.st,λ_ _ _ x=>x.elim,λ_ _ x=>x.elim,λi x e=>?_,r.len⟩
 obtain⟨v,hv,q⟩:=r.at_ i x e
 refine⟨v,hv,?_⟩
 cases x with
 | im d=>exact Is.weak q λa u=>⟨u.1,λ_ z=>z.elim⟩
 | own ds=>exact absurd e (h.1 i ds)
 | dct ks=>exact absurd e (h.2.1 i ks)
 | gen f ds=>exact absurd e (h.2.2.1 i f ds)
 | thg T=>exact absurd e (h.2.2.2 i T)
 | thr T=>obtain⟨W,hw,z⟩:=q;exact⟨W,λa w=>⟨⟨(hw a w).1.1,λ_ z=>z.elim⟩,(hw a w).2⟩,T.to (λa u f q=>⟨⟨f.1,λ_ z=>z.elim⟩,q⟩) (λa u w q=>⟨w,q⟩) (TupStay.refl _) z⟩
 | rd f ds=>obtain⟨a,xs,e,f,q,z⟩:=q;exact⟨a,xs,e,⟨f.1,λ_ z=>z.elim⟩,q,z.weak λa u=>⟨u.1,λ_ z=>z.elim⟩⟩
 | exc C ns ds=>obtain⟨xs,e,z⟩:=q;exact⟨xs,e.to λa u f q=>⟨⟨f.1,λ_ z=>z.elim⟩,q⟩,z.weak λa u=>⟨u.1,λ_ z=>z.elim⟩⟩
 | ob=>exact q
 | scr n=>exact IsS.to (λa u f z=>⟨⟨f.1,λ_ z=>z.elim⟩,z⟩) q
theorem Frm.none:Frm O A H (λ_ _=>False) H:=λa o e u=>⟨e,u.1,λ_ z=>z.elim⟩
def asgI(i:Nat)(f:DE):DS:=λDd ρ=>zls ρ/\f ρ λr=>Dd.nx (ρ.set i (some (.im r.d)))
theorem zx0{i:Nat}{t:TE}{f:DE}(h:ED K O t f):SD K O (tAsg t (zbi i)) (asgI i f):=λH₀ A σ H ρ D Dd r q P=>by
 obtain⟨no,q⟩:=q
 have r0:=r.none no
 refine h σ H ρ _ _ r.seen q λv H1 x s1 o1 q1=>?_
 have i1:Is K (unO O λ_ _=>False) H1 v x.d:=Is.weak (o1.is r.ok r.p) λa u=>⟨u,λ_ z=>z.elim⟩
 exact P.nx _ _ H1 _ ((r0.stp s1).setIm i1) (Frm.trans Frm.none (.setIm s1)) q1
end
def zbe(c:Nat):List (List Nat)->List Nat
 | [] => []
 | [x]=>x
 | x::r=>x++c::zbe c r
theorem zbt{c:Nat}{x:List Nat}{r:List (List Nat)}(h:r ≠ []):zbe c (x::r)=x++c::zbe c r:=by
 cases r with
 | nil=>exact absurd rfl h
 | cons y r=>rfl
theorem zn7{c:Nat}:∀ {a b u v:List Nat},c ∉ a->c ∉ b->a++c::u=b++c::v->a=b/\u=v
 | [],[],u,v,_,_,h=>by cases h;exact⟨rfl,rfl⟩
 | [],y::b,u,v,_,hb,h=>by cases h;exact absurd Qj hb
 | x::a,[],u,v,ha,_,h=>by cases h;exact absurd Qj ha
 | x::a,y::b,u,v,ha,hb,h=>by
   injection h with h1 h2
   obtain⟨e1,e2⟩:=zn7 (λz=>ha (Qe _ z)) (λz=>hb (Qe _ z)) h2
   subst h1 e1
   exact⟨rfl,e2⟩
theorem zkz{c:Nat}:∀ {A B:List (List Nat)},A ≠ []->B ≠ []->(∀ x ∈ A,c ∉ x)->(∀ x ∈ B,c ∉ x)->zbe c A=zbe c B->A=B
 | [],_,h,_,_,_,_=>absurd rfl h
 | _,[],_,h,_,_,_=>absurd rfl h
 | [a],[b],_,_,_,_,h=>by rw[show a=b from h]
 | [a],b::d::r,_,_,ha,_,h=>by
   have e:c ∈ zbe c [a]:=by rw[h,zbt (x:=b) (r:=d::r) (by simp)];simp
   exact absurd e (ha a (by simp))
 | a::d::r,[b],_,_,_,hb,h=>by
   have e:c ∈ zbe c [b]:=by rw[<- h,zbt (x:=a) (r:=d::r) (by simp)];simp
   exact absurd e (hb b (by simp))
 | a::d::r,b::d'::r',_,_,ha,hb,h=>by
   rw[zbt (x:=a) (r:=d::r) (by simp),zbt (x:=b) (r:=d'::r') (by simp)] at h
   obtain⟨e1,e2⟩:=zn7 (ha a (by simp)) (hb b (by simp)) h
   subst e1
   rw[zkz (A:=d::r) (B:=d'::r') (by simp) (by simp) (λx hx=>ha x (Qe _ hx)) (λx hx=>hb x (Qe _ hx)) e2]
theorem zh5(c:Nat):∀ l:List Str,(Str.join ⟨#[c]⟩ l).cps.toList=zbe c (l.map λx=>x.cps.toList)
 | []=>rfl
 | [x]=>rfl
 | x::y::r=>by
   show((x.cps ++ #[c])++(Str.join ⟨#[c]⟩ (y::r)).cps).toList=_
   rw[Q2,zbt (x:=x.cps.toList) (r:=(y::r).map λx=>x.cps.toList) (by simp),<- zh5 c (y::r)]
   simp
theorem zhh{x y:Str}(h:x.cps.toList=y.cps.toList):x=y:=by
 obtain⟨⟨a⟩⟩:=x
 obtain⟨⟨b⟩⟩:=y
 have h:a=b:=h
 rw[h]
theorem zh6{c:Nat}{ws:List (List Nat)}(hn:ws ≠ [])(hc:∀ w ∈ ws,c ∉ w):Yt (tx (zbe c ws)) ⟨#[c]⟩=ws.map tx:=by
 have h1:=StrLaws.join_split (tx (zbe c ws)) ⟨#[c]⟩
 have h2:=StrLaws.split_free (tx (zbe c ws)) c
 have h3:=split_pos (tx (zbe c ws)) ⟨#[c]⟩
 generalize Yt (tx (zbe c ws)) ⟨#[c]⟩=ps at h1 h2 h3
 have e:=congrArg (λx:Str=>x.cps.toList) h1
 rw[zh5,zbd] at e
 have e2:=zkz (by intro z;rw[jH.mp z] at h3;simp at h3) hn (λx hx=>by obtain⟨p,hp,rfl⟩:=Qu.mp hx;exact h2 p hp) hc e
 have e3:ps=(ps.map λx=>x.cps.toList).map tx:=by
  rw[QB]
  conv=>lhs;rw[<- J4 ps]
  refine Zl λx _=>?_
  exact zhh (by rw[Function.comp_apply,zbd];rfl)
 rw[e3,e2]
def tyD:PyData->String
 | .none => "NoneType"
 | .bool _ => "bool"
 | .int _ => "int"
 | .str _ => "str"
 | .list _ => "list"
 | .tuple _ => "tuple"
 | .dict _ => "dict"
def zg9(d:PyData)(T:String):Option Bool:=match T with
 | "int" => some (match d with | .int _=>true | .bool _=>true|_=>false)
 | "bool" => some (match d with | .bool _=>true|_=>false)
 | "str" => some (match d with | .str _=>true|_=>false)
 | "tuple" => some (match d with | .tuple _=>true|_=>false)
 | "list" => some (match d with | .list _=>true|_=>false)
 | _=>none
theorem zds(K:Qa){d:PyData}{T:String}{b:Bool}(h:zg9 d T=some b)(hd:∀ kvs,d ≠ .dict kvs):Zi K (.type (tyD d)) (.type T)=some b:=by
 unfold zg9 at h
 split at h
 all_goals first
  | (cases h;cases d <;> first|rfl|exact absurd rfl (hd _))
  | cases h
def tIsI(K:Qa)(T:String)(te:TE):TE:=λσ H Q=>te σ H λv H1=>∃ F d b,Is K F H1 v d/\zg9 d T=some b/\Q (.bl b) H1
theorem zn2{X:Cx}{pins:List (Addr × Obj)}{σ:St}{H:Hp}{s:Shared}{A:Around}{E:Value->Shared->Prop}{Q:Value->Shared->Prop}{x:V}{u:Value}{F:Addr->Prop}{d:PyData}{T:String}{b:Bool}(I:Inv X pins σ H s)(rx:RelV x u)(is:Is X.K F H x d)(e:zg9 d T=some b)(h:∀ tk,Q (.bool b) { s with toks:=tk }) :
 wpAny (model X.prog X.w) A (call (.builtin "isinstance") [u,.type T]) Q E s:=by
 cases is with
 | none=>exact zdz I rx .non (zds _ e λ_ z=>nomatch z) h
 | bool y=>exact zdz I rx (.bl y) (zds _ e λ_ z=>nomatch z) h
 | int i=>exact zdz I rx (.int i) (zds _ e λ_ z=>nomatch z) h
 | str y=>exact zdz I rx (.str y) (zds _ e λ_ z=>nomatch z) h
 | list f q r=>exact zdz I rx (.lst q) (zds _ e λ_ z=>nomatch z) h
 | @tuple a xs ds q r =>
   cases (show u=QC a from rx)
   obtain⟨its,_,⟨o,h1,h2,_⟩,_⟩:=I.tuple q
   exact Zt jN I.kIn ⟨o,h1,h2⟩ (zds X.K (d := .tuple ds) e λ_ z=>nomatch z) (λz=>nomatch z) h
theorem z1z{X:Cx}{e:Expr}{te:TE}{T:String}{x:Str}{p1 p2 p3:Pos}(gi:Gl X "isinstance")(mi:X.mg "isinstance" = none)(gT:Gl X x)(mT:X.mg x=none)(hT:bootBuiltins x=some (.type T))(he:PE X e te)(hn:x ≠ "__name__" := by decide)(hdb:(x == ("__debug__" : Str))=false:=by decide)
 (s1:starEach [e,.Name x p2] X.env=(false,eval e X.env)::(false,eval (.Name x p2) X.env)::starEach [] X.env:=by rfl) (s2:starEach [e,.Name x p2] X.env=(false,eval e X.env)::starEach [.Name x p2] X.env:=by rfl) (s3:(backTo p3 (starEach [.Name x p2] X.env)).any (·.1)=false:=by rfl) :
 PE X (.Call (.Name "isinstance" p1) [e,.Name x p2] [] p3) (tIsI X.K T te):=by
 intro pins s σ H Q I h
 refine wpAny_Call_Name_kw (zcd I gi mi (u := .builtin "isinstance") (by decide +kernel) ?_)
 refine Z9 ?_ s2 s3
 rw[s1]
 show wpAny _ _ (spliced ((false,eval e X.env)::(false,eval (.Name x p2) X.env) :: [])) _ _ s
 refine Zw (thn (he pins s σ H _ I h) λu s' ⟨y,H1,I1,r1,F,d,b,is,ek,q⟩=>?_)
 refine Zw (zcd I1 gT mT hT (ZU ?_) hn hdb)
 exact zn2 I1 r1 is ek λtk=>⟨.bl b,H1,I1.tok _,rfl,q⟩
def isID(T:String)(f:DE):DE:=λρ Q=>f ρ λr=>∃ b,zg9 r.d T=some b/\Q (.o (.bool b))
theorem z0w{K:Qa}{O:Ob}{T:String}{t:TE}{f:DE}(h:ED K O t f):ED K O (tIsI K T t) (isID T f):=λσ H ρ Q Qd S hf k=>by
 refine h σ H ρ _ _ S hf λv H1 r s1 o1 ⟨b,e,q⟩=>?_
 exact⟨_,r.d,b,o1.is S.ok S.p,e,k _ H1 (.o (.bool b)) s1 (Is.bool b) q⟩
section
variable {ι κ : Type} {P : Program} {w : World} {K : Qa} {mg : Str → Option Value} {base : Heap} {k : Nat} {X : ι → Cx} {O : κ → Ob} {a : Expr} {fa : DE} {pos p p2 : Pos}
theorem zd9{x:Str}{T:String}(C:Ctx3 P w K mg base k X)(B:Blt mg)(ha:E3 K X O a fa)(hm:mg x=none)(hT:bootBuiltins x=some (.type T):=by decide +kernel)(hg:∀ i,Gl (X i) "isinstance" := by intro i;rfl)(hg2:∀ i,Gl (X i) x:=by intro i;rfl)(hn:x ≠ "__name__" := by decide)(hdb:(x == ("__debug__" : Str))=false:=by decide)
 (s1:∀ i,starEach [a,.Name x p2] (X i).env=(false,eval a (X i).env)::(false,eval (.Name x p2) (X i).env)::starEach [] (X i).env:=by intro i;rfl) (s2:∀ i,starEach [a,.Name x p2] (X i).env=(false,eval a (X i).env)::starEach [.Name x p2] (X i).env:=by intro i;rfl) (s3:∀ i,(backTo pos (starEach [.Name x p2] (X i).env)).any (·.1)=false:=by intro i;rfl) :
 E3 K X O (.Call (.Name "isinstance" p) [a,.Name x p2] [] pos) (isID T fa) :=
 let ⟨_,q,d⟩:=ha; ⟨_,λi=>by
  have h:=z1z (p1:=p) (p3:=pos) (hg i) (by rw[C.hmg];exact B.isinstance) (hg2 i) (by rw[C.hmg];exact hm) hT (q i) hn hdb (s1 i) (s2 i) (s3 i)
  rw[C.hK] at h
  exact h,λj=>z0w (d j)⟩
end
def Ite(K:Qa)(l:Addr):It :=
 ⟨λi H=>∃ xs x,SqL K H l xs/\xs[i]? = some x,λi H x H'=>∃ a y,H a=none/\(∀ xs,SqL K H l xs->xs[i]? = some y)/\x = .ref a/\H'=upd H a (.tup [.int (i:Nat),y]),λi H=>∃ xs,SqL K H l xs/\xs.length<=i⟩
theorem zrj{P:Program}{w:World}{K:Qa}{elts:List Expr}{x1:Nat}{pos:Pos}(l it e:Addr)(hne:e ≠ it) :
 Turn P w K (.Tuple elts x1 pos) (Ite K l) [e,it] e (λi h=>(∃ old,IsEnum h e it i old)/\h.IsListIter it l i) where
 mem:=by simp
 obj:=λi h st b hb=>by
  rcases Qt.mp hb with z|z
  ·obtain⟨old,q⟩:=st.1
   exact⟨_,z ▸ q,λv z=>by cases z⟩
  ·obtain⟨o,q,_,d⟩:=st.2
   have z:=Q3.mp z
   exact⟨o,z ▸ q,λv y=>by rw[d] at y;cases y⟩
 keep:=λi h h' st k=>by
  obtain⟨⟨old,q⟩,o,q2,r⟩:=st
  exact⟨⟨old,k e (by simp) _ q⟩,o,k it (by simp) o q2,r⟩
 item:=by
  intro X hP hw hK hc i pins s σ H E I hf st hg
  subst hP hw hK
  obtain⟨xs,x,hq,hx⟩:=hg
  obtain⟨its,rv,p,hz⟩:=I.list hq
  obtain⟨u,hu,ru⟩:=rv.get hx
  obtain⟨f0,f1,f2,f3,f4,f5⟩:=hf e (by simp)
  obtain⟨g0,g1,g2,g3,g4,g5⟩:=hf it (by simp)
  obtain⟨⟨old,he⟩,hi⟩:=st
  refine wpAny_pyNext_enum_item he hi p.isList (x:=u) (by simpa using hu) hne λh' he' hi' ht hsz kp=>?_
  refine⟨_,rfl,?_⟩
  obtain⟨oi,qi,ci,di⟩:=id hi
  obtain⟨oi',qi',ci',di'⟩:=id hi'
  have nfi:oi'.isFreed=false:=ZM di'
  have hmi:=Zj (λ_=>oi') qi nfi
  have hmo:∀ b,b ≠ it->(s.heap.update it λ_=>oi').get? b=s.heap.get? b:=λb hb=>QJ _ _ (ZD hb)
  have I1:Inv X pins σ H { s with heap:=s.heap.update it λ_=>oi' }:=I.turned (t':=s.toks) (λb o hb e=>by rw[hmo b hb];exact e) g0 g1 g3 g4 g5
  have hme:=(hmo e hne).trans he
  have hee:=Zj (λ_=>({ cls := .type "enumerate", dict:=none,data := .fields #[rawInt s.heap.objs.size,.bool false,.ref it,rawInt ((i:Int)+1),.none,u],slots:=#[] }:Obj)) hme rfl
  generalize eo:({ cls := .type "enumerate", dict:=none,data := .fields #[rawInt s.heap.objs.size,.bool false,.ref it,rawInt ((i:Int)+1),.none,u],slots:=#[] }:Obj)=oe at hee
  have heo:∀ b,b ≠ e->((s.heap.update it λ_=>oi').update e λ_=>oe).get? b=(s.heap.update it λ_=>oi').get? b:=λb hb=>QJ _ _ (ZD hb)
  have I2:Inv X pins σ H { s with heap:=(s.heap.update it λ_=>oi').update e λ_=>oe }:=I1.turned (t':=s.toks) (λb o hb e=>by rw[heo b hb];exact e) f0 f1 f3 f4 f5
  have kp2:∀ b o,((s.heap.update it λ_=>oi').update e λ_=>oe).get? b=some o->h'.get? b=some o:=λb o eb=>by
   by_cases z:b=e
   ·rw[z] at eb ⊢
    rw[hee] at eb
    cases eb
    rw[<- eo]
    exact he'
   ·rw[heo b z] at eb
    by_cases y:b=it
    ·rw[y] at eb ⊢
     rw[hmi] at eb
     cases eb
     exact qi'
    ·rw[hmo b y] at eb
     exact kp b o z y eb
  have hsz2:((s.heap.update it λ_=>oi').update e λ_=>oe).objs.size=s.heap.objs.size:=by rw[qx,qx]
  have sL:=sizeLine_eq
  have I3:Inv X pins σ (upd H s.heap.objs.size (.tup [.int (i:Nat),x])) { s with heap:=h',toks:=s.toks+1 }:=I2.laid (t':=s.toks+1) kp2 (by show((s.heap.update it λ_=>oi').update e λ_=>oe).objs.size<=_;rw[hsz2];exact Qo _) (show ObjOk X.prog X.w _ h' _ (.tup [.int (i:Nat),x]) from⟨by show 2<=sizeLine;omega,[.int i s.toks,u],.cons ⟨_,rfl⟩ (.cons ru .nil),_,ht,rfl,_,rfl⟩)
  have fe:e ≠ s.heap.objs.size:=λz=>QS _ (z ▸ Qk he)
  have fi:it ≠ s.heap.objs.size:=λz=>QS _ (z ▸ Qk qi)
  refine wpAny_letOwnedTupleGo_enum he' λh'' he'' sb=>?_
  refine⟨.ref s.heap.objs.size,_,I3.turned (t':=s.toks+1) (λb o hb e=>(sb.2 b hb).trans e) (by rw[zaf fe];exact f0) f1 f3 f4 f5,rfl,⟨_,x,I.hok.fresh (Qo _),λys hy=>by rw[I.list_inj hy hq];exact hx,rfl,rfl⟩,⟨⟨u,?_⟩,oi',(sb.2 it (ZD hne)).trans qi',ci',di'⟩,λb hb=>?_⟩
  ·have ei:((i+1:Nat):Int)=(i:Int)+1:=by omega
   rw[ei]
   exact he''
  ·rcases Qt.mp hb with z|z
   ·rw[z,zaf fe];exact f0
   ·rw[Q3.mp z,zaf fi];exact g0
 done:=by
  intro X hP hw hK hc i pins s σ H E I hf st hg
  subst hP hw hK
  obtain⟨xs,hq,hx⟩:=hg
  obtain⟨its,rv,p,hz⟩:=I.list hq
  obtain⟨g0,g1,g2,g3,g4,g5⟩:=hf it (by simp)
  have hl:=rv.length
  obtain⟨⟨old,he⟩,hi⟩:=st
  exact wpAny_pyNext_enum_end (I.ok.hd hc) he hi p.isList (by simp;omega) λh' eb=>⟨rfl,I.turned (t':=s.toks) (λb o hb e=>eb b o hb e) g0 g1 g3 g4 g5⟩
 self:=λ_ _ _ _ _ st h=>let ⟨old,q⟩:=st.1;wpAny_pyIter_enum q h
def zqc(K:Qa)(t:TE):TI:=λσ H R=>t σ H λv H1=>∃ a,v = .ref a/\(∃ xs,SqL K H1 a xs)/\R (Ite K a) H1
theorem zmi:bootBuiltins "enumerate" = some (.type "enumerate"):=by decide +kernel
theorem zze{X:Cx}{elts:List Expr}{x1:Nat}{pos p1 p2:Pos}{l:Expr}{tl:TE}(gE:Gl X "enumerate")(mE:X.mg "enumerate" = none)(hl:PE X l tl)(s1:starEach [l] X.env=(false,eval l X.env)::starEach [] X.env:=by rfl):PI X (.Tuple elts x1 pos) (.Call (.Name "enumerate" p1) [l] [] p2) (zqc X.K tl):=by
 intro pins s σ H R I h
 refine wpAny_Call_Name_kw (zcd I gE mE zmi ?_)
 refine ZJ ?_ s1
 rw[s1]
 show wpAny _ _ (spliced ((false,eval l X.env) :: [])) _ _ s
 refine Zw (thn (hl pins s σ H _ I h) λu s' ⟨y,H1,I1,r1,a,ey,⟨xs,hq⟩,q⟩=>?_)
 subst ey
 cases r1
 refine ZU ?_
 obtain⟨its,rv,p,hz⟩:=I1.list hq
 refine call_enumerate_list p.isList λh' he hi hsz kp=>?_
 refine wpAny_pyIter_enum he ?_
 refine⟨s'.heap.objs.size+1,[s'.heap.objs.size+1,s'.heap.objs.size],_,Ite X.K a,H1,rfl,I1.kept (t':=s'.toks) kp,zrj a s'.heap.objs.size (s'.heap.objs.size+1) (Nat.succ_ne_self _),⟨⟨_,he⟩,hi⟩,λb hb=>?_,q⟩
 rcases Qt.mp hb with z|z
 ·rw[z];exact I1.fpOk (ZZ _) (I1.hok.fresh (ZZ _))
 ·rw[Q3.mp z];exact I1.fpOk (Qo _) (I1.hok.fresh (Qo _))
section
variable {K : Qa} {O : Ob}
def ze2(ds:List PyData):List PyData:=ds.mapIdx λi d => .tuple [.int (i:Nat),d]
theorem zt0(ds:List PyData):(ze2 ds).length=ds.length:=by unfold ze2;rw[List.length_mapIdx]
theorem zth{ds:List PyData}{i:Nat}{d:PyData}(h:(ze2 ds)[i]? = some d):∃ e,ds[i]? = some e/\d = .tuple [.int (i:Nat),e]:=by
 unfold ze2 at h
 rw[j7] at h
 obtain⟨e,he,rfl⟩:=QA.mp h
 exact⟨e,he,rfl⟩
theorem ztj{H H1:Hp}{a:Addr}{xs:List V}{ds:List PyData}(st:Stp O H H1)(nM:¬ O.M a)(ha:H1 a=some (.lst xs))(hs:IsAll K (unM O) H1 xs ds):Walk K O H H1 (Ite K a) (ze2 ds) (λb=>b=a):=by
 refine⟨st,λb hb=>by subst hb;exact⟨nM,_,ha⟩,λH2 i kb _ hi=>?_,λH2 i d kb t2 hd c=>?_⟩
 ·rw[zt0] at hi
  exact⟨xs,.of (kb a _ rfl ha),by rw[hs.length];exact hi⟩
 ·obtain⟨e,he,rfl⟩:=zth hd
  have fl:flat (.tuple [.int (i:Nat),e])=flat e:=by show(true && (flat e && true))=_;rw[QO,qY]
  rw[fl] at c ⊢
  obtain⟨w,hw,iw⟩:=zfn (O:=O) hs he t2 c
  have q2:SqL K H2 a xs := .of (kb a _ rfl ha)
  refine⟨⟨xs,w,q2,hw⟩,λx H3 ⟨b,y,hb,hy,ex,e3⟩=>?_⟩
  have sm:Same H2 H3:=by rw[e3];exact L3.same_new hb _
  subst ex
  have ey:=hy xs q2
  rw[hw] at ey
  cases ey
  refine⟨sm,.tuple (xs := [.int (i:Nat),w]) (.inl (.inl ?_)) (.cons (.int _) (.cons ?_ .nil))⟩
  ·rw[e3];exact zar
  ·refine iw.to (λc zs f q=>⟨f,sm _ _ q⟩) λc zs q=>?_
   rcases q with (q|⟨ob,q⟩)|q
   ·exact .inl (.inl (sm _ _ q))
   ·exact .inl (.inr ⟨ob,sm _ _ q⟩)
   ·exact .inr q
def srcE(f:DE):DI:=λρ Q=>f ρ λr=>∃ ds,r.d = .list ds/\Q r.isN (ze2 ds)
theorem zua{t:TE}{f:DE}(h:ED K O t f):SrcS K O (zqc K t) (srcE f):=λσ H ρ R Qd S hf k=>by
 refine h σ H ρ _ _ S hf λv H1 r st o1 ⟨ds,e,q⟩=>?_
 have i1:=o1.is S.ok S.p
 rw[e] at i1
 cases i1 with
 | list f0 ha hs =>
   rename_i a xs
   refine⟨a,rfl,⟨xs,.of ha⟩,k (Ite K a) H1 _ (λb=>b=a) r.isN (ztj st f0 ha hs) (λz b hb=>?_) q⟩
   subst hb
   cases r with
   | o d=>cases z
   | n es =>
     obtain⟨a',xs',e',hn,_⟩:=o1
     cases e'
     exact hn
end
section
variable {ι κ : Type} {P : Program} {w : World} {K : Qa} {mg : Str → Option Value} {base : Heap} {k : Nat} {X : ι → Cx} {O : κ → Ob} {a : Expr} {fa : DE} {pos p1 p2 p3 : Pos} {elts : List Expr} {x1 : Nat}
theorem z2r(C:Ctx3 P w K mg base k X)(B:Blt mg)(ha:E3 K X O a fa)(hg:∀ i,Gl (X i) "enumerate" := by intro i;rfl)(hs:∀ i,starEach [a] (X i).env=(false,eval a (X i).env)::starEach [] (X i).env:=by intro i;rfl):I3 K X O (.Tuple elts x1 pos) (.Call (.Name "enumerate" p1) [a] [] p2) (srcE fa) :=
 let ⟨_,q,d⟩:=ha; ⟨zqc K _,λi=>by have h:=zze (elts:=elts) (x1:=x1) (pos:=pos) (p1:=p1) (p2:=p2) (hg i) (by rw[C.hmg];exact B.enumerate) (q i) (hs i);rw[C.hK] at h;exact h,λj=>zua (d j)⟩
end
abbrev tS(w:List Nat):PyData := .str (tx w)
def Sml(w:List Nat):Prop:=w.length<=100/\∀ c ∈ w,c<128
theorem zrx{w:List Nat}(h:Sml w):ZX (tx w)=true:=by
 rw[zsm]
 intro c hc
 rw[zbd] at hc
 have:=h.2 c hc
 omega
theorem z0z(a b:Nat):decide (([a]:List Nat) < [b])=decide (a<b):=by
 by_cases h:a<b
 ·rw[decide_eq_true h]
  exact decide_eq_true (List.Lex.rel h)
 ·rw[decide_eq_false h]
  refine decide_eq_false λz=>?_
  cases z with
  | rel z=>exact h z
  | cons z=>cases z
theorem zsw{a b:Nat}:leSF (.str (sg a)) (.str (sg b))=some (.o (.bool (decide (a<=b)))):=by
 show some (R.o (.bool (!decide (([b]:List Nat) < [a]))))=_
 rw[z0z]
 by_cases h:a<=b
 ·rw[decide_eq_true h,decide_eq_false (by omega)];rfl
 ·rw[decide_eq_false h,decide_eq_true (by omega)];rfl
theorem z4v{lo c hi:Nat}{i:Nat}{ρ:DSt}{Q:R->Prop}(hi':ρ[i]? = some (some (.im (.str (sg c)))))(q:Q (.o (.bool (decide (lo<=c) && decide (c<=hi))))):chD (fn2 leSF) (fn2 leSF) (cD (.str (sg lo))) (vD i) (cD (.str (sg hi))) ρ Q:=by
 refine⟨_,_,hi',rfl,_,zsw,_,rfl,?_⟩
 by_cases h:lo<=c
 ·rw[decide_eq_true h,if_pos rfl]
  rw[decide_eq_true h,QO] at q
  exact⟨_,zsw,q⟩
 ·rw[decide_eq_false h,if_neg Qn]
  rw[decide_eq_false h,Z5] at q
  exact q
theorem zjj(c:Nat)(x:List Nat):∀ r:List (List Nat),zbe c (x::r)=x++(r.map λw=>c::w).flatten
 | []=>by simp[zbe]
 | y::r=>by
   rw[zbt (by simp),zjj c y r]
   simp
mutual
def z5b:PyData->Bool
 | .none=>true
 | .int _=>true
 | .str _=>true
 | .tuple ds=>zt2 ds
 | _=>false
def zt2:List PyData->Bool
 | []=>true
 | d::ds=>z5b d && zt2 ds
end
theorem zfj{ds:List PyData}{i:Nat}{d:PyData}(h:ds[i]? = some d):idxF (.list ds) (.int (i:Nat))=some (.o d):=by
 show(atI ds _).map R.o=_
 rw[zhe (v:=d) h]
 rfl
theorem zb6{a b:List PyData}(h:a.length+b.length<=16777216):addF (.list a) (.list b)=some (.n (a++b)):=by
 show(if a.length+b.length<=sizeLine then some (R.n (a++b)) else none)=_
 rw[if_pos (by rw[sizeLine_eq];exact h)]
end L3
namespace L6
def eat(c:Nat):List Nat->List Nat
 | [] => []
 | x::r=>if x=c then r else x::r
def eats(l:List Nat):List Nat->List Nat:=λless=>l.foldl (λr c=>eat c r) less
def under(less more:List Nat):Bool:=(eats more less).isEmpty
theorem zt8(l:List Nat):eats l [] = []:=by
 induction l with
 | nil=>rfl
 | cons c l ih=>exact ih
theorem zgo:∀ {more less:List Nat},under less more=true↔less.Sublist more
 | [],[]=>by simp[under,eats]
 | [],x::less=>by simp[under,eats]
 | c::more,[]=>by simp[under,zt8]
 | c::more,x::less=>by
   show under (eat c (x::less)) more=true↔_
   by_cases h:x=c
   ·subst h
    rw[show eat x (x::less)=less from if_pos rfl,zgo (more:=more) (less:=less)]
    exact⟨λz=>z.cons_cons x,λz=>by cases z with|cons _ z=>exact List.Sublist.trans (jq _ _) z|cons_cons _ z=>exact z⟩
   ·rw[show eat c (x::less)=x::less from if_neg h,zgo (more:=more) (less:=x::less)]
    exact⟨λz=>z.cons c,λz=>by cases z with|cons _ z=>exact z|cons_cons _ z=>exact absurd rfl h⟩
def zb0(c:Nat)(more:List Nat)(start:Nat):Option Nat:=((Jb more.length).filter λi=>decide (start<=i) && decide (more[i]? = some c)).head?
def plc:List Nat->List Nat->Nat->List Nat->Option (List Nat)
 | [],_,_,acc=>some acc
 | c::r,more,start,acc=>match zb0 c more start with
   | none=>none
   | some p=>plc r more (p+1) (acc ++ [p])
theorem ze4{c:Nat}{more:List Nat}{start p:Nat}(h:zb0 c more start=some p):start<=p/\more[p]? = some c/\∀ i,start<=i->i<p->more[i]? ≠ some c:=by
 unfold zb0 at h
 rw[qg] at h
 have h1:=List.find?_some h
 rw[Qv] at h1
 refine⟨of_decide_eq_true h1.1,of_decide_eq_true h1.2,λi hi hp e=>?_⟩
 obtain⟨_,as,bs,e1,e2⟩:=List.find?_eq_some_iff_append.mp h
 have hl:p=as.length:=by
  have:=congrArg (λl=>l[as.length]?) e1
  simp at this
  have hlt:as.length<more.length:=by
   have:=congrArg List.length e1
   simp at this
   omega
  rw[Y7 hlt] at this
  simpa using this.symm
 have hlt:p<more.length:=by
  have:=(Qs.mp (of_decide_eq_true h1.2)).1
  exact this
 have hm:i ∈ as:=by
  have e3:=congrArg (λl=>l[i]?) e1
  rw[Y7 (by omega),QU (by omega)] at e3
  exact Zn e3.symm
 have:=e2 i hm
 rw[decide_eq_true hi,decide_eq_true e] at this
 simp at this
theorem zku{c:Nat}{more:List Nat}{start:Nat}(h:zb0 c more start=none):∀ i,start<=i->more[i]? ≠ some c:=λi hi e=>by
 unfold zb0 at h
 rw[qg,List.find?_eq_none] at h
 have hlt:=(Qs.mp e).1
 have:=h i (Jx.mpr hlt)
 rw[decide_eq_true hi,decide_eq_true e] at this
 simp at this
theorem zm1{c:Nat}{r:List Nat}:∀ {k:Nat} {l:List Nat},(∀ i,i<k->l[i]? ≠ some c)->((c::r).Sublist l↔(c::r).Sublist (l.drop k))
 | 0,l,_=>by simp
 | k+1,[],_=>by simp
 | k+1,y::l,h=>by
   have hy:y ≠ c:=λe=>h 0 (by omega) (by simp[e])
   have ih:=zm1 (r:=r) (k:=k) (l:=l) λi hi=>by have:=h (i+1) (by omega);simpa using this
   rw[List.drop_succ_cons,<- ih]
   exact⟨λz=>by cases z with|cons _ z=>exact z|cons_cons _ z=>exact absurd rfl hy,λz=>z.cons y⟩
theorem zjf:∀ (less more:List Nat) (start:Nat) (acc:List Nat),(plc less more start acc).isSome=true↔less.Sublist (more.drop start)
 | [],more,start,acc=>by simp[plc]
 | c::r,more,start,acc=>by
   unfold plc
   cases h:zb0 c more start with
   | none =>
     have hn:=zku h
     refine⟨λz=>(by cases z),λz=>?_⟩
     have hm:c ∈ more.drop start:=z.subset Qj
     obtain⟨i,hi⟩:=ZN.mp hm
     rw[ZG] at hi
     exact absurd hi (hn _ (by omega))
   | some p =>
     obtain⟨h1,h2,h3⟩:=ze4 h
     have ih:=zjf r more (p+1) (acc ++ [p])
     show(plc r more (p+1) (acc ++ [p])).isSome=true↔_
     rw[ih]
     have e1:=zm1 (c:=c) (r:=r) (k:=p - start) (l:=more.drop start) λi hi=>by
      rw[ZG]
      exact h3 _ (by omega) (by omega)
     rw[e1,j8,show start+(p - start)=p by omega]
     obtain⟨hp,hv⟩:=Qs.mp h2
     rw[Zm hp,hv]
     exact⟨λz=>z.cons_cons c,λz=>by cases z with|cons _ z=>exact(jq _ _).trans z|cons_cons _ z=>exact z⟩
theorem zq0(less more:List Nat):(plc less more 0 []).isSome=under less more:=by
 have:=zjf less more 0 []
 rw[YL,<- zgo] at this
 cases h:(plc less more 0 []).isSome <;> cases h':under less more <;> simp_all
end L6
namespace L3
open PySem PySem.Spec
open PyProof.Rows hiding St
open L2
section
variable {X : Cx}
def zl5:V->List V->Hp->VK->Prop:=λx vs H Q=>∃ (t y:Str) (i:Int),x = .str t/\vs = [.str y,.int i]/\Q (.int (zc t y i)) H
theorem zu0:MtR X "str.find" zl5:=by
 intro pins s σ H x vs v us Q I rx rv h
 obtain⟨t,y,i,rfl,rfl,q⟩:=h
 obtain⟨tk,rfl⟩:=rx
 cases rv with
 | cons r1 rv =>
   cases rv with
   | cons r2 rv =>
     cases rv
     obtain⟨t1,rfl⟩:=r1
     obtain⟨t2,rfl⟩:=r2
     exact SC.find3 ⟨.int _,H,I.tok _,⟨_,rfl⟩,q⟩
end
section
variable {K : Qa} {O : Ob}
def ztz(fo:DE)(g:DA):DE:=λρ Q=>fo ρ λr0=>∃ t,r0.d = .str t/\g ρ λds=>∃ y i,ds = [.str y,.int i]/\Q (.o (.int (zc t y i)))
theorem zvl{to:TE}{ta:TA}{fo:DE}{g:DA}(ho:ED K O to fo)(ha:AD K O ta g):ED K O (tBM K "str" zl5 to ta) (ztz fo g):=λσ H ρ Q Qd S hf k=>by
 refine ho σ H ρ _ _ S hf λv H1 r0 s1 o1 ⟨t,e0,q1⟩=>?_
 have i0:=o1.is S.ok S.p
 rw[e0] at i0
 cases i0
 refine⟨rfl,?_⟩
 refine ha σ H1 ρ _ _ (S.stp s1) q1 λvs H2 ds s2 is ⟨y,i,e,q⟩=>?_
 subst e
 cases is with
 | cons i1 is =>
   cases is with
   | cons i2 is =>
     cases is
     cases i1
     cases i2
     exact⟨t,y,i,rfl,rfl,k _ H2 (.o _) (s1.trans s2) (Is.int _) q⟩
end
section
variable {K : Qa} {O : Ob}
def unpT(is:List Nat)(f:DE):DS:=λDd ρ=>f ρ λr=>∃ ds,r.d = .tuple ds/\flats ds=true/\gTD is ds ρ Dd.nx
theorem zx4{is:List Nat}{n:Nat}{t:TE}{tg:TGs}{f:DE}(hn:is.length=n)(h:ED K O t f)(hg:GRs K O tg is):SD K O (tAsg t (gTup K n tg)) (unpT is f):=λH₀ A σ H ρ D Dd r q P=>by
 refine h σ H ρ _ _ r.seen q λv H1 x s1 o1 ⟨ds,e,fl,q1⟩=>?_
 have r1:=r.stp s1
 have iw:=o1.is r.ok r.p
 rw[e] at iw
 cases iw with
 | tuple h1 s2 =>
   refine⟨_,_,rfl,h1,by rw[s2.length,zhr q1];exact hn,?_⟩
   exact hg H₀ A σ H1 ρ _ ds _ _ r1 fl (IsAll.flats (TupStay.refl H1) s2 fl) q1 λA' σ' ρ' r' f' q'=>P.nx A' σ' H1 ρ' r' ((Frm.stp s1).trans f') q'
end
section
variable {ι κ : Type} {P : Program} {w : World} {K : Qa} {mg : Str → Option Value} {base : Heap} {k : Nat} {X : ι → Cx} {O : κ → Ob} {a b c : Expr} {fa fb : DE} {pos p : Pos} {es : List Expr} {ga : DA}
theorem zy2{apos:Pos}(C:Ctx3 P w K mg base k X)(ho:E3 K X O a fa)(ha:A3 K X O [b,c] ga)(hbase:∀ i,attributeBase a "find" (X i).env (eval a (X i).env)=eval a (X i).env:=by intro i;rfl)
 (hfew:∀ i,((backTo pos (starEach [b,c] (X i).env)).all (λx=>!x.1) && (backToKw pos (keywordEach [] (X i).env)).all (λx=>x.1.isSome) && decide (([b,c]:List Expr).length+([]:List Keyword).length+(if([]:List Keyword).isEmpty then 0 else 1)<30))=true:=by intro i;rfl)
 (hline:(apos.endLine == pos.line)=true:=by rfl) (hs:∀ i,starEach [b,c] (X i).env=(false,eval b (X i).env)::starEach [c] (X i).env:=by intro i;rfl) (hpl:∀ i,(backTo pos (starEach [c] (X i).env)).any (·.1)=false:=by intro i;rfl):E3 K X O (.Call (.Attribute a "find" apos) [b,c] [] pos) (ztz fa ga) :=
 let ⟨_,p1,d1⟩:=ho;let ⟨_,p2,d2⟩:=ha; ⟨tBM K "str" zl5 _ _,λi=>by
  have h:=zjk (apos:=apos) (cpos:=pos) J9 PySem.F.slot_str_find PySem.F.type_str_find (zu0 (X:=X i)) (p1 i) (p2 i) (hbase i) (hfew i) hline (hs i) (hpl i)
  rw[C.hK] at h
  exact h,λj=>zvl (d1 j) (d2 j)⟩
theorem zjp{h n:Nat}{es:List Expr}{is:List Nat}{j:Nat}{tp:Pos}(C:Ctx3 P w K mg base k X)(ha:E3 K X O a fa)(hr:Gs3 K X h es is)(hn:is.length=n:=by rfl)(hn2:∀ i,(assignEach es (X i).env).length=n:=by intro i;rfl)(hst:∀ i,(assignEach es (X i).env).findIdx? (·.1)=none:=by intro i;rfl)
 (hs:∀ i,swapsWithSole [.Tuple es j tp] a pos.line (X i).env=pure false:=by intro i;rfl) (hw:∀ i,swappedStores [.Tuple es j tp] a (X i).env=pure none:=by intro i;rfl) (h1:∀ i,(assignEach [.Tuple es j tp] (X i).env).map (·.2) = [assign (.Tuple es j tp) (X i).env]:=by intro i;rfl) :
 S3 K X O (.Assign [.Tuple es j tp] a pos) (unpT is fa):=let ⟨_,p,d1,d2,o,m⟩:=hr;let ⟨_,q,d⟩:=ha;
 ⟨tAsg _ (gTup K n _),λi=>by have z:=zqv (pos:=tp) (k:=j) (C.calm i) (p i) (hn2 i) (hst i);rw[C.hK] at z;exact zgq (q i) z (hs i) (hw i) (h1 i),λjj=>zx4 hn (d jj) (d2 (O jj))⟩
end
end L3
namespace SX
open PySem PySem.Spec PyProof.Rows
abbrev Es:=Array (Int × Value)
def keyE(e:Int × Value):Str:=strOf e.2
def keys(es:Es):List Str:=es.toList.map keyE
def byT(w:World):Bool:=w.params.followText "set-order"
structure Sx (w:World) (h:Heap) (a:Addr) (es:Es) (ep:Nat) (t:SetTable):Prop where
 at_:∃ o,h.get? a=some o/\o.ExactSet/\o.data = .set es ep t
 lt:es.size<scanBound
 fit:t.fits es.size=true
 led:t.led = !byT w
 pl:1<es.size->t.plain=false
structure Tx (P:Program) (w:World) (h:Heap) (a:Addr) (es:Es) (ep:Nat) (t:SetTable):Prop extends Sx w h a es ep t where
 el:ElemsOf (ZL P w) es.toList
 nd:(keys es).Nodup
theorem zxw(t:SetTable)(es:Es)(h:Int)(x:Value):(layNew t es h x).2.1.led=t.led:=by
 unfold layNew
 cases t.freeSlot h with
 | none=>rfl
 | some p =>
   obtain⟨j,d⟩:=p
   show((t.put j).1.orStandIn _).led=t.led
   unfold SetTable.orStandIn
   split <;> rfl
theorem zy6(t:SetTable)(es:Es)(n:Nat):(relayAll t es n).2.1.led=t.led/\(t.plain=false->(relayAll t es n).2.1.plain=false):=by
 unfold relayAll
 cases e:t.relaid (es.map (·.1)) n with
 | none=>exact⟨rfl,λ_=>rfl⟩
 | some p =>
   obtain⟨t',ord⟩:=p
   have:t'.led=t.led/\t'.plain=t.plain:=by
    unfold SetTable.relaid SetTable.laid at e
    cases q:SetTable.layClean (SetTable.sizeAbove n - 1) (es.map (·.1)) with
    | none=>rw[q] at e;cases e
    | some o=>rw[q] at e;cases e;exact⟨rfl,rfl⟩
   dsimp only
   split
   ·exact⟨this.1,λh=>this.2.trans h⟩
   ·exact⟨rfl,λ_=>rfl⟩
section
variable {P : Program} {w : World} {A : Around} {E : Value → Shared → Prop} {s : Shared}
theorem zro{e:Int × Value}(h:∃ k,(ZL P w).is k e.2=true/\e.1=(ZL P w).hash k)(k:Str):(ZL P w).is k e.2=true↔keyE e=k:=by
 obtain⟨k',hk,_⟩:=h
 obtain⟨i,v⟩:=e
 obtain⟨t,ev⟩:=Y5 hk
 subst ev
 show JQ k (.str k' t)=true↔k'=k
 constructor
 ·intro h
  exact(ZL P w).inj (.str k' t) _ _ hk h
 ·rintro rfl
  exact hk
theorem Tx.put{a:Addr}{es es':Es}{ep:Nat}{t t':SetTable}(S:Tx P w s.heap a es ep t)(el:ElemsOf (ZL P w) es'.toList)(nd:(keys es').Nodup)(lt:es'.size<scanBound)(fit:t'.fits es'.size=true)(led:t'.led = !byT w)(pl:t'.plain=false)
 {Q:Unit->Shared->Prop} (h:∀ h',ZW a s.heap h'->Tx P w h' a es' (ep+1) t'->Q () { s with heap:=h' }):wpAny (model P w) A (storeSet a es' t') Q E s:=by
 obtain⟨o,ho,hx,hd⟩:=S.at_
 refine wpAny_storeSet_of ho hd (h _ (.update ..) ⟨⟨⟨{ o with data := .set es' (ep+1) t' },?_,hx,rfl⟩,lt,fit,led,λ_=>pl⟩,el,nd⟩) (fits_of_scanBound lt)
 have:=Zj (Obj.putSet es' t') ho (by rw[putSet_of es' t' hd];rfl)
 rw[putSet_of es' t' hd] at this
 exact this
theorem zsu{es es':Es}(p:es'.toList.Perm es.toList):es'.size=es.size:=by simpa using p.length_eq
theorem zlc{es es':Es}(p:es'.toList.Perm es.toList):(keys es').Perm (keys es):=p.map _
theorem Tx.add{a:Addr}{es:Es}{ep:Nat}{t:SetTable}{x:Str}{tk:Tok}{Q:Bool->Shared->Prop}(S:Tx P w s.heap a es ep t)(hr:es.size+1<scanBound)
 (h:∀ b h' es' ep' t',ZW a s.heap h'->Tx P w h' a es' ep' t'->(∀ k,k ∈ keys es'↔k ∈ keys es\/k=x)->es'.size<=es.size+1->Q b { s with heap:=h' }) :
 wpAny (model P w) A (setAddHashed a (.str x tk) (hashStr w x)) Q E s:=by
 have hk:(ZL P w).is x (.str x tk)=true:=by show JQ x (.str x tk)=true;simp[JQ]
 obtain⟨o,ho,hx,hd⟩:=S.at_
 have gw:∀ (b:Bool) (s₁:Shared) (Q':Unit->Shared->Prop),Q' () s₁->wpAny (model P w) A (match b with|true=>rule "set.scan.the-table-gave-way" | false=>pure ()) Q' E s₁:=λb s₁ Q' q=>by
  cases b
  ·exact wpAny_pure q
  ·exact wpAny_rule q
 unfold setAddHashed setAddHashedIn
 refine wpAny_holding (wpAny_bind (wpAny_setState_of ho hd S.fit ?_))
 dsimp only
 rw[if_pos (byScan_of rfl S.lt S.el)]
 unfold setAddByScan
 refine wpAny_bind (wpAny_bind (wpAny_rule (wpAny_bind (wpAny_setScan_of (knd:=ZL P w) hk ho hd S.fit S.el ?_))))
 cases hf:es.toList.findIdx? (λe=>(ZL P w).is x e.2) with
 | some j =>
   obtain⟨hj,hp,_⟩:=List.findIdx?_eq_some_iff_getElem.mp hf
   have hm:x ∈ keys es:=Qu.mpr ⟨_,QL hj,(zro (S.el _ (QL hj)).1 x).mp hp⟩
   refine wpAny_pure (wpAny_pure ?_)
   exact h false s.heap es ep t (.refl ..) S (λk=>⟨.inl,λz=>z.elim id λz=>z ▸ hm⟩) (ZZ _)
 | none =>
   have hm:x ∉ keys es:=λhm=>by
    obtain⟨e,he,hk'⟩:=Qu.mp hm
    have:=List.findIdx?_eq_none_iff.mp hf e he
    rw[(zro (S.el e he).1 x).mpr hk'] at this
    cases this
   have hp:=layNew_perm t es (hashStr w x) (.str x tk)
   have hfit:=layNew_fits t es (hashStr w x) (.str x tk)
   have hled:=zxw t es (hashStr w x) (.str x tk)
   generalize layNew t es (hashStr w x) (Yp x tk)=L at hp hfit hled ⊢
   obtain⟨e1,t1,wd,gv⟩:=L
   dsimp only at hp hfit hled ⊢
   rw[qh] at hp
   have el1:ElemsOf (ZL P w) e1.toList:=(S.el.push (k:=x) (x := .str x tk) hk rfl).perm hp
   have kp:(keys e1).Perm (keys es ++ [x]):=by
    have:=hp.map keyE
    rw[QR] at this
    exact this
   have nd1:(keys e1).Nodup:=kp.nodup_iff.mpr (List.nodup_append.mpr ⟨S.nd,(by simp),λa ha b hb=>by
    rw[Q3] at hb
    subst hb
    exact λz=>hm (z ▸ ha)⟩)
   have mem1:∀ k,k ∈ keys e1↔k ∈ keys es\/k=x:=λk=>by rw[kp.mem_iff,Q6,Q3]
   have sz1:e1.size=es.size+1:=by simpa using hp.length_eq
   have lt1:e1.size<scanBound:=by omega
   refine wpAny_bind (gw _ _ _ ?_)
   have fin:∀ t2:SetTable,t2.fits e1.size=true->t2.led=t.led->t2.plain=false->wpAny (model P w) A (do
    storeSet a e1 t2
    if(!wd && t2.tooFull)=true then do
        (match (relayAll t2 e1 (J1 e1.size)).2.2 with|true=>rule "set.scan.the-table-gave-way" | false=>pure ())
        storeSet a (relayAll t2 e1 (J1 e1.size)).1 (relayAll t2 e1 (J1 e1.size)).2.1
        pure (some true)
     else pure (some true)) (λr s₁=>wpAny (model P w) A (match r with|some b=>pure b|none=>setAddHashedIn a (.str x tk) (hashStr w x) 99999) Q E s₁) E s:=λt2 f2 l2 p2=>by
    refine wpAny_bind (S.put el1 nd1 lt1 f2 (l2.trans S.led) p2 λh1 sb1 S1=>?_)
    cases hw:(!wd && t2.tooFull) with
    | false=>exact wpAny_pure (wpAny_pure (h true h1 e1 _ t2 sb1 S1 mem1 (Yh sz1)))
    | true =>
      have rp:=relayAll_perm t2 e1 (J1 e1.size)
      have rf:=relayAll_fits t2 e1 (J1 e1.size)
      have rl:=zy6 t2 e1 (J1 e1.size)
      generalize relayAll t2 e1 (J1 e1.size)=R at rp rf rl ⊢
      obtain⟨e2,t3,g2⟩:=R
      dsimp only at rp rf rl ⊢
      refine wpAny_bind (gw _ _ _ ?_)
      have z2:=zsu rp
      refine wpAny_bind (S1.put (s:={ s with heap:=h1 }) (el1.perm rp) ((zlc rp).nodup_iff.mpr nd1) (by omega) rf (rl.1.trans (l2.trans S.led)) (rl.2 p2) λh2 sb2 S2=>?_)
      exact wpAny_pure (wpAny_pure (h true h2 e2 _ t3 (sb1.trans sb2) S2 (λk=>by rw[(zlc rp).mem_iff];exact mem1 k) (by omega)))
   split
   ·rename_i hpl
    refine wpAny_bind ?_
    rw[hashByValue_scannable 8 (x := .str x tk) rfl]
    refine wpAny_pure ?_
    exact fin { t1 with plain:=false } (SetTable.fits_plain_off hfit) hled rfl
   ·rename_i hpl
    refine wpAny_bind (wpAny_pure ?_)
    exact fin t1 hfit hled (by simpa using hpl)
end
end SX
namespace SX
open PySem PySem.Spec PyProof.Rows
section
variable {P : Program} {w : World} {A : Around} {R : Result → Shared → Prop} {I : Addr} {fp wr : List Addr} {G : Array GenState → Array GenState → Prop} {n : Nat} {Pv : Nat → Value → Prop} {St : Nat → Shared → Prop}
theorem Sx.keep{h h':Heap}{a:Addr}{es:Es}{ep:Nat}{t:SetTable}(S:Sx w h a es ep t)(k:∀ o,h.get? a=some o->h'.get? a=some o):Sx w h' a es ep t :=
 { S with at_:=let ⟨o,e,r⟩:=S.at_; ⟨o,k o e,r⟩ }
theorem Tx.keep{h h':Heap}{a:Addr}{es:Es}{ep:Nat}{t:SetTable}(S:Tx P w h a es ep t)(k:∀ o,h.get? a=some o->h'.get? a=some o):Tx P w h' a es ep t :=
 ⟨S.toSx.keep k,S.el,S.nd⟩
theorem zzq(W:WalksS P w A.in1 I fp wr G n Pv St)(S:Addr)(hS:S ∉ fp)(val:Nat->Str)(hval:∀ i v,Pv i v->∃ t,v = .str (val i) t)(hb:n+1<scanBound) :
 ∀ (m i:Nat) (s:Shared) (es:Es) (ep:Nat) (t:SetTable),n - i=m->i<=n->St i s->Tx P w s.heap S es ep t->(∀ x,x ∈ keys es↔∃ j,j<i/\val j=x)->es.size<=i ->
   (∀ s' es' ep' t',Moved (S::wr) G s s'->Tx P w s'.heap S es' ep' t'->(∀ x,x ∈ keys es'↔∃ j,j<n/\val j=x)->R (.ok (.ret .none)) s') ->
   codeAny (model P w) A (.builtin "set.update.loop" ⟨[.ref S,.ref I],[]⟩) R s:=by
 have nw:S ∉ wr:=λz=>hS (W.sub _ z)
 have up:∀ b ∈ wr,b ∈ S::wr:=λb z=>Qe _ z
 intro m
 induction m with
 | zero =>
   intro i s es ep t hm hi st T hk _ k
   obtain rfl:i=n:=by omega
   refine codeAny_builtin ji ?_
   rw[Jq Yc _]
   refine wpAny_bind (W.done s _ _ st λs' mv=>wpAny_pure ?_)
   exact k s' es ep t (mv.mono up) (T.keep λo e=>mv.heap S o nw e) hk
 | succ m ih =>
   intro i s es ep t hm hi st T hk hz k
   have hlt:i<n:=by omega
   refine codeAny_builtin ji ?_
   rw[Jq Yc _]
   refine wpAny_bind (W.item i s _ _ hlt st λv s' pv st' mv=>?_)
   obtain⟨tk,rfl⟩:=hval i v pv
   have T1:Tx P w s'.heap S es ep t:=T.keep λo e=>mv.heap S o nw e
   refine wpAny_bind (m:=holding [Yp (val i) tk] (setAdd S (.str (val i) tk))) (wpAny_holding ?_)
   unfold setAdd
   refine wpAny_holding (wpAny_bind ((ZL P w).pyHash (k:=val i) (by show JQ (val i) (.str (val i) tk)=true;simp[JQ]) ?_))
   refine Tx.add (s:={ s' with toks:=s'.toks+1 }) (x:=val i) T1 (by omega) λb h' es' ep' t' sb T2 hk' hz'=>?_
   refine wpAny_pure ⟨plainId_quiet Yc _,ih (i+1) _ es' ep' t' (by omega) hlt (W.frame _ s' _ _ st' (ZZ _) λb hb o e=>?_) T2 (λx=>?_) (by omega) λs'' e2 p2 t2 mv2 T3 hk3=>?_⟩
   ·rw[sb.2 b (λz:b=S=>hS (z ▸ hb))]
    exact e
   ·rw[hk',hk]
    constructor
    ·rintro(⟨j,h1,h2⟩|rfl)
     ·exact⟨j,by omega,h2⟩
     ·exact⟨i,by omega,rfl⟩
    ·rintro⟨j,h1,h2⟩
     by_cases hj:j=i
     ·subst hj
      exact .inr h2.symm
     ·exact .inl ⟨j,by omega,h2⟩
   ·refine k s'' e2 p2 t2 (.trans W.gtrans ((mv.mono up).then_heap (ZZ _) λb o hb e=>?_) mv2) T3 hk3
    rw[sb.2 b (λz:b=S=>hb (z ▸ Qj))]
    exact e
end
section
variable {P : Program} {w : World} {A : Around} {E : Value → Shared → Prop} {s : Shared}
abbrev eObj(w:World):Obj:={ cls := .type "set", dict:=none,data := .set #[] 0 (.fresh 0 0 (!byT w)) }
theorem z1e{h:Heap}{a:Addr}(e:h.get? a=some (eObj w)):Tx P w h a #[] 0 (.fresh 0 0 (!byT w)) :=
 ⟨⟨⟨_,e,⟨rfl,rfl,rfl⟩,rfl⟩,by decide,rfl,rfl,λz=>absurd z (by decide)⟩,λ_ z=>by simp at z,by simp[keys]⟩
theorem zxv(v:Value){Q:Value->Shared->Prop}(h:Q (.ref s.heap.objs.size) { s with heap:=s.heap.push (eObj w) }) :
 codeAny (model P w) A (.call (.builtin "set.__new__") ⟨[.type "set", v],[]⟩) (wants Q E) s:=by
 refine codeAny_of_tree ?_
 refine wpAny_bind (m:=checkBuiltinCall "set.__new__" ⟨[.type "set", v],[]⟩) (wpAny_of_eq (F.newCall_set_1 v) (wpAny_pure ⟨plainId_quiet F.plain_set_new _,codeAny_builtin F.entry_set_new ?_⟩))
 rw[Jq F.plain_set_new _]
 unfold Builtin.«set.__new__» qO
 have hsub:=sub_set_self
 obtain⟨hp,g,d,tk,os⟩:=s
 dsimp only
 wp_walk
 refine wpAny_askSetting (wpAny_pure ?_)
 dsimp only
 simp only[newObj]
 refine wpAny_bind (wpAny_alloc (wpAny_pure ?_))
 exact wpAny_pure h
end
end SX
namespace SX
open PySem PySem.Spec PyProof.Rows
section
variable {P : Program} {w : World} {A : Around} {E : Value → Shared → Prop} {s : Shared}
abbrev Ext(h h':Heap):Prop:=∀ b o,h.get? b=some o->h'.get? b=some o
def Src(P:Program)(w:World)(h:Heap)(v:Value)(n:Nat)(Pv:Nat->Value->Prop):Prop :=
 ∀ (A:Around) (E:Value->Shared->Prop) (s₁:Shared) (Q:Value->Shared->Prop),A.handled=none->Ext h s₁.heap ->
   (∀ I h' fp St,(∀ A':Around,A'.handled=none->Walks P w A' I fp [I] n Pv St)->St 0 h'->Ext s₁.heap h'->(∀ b ∈ fp,b<h.objs.size\/s₁.heap.objs.size<=b)->s₁.heap.objs.size<=I->Q (.ref I) { s₁ with heap:=h' }) ->
   wpAny (model P w) A (pyIter v) Q E s₁
theorem zle{v:Value}{T:String}{n:Nat}{Pv:Nat->Value->Prop}{val:Nat->Str}{Q:Value->Shared->Prop}(hh:A.handled=none)(hT:∀ s₁:Shared,Ext s.heap s₁.heap->s₁.TypeIs v T)
 (h1:isSubtype (.type T) (.type "set")=pure false) (h2:isSubtype (.type T) (.type "frozenset")=pure false) (h3:(JZ T == JZ "dict")=false) (src:Src P w s.heap v n Pv)
 (hval:∀ i v,Pv i v->∃ t,v = .str (val i) t) (hb:n+1<scanBound)
 (k:∀ h' tk es ep t,Tx P w h' s.heap.objs.size es ep t->(∀ x,x ∈ keys es↔∃ j,j<n/\val j=x)->Ext s.heap h'->Q (.ref s.heap.objs.size) { s with heap:=h',toks:=tk }) :
 wpAny (model P w) A (call (.type "set") [v]) Q E s:=by
 obtain⟨c,tl,hmro⟩:=JB.mro
 have hmade:=JB.made
 have hsub:=JB.sub
 refine wpAny_call (codeAny_of_tree ?_)
 show wpAny _ _ (callAny (.type "set") _) _ _ _
 refine wpAny_pure ⟨YK _ (by decide +kernel),codeAny_builtin F.entry_type_call ?_⟩
 rw[Around.under_plain (weight_type_call_type "set" [v] []) rfl]
 have c1:=JB.notType
 have c2:=JB.canCreate
 have c3:=F.typeCall_set_1 v
 repeat (any_goals (first|assumption|wp_step))
 refine codeAny_mono (zxv v (E:=E) (Q:=λr s₁=>r = .ref s.heap.objs.size/\s₁ = { s with heap:=s.heap.push (eObj w) }) ⟨rfl,rfl⟩) λr s₁ hr=>?_
 cases r with
 | error e=>exact hr
 | ok fl =>
   cases fl with
   | ret obj =>
     obtain⟨rfl,rfl⟩:=hr
     have eS:(s.heap.push (eObj w)).get? s.heap.objs.size=some (eObj w):=Qq _ rfl
     have hS:qZ { s with heap:=s.heap.push (eObj w) } (.ref s.heap.objs.size) "set" := ⟨_,eS,rfl⟩
     have c4:=JB.init.lookup
     have c5:=JB.init.bind (.ref s.heap.objs.size)
     repeat (any_goals (first|assumption|wp_step))
     refine codeAny_mono (codeAny_call_builtin (R:=wants (λr s₂=>r = .none/\∃ h' tk es ep t,s₂ = { s with heap:=h',toks:=tk }/\Tx P w h' s.heap.objs.size es ep t/\(∀ x,x ∈ keys es↔∃ j,j<n/\val j=x)/\Ext s.heap h') E) JB.init.plain F.entry_set_init (check_set_init_1 hS ?_)) λr₂ s₂ hr₂=>?_
     ·have e0:Ext s.heap (s.heap.push (eObj w)):=λb o e=>Qc _ e
      have hTv:=hT { s with heap:=s.heap.push (eObj w) } e0
      unfold Builtin.«set.__init__» noKeywords qG
      generalize hPI:pyIter=PI
      wp_walk
      subst hPI
      have lt0:s.heap.objs.size<(s.heap.push (eObj w)).objs.size:=by rw[QT];exact ZQ _
      refine src _ _ _ _ (by simpa using hh) e0 λI h' fp St W st ex fpb hI=>?_
      refine wpAny_bind (wpAny_runValue ?_)
      have nS:s.heap.objs.size ∉ fp:=λz=>by
       rcases fpb _ z with y|y
       ·exact QS _ y
       ·exact absurd lt0 (ZH.mpr y)
      refine zzq (W _ (by simpa using hh)).toS s.heap.objs.size nS val hval hb n 0 _ #[] 0 _ rfl (QH _) st (z1e (ex _ _ eS)) (λx=>by simp[keys]) (Qo _) λs' es ep t mv T hk=>?_
      obtain⟨h2,g2,d2,tk2,os2⟩:=s'
      obtain rfl:g2=s.gens:=mv.gens
      obtain rfl:d2=s.drawn:=mv.drawn
      obtain rfl:os2=s.os:=mv.os
      show wpAny _ _ _ _ _ _
      refine wpAny_pure (wpAny_pure ⟨rfl,h2,tk2,es,ep,t,rfl,T,hk,λb o e=>mv.heap b o (λz=>?_) (ex b o (e0 b o e))⟩)
      have hbl:=Qk e
      rcases Qt.mp z with z|z
      ·exact Q8 hbl z
      ·rw[Q3.mp z] at hbl
       exact absurd hbl (ZH.mpr (Q4 (Yd lt0) hI))
     ·cases r₂ with
      | error e=>exact hr₂
      | ok fl₂ =>
        cases fl₂ with
        | ret r =>
          obtain⟨rfl,h',tk,es,ep,t,rfl,T,hk,ex⟩:=hr₂
          repeat (any_goals (first|assumption|wp_step))
          exact k _ _ _ _ _ T hk ex
        | _=>exact hr₂.elim
   | _=>exact hr.elim
end
end SX
namespace SX
open PySem PySem.Spec PyProof.Rows
theorem nx_slot:Slot "set_iterator" "__next__" "set_iterator.__next__" := by
 refine Slot.of (owner := "set_iterator") (n := "__next__") ?_ (by decide +kernel) (by decide +kernel) (by decide +kernel) ?_ ?_
 ·rw[typeLookup_type,builtinLookup_eq_fast]
  kernel_rfl
 ·first
   | exact .inl (by decide +kernel)
   | exact .inr (by decide +kernel)
 ·rw[isSubtype_type]
  kernel_rfl
theorem zol:Slot "set_iterator" "__iter__" "set_iterator.__iter__" := by
 refine Slot.of (owner := "set_iterator") (n := "__iter__") ?_ (by decide +kernel) (by decide +kernel) (by decide +kernel) ?_ ?_
 ·rw[typeLookup_type,builtinLookup_eq_fast]
  kernel_rfl
 ·first
   | exact .inl (by decide +kernel)
   | exact .inr (by decide +kernel)
 ·rw[isSubtype_type]
  kernel_rfl
theorem znh:entryFor table "set_iterator.__next__" = some Builtin.«set_iterator.__next__»:=by
 refine entryFor_of_tree ?_
 kernel_rfl
theorem zuu:entryFor table "set_iterator.__iter__" = some Builtin.«dict_keyiterator.__iter__»:=by
 refine entryFor_alias (id' := "dict_keyiterator.__iter__") ?_ rfl ?_ ?_
 ·kernel_rfl
 ·decide +kernel
 ·kernel_rfl
theorem zj3:entryFor table "set.__iter__" = some Builtin.«frozenset.__iter__»:=by
 refine entryFor_alias (id' := "frozenset.__iter__") ?_ rfl ?_ ?_
 ·kernel_rfl
 ·decide +kernel
 ·kernel_rfl
theorem zml:Manifest.owners.lookup (String.ofList ['r','o','t','a','r','e','t','i','_','t','e','s'].reverse)=some Manifest.sig_set_iterator:=by kernel_rfl
theorem zo8(a:Value):argsOk "set_iterator.__next__" ⟨[a],[]⟩:=by
 unfold argsOk
 rw[signature?_of (id := "set_iterator.__next__") (n := ['_','_','t','x','e','n','_','_']) (o := ['r','o','t','a','r','e','t','i','_','t','e','s']) (by kernel_rfl) zml]
 kernel_rfl
theorem zxr(a:Value):argsOk "set_iterator.__iter__" ⟨[a],[]⟩:=by
 unfold argsOk
 rw[signature?_of (id := "set_iterator.__iter__") (n := ['_','_','r','e','t','i','_','_']) (o := ['r','o','t','a','r','e','t','i','_','t','e','s']) (by kernel_rfl) zml]
 kernel_rfl
theorem zfx{α:Type}:∀ {l:List α} {i:Nat} (h:i<l.length),(l[i]::l.eraseIdx i).Perm l
 | [],_,h=>absurd h (qH _)
 | x::l,0,_ => .refl _
 | x::l,i+1,h=>(List.Perm.swap x _ _).trans ((zfx (l:=l) (i:=i) (Nat.lt_of_succ_lt_succ h)).cons x)
theorem zpd{α:Type}(f:Nat->Nat):∀ (m k:Nat) (l:List α) (out:Array α),l.length=m->(qj f m k l out).toList.Perm (out.toList++l)
 | 0,k,l,out,h=>by
   obtain rfl:l = []:=by cases l with|nil=>rfl|cons _ _=>simp at h
   simp[qj]
 | m+1,k,l,out,h=>by
   have hi:f k % l.length<l.length:=Nat.mod_lt _ (by omega)
   unfold qj
   rw[Ql hi]
   refine(zpd f m (k+1) (l.eraseIdx (f k % l.length)) (out.push l[f k % l.length]) (by rw[j9];simp[hi];omega)).trans ?_
   rw[qh,Jn]
   refine List.Perm.append_left _ ?_
   exact zfx hi
theorem zr4{α:Type}(f:Nat->Nat)(xs:Array α):(pickOrder f xs).toList.Perm xs.toList:=by
 simpa[pickOrder] using zpd f xs.size 0 xs.toList #[] (by simp)
end SX
namespace SX
open PySem PySem.Spec PyProof.Rows
section
variable {P : Program} {w : World} {A : Around} {E : Value → Shared → Prop} {s : Shared} {α : Type}
theorem zrr{src:Source}{n:Nat}{Q:Nat->Shared->Prop}(hn:n ≠ 0)(h:∀ i d,i<n->Q i { s with drawn:=d }):wpAny (model P w) A (choose src n) Q E s:=λΓ p _ =>
 ⟨hn,h _ _ (Nat.mod_lt _ (Nat.pos_of_ne_zero hn))⟩
theorem zom:∀ (m:Nat) (xs:List α) (s:Shared) (Q:List α->Shared->Prop),xs.length=m->(∀ ys d,ys.Perm xs->Q ys { s with drawn:=d })->wpAny (model P w) A (drawOrder m xs) Q E s
 | 0,xs,s,Q,e,h=>by
   obtain rfl:xs = []:=List.length_eq_zero_iff.mp e
   exact wpAny_pure (h [] s.drawn .nil)
 | m+1,[],s,Q,e,h=>by cases e
 | m+1,x::xs,s,Q,e,h=>by
   unfold drawOrder
   refine wpAny_bind (zrr (by simp) λi d hi=>?_)
   rw[Ql hi]
   refine wpAny_bind (zom m _ _ _ (by rw[j9,if_pos hi];simpa using e) λys d2 hp=>?_)
   exact wpAny_pure (h _ d2 ((hp.cons _).trans (zfx hi)))
theorem wp_f{c:Prop}[Decidable c]{a b:Sem α}{Q:α->Shared->Prop}(hc:¬ c)(h:wpAny (model P w) A b Q E s):wpAny (model P w) A (if c then a else b) Q E s:=by
 rw[if_neg hc]
 exact h
theorem wp_t{c:Prop}[Decidable c]{a b:Sem α}{Q:α->Shared->Prop}(hc:c)(h:wpAny (model P w) A a Q E s):wpAny (model P w) A (if c then a else b) Q E s:=by
 rw[if_pos hc]
 exact h
theorem zjd{Q:Bool->Shared->Prop}(h:Q (byT w) s):wpAny (model P w) A setsByText Q E s:=by
 unfold setsByText
 exact wpAny_bind (wpAny_askSetting (wpAny_pure h))
theorem Sx.state{a:Addr}{es:Es}{ep:Nat}{t:SetTable}{Q:(Es × Nat × SetTable)->Shared->Prop}(S:Sx w s.heap a es ep t)(h:Q (es,ep,t) s):wpAny (model P w) A (setState a) Q E s :=
 let ⟨_,ho,_,hd⟩:=S.at_
 wpAny_setState_of ho hd S.fit h
theorem Sx.entries{a:Addr}{es:Es}{ep:Nat}{t:SetTable}{Q:Es->Shared->Prop}(S:Sx w s.heap a es ep t)(h:Q es s):wpAny (model P w) A (setEntries a) Q E s :=
 let ⟨_,ho,_,hd⟩:=S.at_
 wpAny_setEntries_of ho hd S.fit h
theorem Sx.epoch{a:Addr}{es:Es}{ep:Nat}{t:SetTable}{Q:Nat->Shared->Prop}(S:Sx w s.heap a es ep t)(h:Q ep s):wpAny (model P w) A (setEpoch a) Q E s :=
 let ⟨_,ho,_,hd⟩:=S.at_
 wpAny_setEpoch_of ho hd S.fit h
abbrev itO(first:Value)(i:Nat)(S:Addr)(n ep:Nat):Obj:={ cls := .type "set_iterator", dict:=none,data := .fields #[first,.int i 0,.ref S,.int n 0,.int ep 0],slots:=#[] }
theorem zog{Z:α->Shared->Prop}{R:Option Value->Shared->Prop}(hh:A.handled=none)(h:∀ h',Ext s.heap h'->R none { s with heap:=h' }) :
 wpAny (model P w) A.in1 (do raiseNew (<- newExc (.type "StopIteration") [])) Z (λe s₁=>wpAny (model P w) A (do if <- isInstance e (.type "StopIteration") then pure none else throw e) R E s₁) s:=by
 refine wpAny_bind ?_
 simp only[newExc,newTuple]
 refine wpAny_bind (wpAny_newObj_type ?_ (by size_fits))
 refine wpAny_bind (m:=firstArgMember _ _) (wpAny_of_eq (a:=Zh) (by first|rfl|(simp only[firstArgMember];rfl)) ?_)
 refine wpAny_newObj_type ?_ (by size_fits)
 simp only[raiseNew]
 refine wpAny_bind (wpAny_handled ?_)
 rw[show A.in1.handled=none from hh]
 refine wpAny_bind (wpAny_pure (wpAny_throw ?_))
 refine wpAny_bind (wpAny_isInstance (T := "StopIteration") (b:=true) ⟨_,Qq _ rfl,rfl⟩ isSubtype_stop ?_)
 exact wpAny_pure (h _ λb o e=>Qc _ (Qc _ e))
end
end SX
namespace SX
open PySem PySem.Spec PyProof.Rows
section
variable {P : Program} {w : World} {A : Around} {E : Value → Shared → Prop} {s : Shared} {it S : Addr} {es : Es} {ep : Nat} {t : SetTable}
theorem zhd{first:Value}{sl:Nat}{i:Nat}{R:Option Value->Shared->Prop}(hf:first = .int sl 0)(ho:s.heap.get? it=some (itO first i S es.size ep))(T:Sx w s.heap S es ep t)
 (h:wpAny (model P w) A.in1 (setNext S sl i ep) (λr s₁=>s₁=s/\match r with
  | some (x,nx)=>∀ h',h'.get? it=some (itO (.int nx 0) (i+1) S es.size ep)->ZW it s.heap h'->R (some x) { s with heap:=h' }
  | none=>∀ h',(∀ b o,b ≠ it->s.heap.get? b=some o->h'.get? b=some o)->R none { s with heap:=h' }) (λ_ _=>False) s) (hh:A.handled=none):wpAny (model P w) A (pyNext (.ref it)) R E s:=by
 subst hf
 have hT:s.TypeIs (.ref it) "set_iterator" := ⟨_,ho,rfl⟩
 unfold pyNext
 refine wpAny_bind (wpAny_attempt (wpAny_callSpecial?_slot (name:=Qp "__next__") hT nx_slot (wpAny_call_entry nx_slot hT znh ?_ (zo8 _))))
 unfold Builtin.«set_iterator.__next__»
 refine wpAny_bind (wpAny_pure ?_)
 refine wpAny_bind (wpAny_fieldsOf ho rfl ?_)
 refine wpAny_bind (T.entries ?_)
 refine wp_f (by simp) ?_
 refine wpAny_bind (wpAny_mono h (λr s₁ q=>?_) λ_ _ z=>z.elim)
 obtain⟨rfl,q⟩:=q
 match r,q with
 | some (x,nx),q =>
   refine wpAny_bind (wpAny_setField_rec ho (by simp) λh1 e1 b1=>?_)
   refine wpAny_bind (wpAny_setField_rec (s:={ s₁ with heap:=h1 }) e1 (by simp) λh2 e2 b2=>?_)
   refine wpAny_pure ⟨x,rfl,wpAny_pure (q h2 ?_ (b1.trans b2))⟩
   exact e2
 | none,q =>
   refine wpAny_bind (wpAny_setField_rec ho (by simp) λh1 e1 b1=>?_)
   exact zog (s:={ s₁ with heap:=h1 }) hh λh' ex=>q h' λb o n e=>ex b o ((b1.2 b n).trans e)
end
end SX
namespace SX
open PySem PySem.Spec PyProof.Rows
section
variable {P : Program} {w : World} {A : Around} {E : Value → Shared → Prop} {s : Shared} {it S : Addr} {es : Es} {ep : Nat} {t : SetTable}
theorem zv7{sl i:Nat}{Q:Option (Value × Nat)->Shared->Prop}(hb:byT w=true)(T:Sx w s.heap S es ep t)(h:Q (((pickOrder (w.params.setOrder S ep) es)[i]?).map λe=>(e.2,sl)) s):wpAny (model P w) A (setNext S sl i ep) Q E s:=by
 unfold setNext
 refine wpAny_bind (T.state ?_)
 refine wpAny_bind (zjd ?_)
 rw[hb]
 refine wp_t rfl ?_
 refine wp_f (by simp) ?_
 refine wpAny_bind ?_
 unfold setWalk
 refine wpAny_bind (T.state ?_)
 refine wpAny_bind (zjd ?_)
 rw[hb]
 refine wp_t rfl ?_
 exact wpAny_bind (wpAny_askSetting (wpAny_pure (wpAny_pure h)))
theorem zwt{sl i:Nat}{Q:Option (Value × Nat)->Shared->Prop}(hb:byT w=false)(hz:es.size<=1)(T:Sx w s.heap S es ep t) (h:Q (match es[JJ t.place sl]?,t.place[JJ t.place sl]? with
 | some (_,x),some j=>some (x,j+1)
 | _,_=>none) s):wpAny (model P w) A (setNext S sl i ep) Q E s:=by
 unfold setNext
 refine wpAny_bind (T.state ?_)
 refine wpAny_bind (zjd ?_)
 rw[hb]
 refine wp_f (by decide) ?_
 refine wp_f (show ¬ ((!t.plain && decide (es.size > 1))=true) by simp;omega) ?_
 refine wpAny_bind (m:=if(!t.led && !es.isEmpty)=true then unsupported "set:maker-not-led" else pure ()) (wp_f (by rw[T.led,hb];simp) (wpAny_pure ?_))
 exact wpAny_pure h
theorem zn8{Tp:Addr}{pls:List Value}{c:Nat}{i:Nat}{R:Option Value->Shared->Prop}(ho:s.heap.get? it=some (itO (.ref Tp) i S es.size ep))(hp:s.heap.get? Tp=some { cls := .type "tuple", data := .seq pls.toArray c })(T:Sx w s.heap S es ep t)
 (h:match pls[i]? with
  | some v=>∃ (j:Nat) (e:Int × Value),v = .int j 0/\es[j]? = some e/\∀ h',h'.get? it=some (itO (.ref Tp) (i+1) S es.size ep)->ZW it s.heap h'->R (some e.2) { s with heap:=h' }
  | none=>∀ h',(∀ b o,b ≠ it->s.heap.get? b=some o->h'.get? b=some o)->R none { s with heap:=h' }) (hh:A.handled=none):wpAny (model P w) A (pyNext (.ref it)) R E s:=by
 have hT:s.TypeIs (.ref it) "set_iterator" := ⟨_,ho,rfl⟩
 unfold pyNext
 refine wpAny_bind (wpAny_attempt (wpAny_callSpecial?_slot (name:=Qp "__next__") hT nx_slot (wpAny_call_entry nx_slot hT znh ?_ (zo8 _))))
 unfold Builtin.«set_iterator.__next__»
 refine wpAny_bind (wpAny_pure ?_)
 refine wpAny_bind (wpAny_fieldsOf ho rfl ?_)
 refine wpAny_bind (T.entries ?_)
 refine wp_f (by simp) ?_
 refine wpAny_bind (wpAny_seqItems hp rfl ?_)
 have ea:(pls.toArray)[(i:Int).toNat]? = pls[i]?:=by simp
 dsimp only
 rw[ea]
 cases hv:pls[i]? with
 | some v =>
   rw[hv] at h
   obtain⟨j,e,rfl,he,h⟩:=h
   dsimp only
   refine wpAny_bind ?_
   unfold setNextDrawn
   refine wpAny_bind (T.state ?_)
   refine wp_f (by simp) ?_
   have ej:es[(j:Int).toNat]? = some e:=by simpa using he
   rw[ej]
   refine wpAny_pure ?_
   refine wpAny_bind (wpAny_setField_rec ho (by simp) λh1 e1 b1=>?_)
   exact wpAny_pure ⟨_,rfl,wpAny_pure (h h1 e1 b1)⟩
 | none =>
   rw[hv] at h
   dsimp only
   refine wpAny_bind (wpAny_setField_rec ho (by simp) λh1 e1 b1=>?_)
   refine wpAny_bind (wpAny_setField_rec (s:={ s with heap:=h1 }) e1 (by simp) λh2 e2 b2=>?_)
   exact zog (s:={ s with heap:=h2 }) hh λh' ex=>h h' λb o n e=>ex b o ((b2.2 b n).trans ((b1.2 b n).trans e))
theorem zkm{first:Value}{i n:Nat}{Q:Value->Shared->Prop}(ho:s.heap.get? it=some (itO first i S n ep))(h:Q (.ref it) s):wpAny (model P w) A (pyIter (.ref it)) Q E s:=by
 have hT:s.TypeIs (.ref it) "set_iterator" := ⟨_,ho,rfl⟩
 refine wpAny_pyIter_slot hT zol (wpAny_call_entry zol hT zuu ?_ (zxr _))
 exact wpAny_pure ⟨_,rfl, "set_iterator", _,hT,nx_slot.lookup,h⟩
end
end SX
namespace SX
open PySem PySem.Spec PyProof.Rows
section
variable {P : Program} {w : World} {A : Around} {E : Value → Shared → Prop} {s : Shared} {it S : Addr} {es : Es} {ep : Nat} {t : SetTable}
def ordP(ord:List (Int × Value)):Nat->Value->Prop:=λi v=>∃ e,ord[i]? = some e/\v=e.2
theorem z3r(hh:A.handled=none)(hb:byT w=true)(ne:S ≠ it) :
 Walks P w A it [it,S] [it] (pickOrder (w.params.setOrder S ep) es).toList.length (ordP (pickOrder (w.params.setOrder S ep) es).toList) (λi h=>(∃ sl:Nat,h.get? it=some (itO (.int sl 0) i S es.size ep))/\Sx w h S es ep t) where
 sub:=λb z=>by simp at z;simp[z]
 frame:=λi h h' st k=>⟨let ⟨sl,e⟩:=st.1; ⟨sl,k it (by simp) _ e⟩,st.2.keep λo e=>k S (by simp) o e⟩
 item:=λi s Q E hi st k=>by
  obtain⟨⟨sl,ho⟩,T⟩:=st
  refine zhd rfl ho T (zv7 hb T ⟨rfl,?_⟩) hh
  have hx:(pickOrder (w.params.setOrder S ep) es)[i]? = some ((pickOrder (w.params.setOrder S ep) es).toList[i]):=by
   rw[<- Yo]
   exact Ql hi
  rw[hx]
  refine λh' e' sb=>k _ h' s.toks ⟨_,Ql hi,rfl⟩ ⟨⟨sl,e'⟩,T.keep λo e=>(sb.2 S ne).trans e⟩ λb o nb e=>(sb.2 b (by simpa using nb)).trans e
 done:=λs Q E st k=>by
  obtain⟨⟨sl,ho⟩,T⟩:=st
  refine zhd rfl ho T (zv7 hb T ⟨rfl,?_⟩) hh
  rw[show(pickOrder (w.params.setOrder S ep) es)[(pickOrder (w.params.setOrder S ep) es).toList.length]? = none by simp]
  exact λh' kp=>k h' s.toks λb o nb e=>kp b o (by simpa using nb) e
 self:=λi s Q E st h=>zkm st.1.choose_spec h
theorem zm2:∀ {js:List Nat},(∀ j ∈ js,j<es.size)->(js.filterMap λj=>es[j]?)=js.map λj=>es[j]?.getD (0,.none)
 | [],_=>rfl
 | j::js,hj=>by
   obtain⟨e,h1⟩:∃ e,es[j]? = some e:=⟨_,ZA (hj j (by simp))⟩
   rw[List.filterMap_cons_some h1,Q2,h1,zm2 λx z=>hj x (Qe _ z)]
   rfl
theorem z2n{Tp:Addr}{ord:List (Int × Value)}{js:List Nat}(hh:A.handled=none)(ne:S ≠ it)(nt:Tp ≠ it)(ho:ord=js.filterMap λj=>es[j]?)(hj:∀ j ∈ js,j<es.size) :
 Walks P w A it [it,S,Tp] [it] ord.length (ordP ord) (λi h=>h.get? it=some (itO (.ref Tp) i S es.size ep)/\Sx w h S es ep t/\h.get? Tp=some { cls := .type "tuple", data := .seq (js.map λ(j:Nat)=>jE j 0).toArray }) where
 sub:=λb z=>by simp at z;simp[z]
 frame:=λi h h' st k=>⟨k it (by simp) _ st.1,st.2.1.keep λo e=>k S (by simp) o e,k Tp (by simp) _ st.2.2⟩
 item:=λi s Q E hi st k=>by
  obtain⟨hi1,T,ht⟩:=st
  have el:=ho.trans (zm2 hj)
  have hl:i<js.length:=by rw[el] at hi;simpa using hi
  obtain⟨e,h1⟩:∃ e,es[js[i]]? = some e:=⟨_,ZA (hj _ (QL hl))⟩
  refine zn8 hi1 ht T ?_ hh
  rw[Qy,Ql hl]
  refine⟨js[i],_,rfl,h1,λh' e' sb=>k _ h' s.toks ⟨e,?_,rfl⟩ ⟨e',T.keep λo e=>(sb.2 S ne).trans e,(sb.2 Tp nt).trans ht⟩ λb o nb e=>(sb.2 b (by simpa using nb)).trans e⟩
  rw[el,Qy,Ql hl]
  show some (es[js[i]]?.getD (0,.none))=_
  rw[h1]
  rfl
 done:=λs Q E st k=>by
  obtain⟨hi1,T,ht⟩:=st
  have el:ord.length=js.length:=by rw[ho.trans (zm2 hj)];simp
  refine zn8 hi1 ht T ?_ hh
  rw[Qy,Zs (by omega)]
  exact λh' kp=>k h' s.toks λb o nb e=>kp b o (by simpa using nb) e
 self:=λi s Q E st h=>zkm st.1 h
theorem zkx{p:Array Nat}{sl:Nat}(h:p.size=1):JJ p sl=if p.getD 0 sl<sl then 1 else 0:=by
 unfold JJ
 rw[h]
 unfold ja
 rw[if_pos (by omega)]
 show(if p.getD 0 sl<sl then ja p sl 0 1 1 else ja p sl 0 0 0)=_
 split <;> rfl
theorem z2e(hh:A.handled=none)(hb:byT w=false)(hz:es.size<=1)(ne:S ≠ it) :
 Walks P w A it [it,S] [it] es.toList.length (ordP es.toList) (λi h=>(∃ sl:Nat,(i=0->sl=0)/\(i=1->∃ j,t.place[0]? = some j/\sl=j+1)/\h.get? it=some (itO (.int sl 0) i S es.size ep))/\Sx w h S es ep t) where
 sub:=λb z=>by simp at z;simp[z]
 frame:=λi h h' st k=>⟨let ⟨sl,e0,e1,e⟩:=st.1; ⟨sl,e0,e1,k it (by simp) _ e⟩,st.2.keep λo e=>k S (by simp) o e⟩
 item:=λi s Q E hi st k=>by
  obtain⟨⟨sl,h0,_,ho⟩,T⟩:=st
  have hi':i<es.size:=by simpa using hi
  obtain rfl:i=0:=by omega
  obtain rfl:=h0 rfl
  have f1:t.place.size=1:=by
   have:=T.fit
   simp only[za,Qv,beq_iff_eq] at this
   omega
  have hbel:JJ t.place 0=0:=by rw[zkx f1,if_neg (qH _)]
  refine zhd rfl ho T (zwt hb hz T ⟨rfl,?_⟩) hh
  rw[hbel]
  have e1:es[0]? = some es[0]:=ZA hi'
  have e2:t.place[0]? = some t.place[0]:=ZA (by omega)
  rw[e1,e2]
  refine λh' e' sb=>k _ h' s.toks ⟨es[0],by rw[Yo];exact e1,rfl⟩ ⟨⟨t.place[0]+1,λz=>by omega,λ_=>⟨_,e2,rfl⟩,e'⟩,T.keep λo e=>(sb.2 S ne).trans e⟩ λb o nb e=>(sb.2 b (by simpa using nb)).trans e
 done:=λs Q E st k=>by
  obtain⟨⟨sl,_,h1,ho⟩,T⟩:=st
  have f1:t.place.size=es.size:=by
   have:=T.fit
   simp only[za,Qv,beq_iff_eq] at this
   omega
  refine zhd rfl ho T (zwt hb hz T ⟨rfl,?_⟩) hh
  have none':es[JJ t.place sl]? = none:=by
   by_cases h:es.size=0
   ·exact Yk (by omega)
   ·obtain⟨j,e1,e2⟩:=h1 (by simp;omega)
    rw[zkx (by omega),YA,e1,e2]
    show es[if j<j+1 then 1 else 0]? = none
    rw[if_pos (ZQ _)]
    exact Yk (by omega)
  rw[none']
  exact λh' kp=>k h' s.toks λb o nb e=>kp b o (by simpa using nb) e
 self:=λi s Q E st h=>zkm st.1.choose_spec.2.2 h
end
end SX
namespace SX
open PySem PySem.Spec PyProof.Rows
section
variable {P : Program} {w : World} {A : Around} {E : Value → Shared → Prop} {s : Shared} {it S : Addr} {es : Es} {ep : Nat} {t : SetTable}
theorem Sx.typ(T:Sx w s.heap S es ep t):s.TypeIs (.ref S) "set" := let ⟨_,ho,hx,_⟩:=T.at_; ⟨_,ho,hx.1⟩
theorem Sx.lts(T:Sx w s.heap S es ep t):S<s.heap.objs.size:=let ⟨_,ho,_⟩:=T.at_;Qk ho
theorem zub{Q:Bool->Shared->Prop}(T:Sx w s.heap S es ep t)(h:Q (!byT w && decide (es.size > 1)) s):wpAny (model P w) A (setDrawn S) Q E s:=by
 unfold setDrawn
 refine wpAny_bind (T.state ?_)
 refine wpAny_bind (zjd ?_)
 have e:(!byT w && (!t.plain && decide (es.size > 1)))=(!byT w && decide (es.size > 1)):=by
  by_cases hz:1<es.size
  ·rw[T.pl hz];simp
  ·simp[hz]
 refine wpAny_pure ?_
 show Q (!byT w && (!t.plain && decide (es.size > 1))) s
 rw[e]
 exact h
theorem zvf{Q:Value->Shared->Prop}(T:Sx w s.heap S es ep t)
 (k:∀ (it:Addr) (h':Heap) (d':Drawn) (ord:List (Int × Value)) (fp:List Addr) (St:Nat->Heap->Prop),ord.Perm es.toList->(∀ A':Around,A'.handled=none->Walks P w A' it fp [it] ord.length (ordP ord) St)->St 0 h'->Ext s.heap h'->(∀ b ∈ fp,b<s.heap.objs.size->b=S)->(∀ b ∈ fp,b<h'.objs.size)->s.heap.objs.size<=it->it ∈ fp->Q (.ref it) { s with heap:=h',drawn:=d' }) :
 wpAny (model P w) A (pyIter (.ref S)) Q E s:=by
 have hlt:=T.lts
 refine wpAny_pyIter_slot T.typ F.slot_set_iter (wpAny_call_entry F.slot_set_iter T.typ zj3 ?_ (F.args_set_iter_1 _))
 unfold Builtin.«frozenset.__iter__»
 refine wpAny_bind (m:=zd "__iter__" ⟨[.ref S],[]⟩) (wpAny_pure ?_)
 refine wpAny_bind (wpAny_bind (T.entries (wpAny_pure ?_)))
 refine wpAny_bind (zub T ?_)
 have sz:∀ (h:Heap) (o:Obj),(h.push o).objs.size=h.objs.size+1:=λh o=>QT ..
 cases hd:(!byT w && decide (es.size > 1)) with
 | true =>
   refine wp_t rfl ?_
   refine wpAny_bind (zom es.size _ _ _ (by simp) λjs d hp=>?_)
   have hz:js.length<=sizeLine:=by
    have:=fits_of_scanBound T.lt
    rw[hp.length_eq,QZ]
    exact this
   refine wpAny_bind (wpAny_newTuple ?_ (by rw[Qb];exact hz))
   have T1:Sx w (s.heap.push { cls := .type "tuple", data := .seq (js.map λ(j:Nat)=>rawInt j).toArray }) S es ep t:=T.keep λo e=>Qc _ e
   refine wpAny_bind (Sx.epoch (s:={ s with heap:=s.heap.push { cls := .type "tuple", data := .seq (js.map λ(j:Nat)=>rawInt j).toArray },drawn:=d }) T1 ?_)
   refine wpAny_bind (wpAny_newObj_type (wpAny_pure ⟨_,rfl, "set_iterator", _,⟨_,Qq _ rfl,rfl⟩,nx_slot.lookup,?_⟩))
   have hj:∀ j ∈ js,j<es.size:=λj z=>Jx.mp (hp.mem_iff.mp z)
   refine k _ _ d (js.filterMap λj=>es[j]?) [(s.heap.push { cls := .type "tuple", data := .seq (js.map λ(j:Nat)=>rawInt j).toArray }).objs.size,S,s.heap.objs.size] _ ?_ (λA' hA=>z2n (t:=t) (ep:=ep) hA ?_ ?_ rfl hj) ⟨Qq _ rfl,T1.keep λo e=>Qc _ e,Qc _ (Qq _ rfl)⟩ (λb o e=>Qc _ (Qc _ e)) ?_ ?_ ?_ (by simp)
   ·refine(hp.filterMap _).trans ?_
    rw[filterMap_getElem?_range]
   ·rw[sz];exact Q8 (Z1 hlt)
   ·rw[sz];exact Q8 (ZQ _)
   ·intro b hb hl
    rw[sz] at hb
    simp at hb
    rcases hb with rfl|rfl|rfl
    ·exact absurd hl (ZH.mpr (ZZ _))
    ·rfl
    ·exact absurd hl (QS _)
   ·intro b hb
    rw[sz] at hb
    rw[sz,sz]
    simp at hb
    rcases hb with rfl|rfl|rfl
    ·exact ZQ _
    ·exact Z1 (Z1 hlt)
    ·exact Z1 (ZQ _)
   ·rw[sz];exact ZZ _
 | false =>
   refine wp_f (by decide) (wpAny_bind (wpAny_pure ?_))
   refine wpAny_bind (T.epoch ?_)
   refine wpAny_bind (wpAny_newObj_type (wpAny_pure ⟨_,rfl, "set_iterator", _,⟨_,Qq _ rfl,rfl⟩,nx_slot.lookup,?_⟩))
   have ne:S ≠ s.heap.objs.size:=Q8 hlt
   have fpo:∀ b ∈ [s.heap.objs.size,S],b<s.heap.objs.size->b=S:=λb hb hl=>by
    simp at hb
    rcases hb with rfl|rfl
    ·exact absurd hl (QS _)
    ·rfl
   have fpl:∀ o:Obj,∀ b ∈ [s.heap.objs.size,S],b<(s.heap.push o).objs.size:=λo b hb=>by
    rw[sz]
    simp at hb
    rcases hb with rfl|rfl
    ·exact ZQ _
    ·exact Z1 hlt
   cases hb:byT w with
   | true =>
     exact k _ _ s.drawn _ [s.heap.objs.size,S] _ (zr4 _ es) (λA' hA=>z3r (t:=t) hA hb ne) ⟨⟨0,Qq _ rfl⟩,T.keep λo e=>Qc _ e⟩ (λb o e=>Qc _ e) fpo (fpl _) (Qo _) (by simp)
   | false =>
     have hz:es.size<=1:=by rw[hb] at hd;simpa using hd
     exact k _ _ s.drawn es.toList [s.heap.objs.size,S] _ (.refl _) (λA' hA=>z2e (t:=t) (ep:=ep) hA hb hz ne) ⟨⟨0,λ_=>rfl,λz=>absurd z (by decide),Qq _ rfl⟩,T.keep λo e=>Qc _ e⟩ (λb o e=>Qc _ e) fpo (fpl _) (Qo _) (by simp)
end
end SX
namespace SX
open PySem PySem.Spec PyProof.Rows
section
variable {P : Program} {w : World} {A : Around} {E : Value → Shared → Prop} {s : Shared} {it S : Addr} {es : Es} {ep : Nat} {t : SetTable}
abbrev lO(xs:Array Value)(c:Nat):Obj:={ cls := .type "list", dict:=none,data := .seq xs c,slots:=#[] }
theorem zva:isSubtype (.type "set") (.type "set")=pure true:=by
 rw[isSubtype_type]
 kernel_rfl
theorem zss{a:Addr}{xs:Array Value}{c:Nat}(f:Array Value->Array Value){Q:Unit->Shared->Prop}(ho:s.heap.get? a=some (lO xs c))(hz:xs.size<=sizeLine)(hz2:(f xs).size<=sizeLine+1)
 (h:∀ h' c',h'.get? a=some (lO (f xs) c')->ZW a s.heap h'->Q () { s with heap:=h' }):wpAny (model P w) A (Builtin.List.listUpdate (.ref a) f) Q E s :=
 listUpdate_at ho rfl (h _ _ (Zj (YI f) ho rfl) (.update ..)) hz hz2
theorem znv{Q:List Value->Shared->Prop}(hh:A.handled=none)(T:Sx w s.heap S es ep t)
 (k:∀ (h':Heap) (d':Drawn) (tk:Nat) (vs:List Value),Ext s.heap h'->vs.Perm (es.toList.map (·.2))->s.heap.objs.size<h'.objs.size->Q vs { s with heap:=h',drawn:=d',toks:=tk }):wpAny (model P w) A (collect (.ref S)) Q E s:=by
 have hlt:=T.lts
 unfold collect
 refine wpAny_bind (wpAny_runValue (codeAny_builtin F.entry_proto_collect ?_))
 rw[Jq F.plain_proto_collect _]
 refine wpAny_bind (m:=newList []) (wpAny_newObj_type ?_)
 refine wpAny_pure ⟨plainId_quiet qk _,codeAny_builtin F.entry_list_iadd ?_⟩
 rw[Jq qk _]
 have T1:Sx w (s.heap.push (lO #[] 0)) S es ep t:=T.keep λo e=>Qc _ e
 have eL:(s.heap.push (lO #[] 0)).get? s.heap.objs.size=some (lO #[] 0):=Qq _ rfl
 have sz1:(s.heap.push (lO #[] 0)).objs.size=s.heap.objs.size+1:=QT ..
 show wpAny _ A.in1 (YB (.ref s.heap.objs.size) (.ref S) (.ref s.heap.objs.size)) _ _ { s with heap:=s.heap.push (lO #[] 0) }
 unfold YB
 refine wpAny_bind (wpAny_typeOf (T1.typ (s:={ s with heap:=s.heap.push (lO #[] 0) })) ?_)
 have nsr:Builtin.List.listSameRef (.ref s.heap.objs.size) (.ref S)=false:=by
  show(s.heap.objs.size == S)=false
  exact beq_eq_false_iff_ne.mpr (J5 hlt)
 rw[nsr]
 refine wp_f (by decide) ?_
 refine wpAny_bind (zvf (s:={ s with heap:=s.heap.push (lO #[] 0) }) T1 λit h2 d2 ord fp St hp W st ex fpo fpl hit hmem=>?_)
 have T2:Sx w h2 S es ep t:=T1.keep λo e=>ex _ o e
 have tS:qZ { s with heap:=h2,drawn:=d2 } (.ref S) "set" := T2.typ (s:={ s with heap:=h2,drawn:=d2 })
 refine wpAny_bind (wpAny_holding ?_)
 unfold Builtin.List.listLengthHint
 refine wpAny_bind (wpAny_specialOf tS F.slot_set_len.lookup ?_)
 generalize hid:("set.__len__" : String)=id0
 (fail_if_success (clear hid id0))
 wp_delta
 rw[show splitId id0=some ("set", "__len__") from by subst hid;decide +kernel]
 subst hid
 refine wpAny_bind (wpAny_isInstance (b:=true) tS zva ?_)
 refine wp_f (by decide) ?_
 refine wp_t (by decide +kernel) ?_
 refine wpAny_bind (wpAny_typeOf tS ?_)
 refine wpAny_pure ?_
 refine wp_t (by decide +kernel) ?_
 refine wpAny_bind (wpAny_rule ?_)
 refine wpAny_bind ?_
 unfold Builtin.List.listTouch
 have h64:(0:Nat)<=sizeLine:=QH _
 have eL2:h2.get? s.heap.objs.size=some (lO #[] 0):=ex _ _ eL
 refine wpAny_bind (zss (s:={ s with heap:=h2,drawn:=d2 }) (·.push Zh) eL2 h64 (by simp) λh3 c3 e3 b3=>?_)
 refine zss (s:={ s with heap:=h3,drawn:=d2 }) (·.pop) e3 (by rw[sizeLine_eq];decide) (by simp) λh4 c4 e4 b4=>?_
 have nLf:s.heap.objs.size ∉ fp:=λz=>by
  have:=fpo _ z (by rw[sz1];exact ZQ _)
  exact J5 hlt this
 have st4:St 0 h4:=(W A hh).frame 0 h2 h4 st λb hb o e=>by
  have nb:b ≠ s.heap.objs.size:=λz=>nLf (z ▸ hb)
  exact(b4.2 b nb).trans ((b3.2 b nb).trans e)
 have hn:ord.length<=sizeLine:=by
  rw[hp.length_eq,Jv]
  exact fits_of_scanBound T.lt
 refine wpAny_pure ⟨plainId_quiet F.plain_extend_loop _,codeAny_extend_loopS (W A.in1 (by simpa using hh)).toS hn _ nLf _ ord.length 0 { s with heap:=h4,drawn:=d2 } #[] c4 rfl (QH _) st4 e4 (ItemsOf.nil _) λs' acc c mv eA hacc=>?_⟩
 refine wpAny_bind (wpAny_load eA (wpAny_pure ?_))
 obtain⟨h5,g5,d5,tk5,os5⟩:=s'
 obtain rfl:g5=s.gens:=mv.gens
 obtain rfl:d5=d2:=mv.drawn
 obtain rfl:os5=s.os:=mv.os
 have ev:acc.toList=ord.map (·.2):=by
  refine ql λi=>?_
  rw[Yo]
  by_cases hi:i<acc.size
  ·rw[ZA hi]
   obtain⟨e,h1,h2⟩:=hacc.2 i _ (ZA hi)
   rw[Qy,h1,h2]
   rfl
  ·rw[Yk (by omega),Qy,Zs (by have:=hacc.1;omega)]
   rfl
 refine k h5 d5 tk5 acc.toList (λb o e=>mv.heap b o (λz=>?_) ?_) (by rw[ev];exact hp.map _) (Qk eA)
 ·have hbl:=Qk e
  rcases Qt.mp z with z|z
  ·exact Q8 hbl z
  ·rw[Q3.mp z] at hbl
   have:s.heap.objs.size+1<=it:=by rw[<- sz1];exact hit
   exact absurd hbl (ZH.mpr (Jo this))
 ·have nb:b ≠ s.heap.objs.size:=Q8 (Qk e)
  exact(b4.2 b nb).trans ((b3.2 b nb).trans (ex b o (Qc _ e)))
end
end SX
namespace SX
open PySem PySem.Spec PyProof.Rows
section
variable {P : Program} {w : World} {A : Around} {E : Value → Shared → Prop} {s : Shared} {it S : Addr} {es : Es} {ep : Nat} {t : SetTable}
theorem zoi:∀ {vs:List Value},(∀ v ∈ vs,∃ x t,v = .str x t)->StrsAre vs (vs.map strOf)
 | [],_ => .nil
 | v::vs,h=>by
   obtain⟨x,t,rfl⟩:=h v (by simp)
   exact .cons x t (zoi λu z=>h u (Qe _ z))
theorem zpo{Q:Value->Shared->Prop}(hh:A.handled=none)(T:Tx P w s.heap S es ep t)(h64:es.size<64)
 (k:∀ (h':Heap) (d':Drawn) (tk:Nat) (out:Array Value) (c:Nat) (zs:List Str) (l:Addr),Ext s.heap h'->s.heap.objs.size<=l->h'.get? l=some (seqObj "list" out c)->StrsAre out.toList zs->zs.Perm (keys es)->sortedS zs=true->Q (.ref l) { s with heap:=h',drawn:=d',toks:=tk }) :
 wpAny (model P w) A (call (.builtin "sorted") [.ref S]) Q E s:=by
 refine Calls.call_function_entry kind_sorted plain_sorted entry_sorted (args_sorted1 _) ?_
 unfold Builtin.«sorted»
 refine wpAny_bind (m:=checkCount "sorted" 1 1 _) (wpAny_pure ?_)
 refine wpAny_bind (znv (by simpa using hh) T.toSx λh' d' tk vs ex hp hl=>?_)
 have v64:vs.length<64:=by rw[hp.length_eq];simpa using h64
 refine wpAny_bind (wpAny_newList ?_ (by rw[sizeLine_eq];omega))
 have hS:StrsAre vs (vs.map strOf):=zoi λv z=>by
  obtain⟨e,he,rfl⟩:=Qu.mp (hp.mem_iff.mp z)
  obtain⟨⟨x,hx,_⟩,_⟩:=T.el e he
  obtain⟨u,hu⟩:=Y5 hx
  exact⟨x,u,hu⟩
 have eL:(h'.push (seqObj "list" vs.toArray 0)).get? h'.objs.size=some (seqObj "list" vs.toArray 0):=Qq _ rfl
 refine wpAny_bind (wpAny_holding (wpAny_call_entry slot_list_sort ⟨_,eL,rfl⟩ entry_list_sort (list_sort_treeK (s:={ s with heap:=h'.push (seqObj "list" vs.toArray 0),drawn:=d',toks:=tk }) strKind_oneLt eL hS.keysOf (λv₁ v₂ rest e=>keyKind_strs (by rw[<- e];exact hS)) v64 λst' a1 a2=>⟨_,rfl,?_⟩) (args_list_sort _)))
 obtain⟨zs,z1,z2,z3⟩:=sorted_out_str hS a1 a2
 obtain⟨c,ec⟩:=sortedHeap_at (out:=(arrOf st').map (·.2)) eL
 refine wpAny_pure ⟨_,rfl,k _ d' tk _ c zs h'.objs.size (λb o e=>?_) (Yd hl) ec z1 ?_ z3⟩
 ·have eb:=ex b o e
  have nb:b ≠ h'.objs.size:=Q8 (Qk eb)
  show(sortedHeap (h'.push (seqObj "list" vs.toArray 0)) h'.objs.size vs _).get? b=_
  rw[sortedHeap_old nb (by rw[size_push'];exact Z1 (Qk eb))]
  exact Qc _ eb
 ·refine z2.trans ?_
  have:=hp.map strOf
  rw[QB] at this
  exact this
end
end SX
namespace L3
open PySem PySem.Spec
open PyProof.Rows hiding St
open L2
open SX
theorem Inv.draw{X:Cx}{pins:List (Addr × Obj)}{σ:List (Option V)}{H:Hp}{s:Shared}(I:Inv X pins σ H s)(d:Drawn):Inv X pins σ H { s with drawn:=d } :=
 ⟨I.ok,I.os,I.bare,I.base,I.loc,I.cell,I.free,I.freeC,I.pin,I.hok,I.len⟩
def TxsV(K:Qa)(H:Hp)(v:V)(ys:List Str):Prop:=(∃ x:Str,v = .str x/\ys=x.cps.toList.map sg)\/∃ a,v = .ref a/\SqL K H a (ys.map V.str)
def tSS(K:Qa)(te:TE):TE:=λσ H Q=>te σ H λv H1=>∃ ys:List Str,TxsV K H1 v ys/\ys.length<64/\∀ (zs:List Str) p,zs.Nodup->(∀ k,k ∈ zs↔k ∈ ys)->sortedS zs=true->H1 p=none->Q (.ref p) (upd H1 p (.lst (zs.map V.str)))
theorem z4c{P:Program}{w:World}{h:Heap}(x:Str)(tk:Tok):Src P w h (.str x tk) x.cps.size (SignAt x):=λA E s₁ Q hh ex k=>by
 refine wpAny_pyIter_str λo St W st=>?_
 refine k _ _ [s₁.heap.objs.size] St W st (λb o e=>Qc _ e) (λb hb => .inr (by simp at hb;exact Yh hb.symm)) (Qo _)
theorem zz7{P:Program}{w:World}{h:Heap}{l:Addr}{items:Array Value}(hl:h.IsList l items):Src P w h (.ref l) items.size (λi v=>items[i]? = some v):=λA E s₁ Q hh ex k=>by
 have hl1:s₁.heap.IsList l items:=hl.at λo e=>ex l o e
 have lt:l<h.objs.size:=by obtain⟨o,e,_⟩:=hl;exact Qk e
 have lt1:l<s₁.heap.objs.size:=by obtain⟨o,e,_⟩:=hl1;exact Qk e
 refine wpAny_pyIter_list hl1 ?_
 refine k s₁.heap.objs.size _ [s₁.heap.objs.size,l] _ (λA' hA=>Walks.list hA _ l (Q8 lt1) items) ⟨⟨_,Qq _ rfl,rfl,rfl⟩,hl1.push _⟩ (λb o e=>Qc _ e) (λb hb=>?_) (Qo _)
 simp at hb
 rcases hb with rfl|rfl
 ·exact .inr (Qo _)
 ·exact .inl lt
theorem zsl{xs ys:List Str}(h:xs.Nodup)(hs:∀ k ∈ xs,k ∈ ys):xs.length<=ys.length:=by
 induction xs generalizing ys with
 | nil=>exact QH _
 | cons x xs ih =>
   have hx:x ∈ ys:=hs x (by simp)
   have h':=Jk.mp h
   have:=ih (ys:=ys.erase x) h'.2 λk hk=>(jA (λz:k=x=>h'.1 (z ▸ hk))).mpr (hs k (Qe _ hk))
   rw[jd hx] at this
   have:0<ys.length:=jr hx
   simp only[Qm]
   omega
theorem zqk{X:Cx}{e:Expr}{te:TE}{p1 p2 p3 p4:Pos}(hc:X.calm=true)(gl:Gl X "sorted")(ml:X.mg "sorted" = none)(gr:Gl X "set")(mr:X.mg "set" = none)(he:PE X e te)
 (s1:starEach [.Call (.Name "set" p2) [e] [] p3] X.env=(false,eval (.Call (.Name "set" p2) [e] [] p3) X.env)::starEach [] X.env:=by rfl) (s2:starEach [e] X.env=(false,eval e X.env)::starEach [] X.env:=by rfl) :
 PE X (.Call (.Name "sorted" p1) [.Call (.Name "set" p2) [e] [] p3] [] p4) (tSS X.K te):=by
 intro pins s σ H Q I h
 have calm:=I.ok.hd hc
 refine wpAny_Call_Name_kw (zcd I gl ml zqw ?_)
 refine Z9 ?_ s1
 rw[s1]
 show wpAny _ _ (spliced ((false,eval (.Call (.Name "set" p2) [e] [] p3) X.env) :: [])) _ _ s
 refine Zw ?_
 refine wpAny_Call_Name_kw (zcd I gr mr (u := .type "set") rfl ?_)
 refine ZJ ?_ s2
 rw[s2]
 show wpAny _ _ (spliced ((false,eval e X.env) :: [])) _ _ s
 refine Zw (thn (he pins s σ H _ I h) λu s' ⟨y,H1,I1,r1,ys,hy,hz,q⟩=>?_)
 refine ZU ?_
 have fin:∀ (n:Nat) (val:Nat->Str) (h':Heap) (tk:Nat) (es:Es) (ep:Nat) (t:SetTable),(∀ k,(∃ j,j<n/\val j=k)↔k ∈ ys)->Tx X.prog X.w h' s'.heap.objs.size es ep t->(∀ x,x ∈ keys es↔∃ j,j<n/\val j=x)->Ext s'.heap h' ->
  wpAny (model X.prog X.w) X.A (spliced []) (λa s₁=>wpAny (model X.prog X.w) X.A (call (.builtin "sorted") (QC s'.heap.objs.size::a)) (EP X pins σ Q) X.xe s₁) X.xe { s' with heap:=h',toks:=tk }:=λn val h' tk es ep t hv T hk ex=>by
  have mem:∀ k,k ∈ keys es↔k ∈ ys:=λk=>(hk k).trans (hv k)
  have z64:es.size<64:=by
   have:=zsl T.nd (λk hk=>(mem k).mp hk)
   simp[keys] at this
   omega
  refine ZU ?_
  refine zpo (s:={ s' with heap:=h',toks:=tk }) calm T z64 λh2 d2 tk2 out c zs l ex2 hl el st zp zs'=>?_
  have lt':s'.heap.objs.size<=l:=Q4 (Yd (T.lts (s:={ s' with heap:=h',toks:=tk }))) hl
  have I2:=(Inv.draw (I1.laid (a:=l) (o := .lst (zs.map V.str)) (t':=tk2) (h':=h2) (λb o e=>ex2 b o (ex b o e)) lt' ?_) d2)
  ·exact⟨.ref l,_,I2,rfl,q zs l (zp.nodup_iff.mpr T.nd) (λk=>by rw[zp.mem_iff];exact mem k) zs' (I1.hok.fresh lt')⟩
  ·refine⟨?_,out.toList,c,zg5 st,by simpa using el⟩
   rw[Qb,zp.length_eq]
   simp only[keys,Qb,Jv]
   exact fits_of_scanBound T.lt
 rcases hy with ⟨x,rfl,rfl⟩|⟨a,rfl,hq⟩
 ·obtain⟨tk,rfl⟩:=r1
  have hn:x.cps.size<64:=by simpa using hz
  refine zle (T := "str") (val:=λi=>sg (x.cps.getD i 0)) calm (λ_ _=>rfl) ?_ ?_ (by decide) (z4c x tk) (λi v hv=>?_) (by unfold scanBound;omega) λh' tk' es ep t T hk ex=>fin x.cps.size _ h' tk' es ep t (λk=>?_) T hk ex
  ·rw[isSubtype_type];kernel_rfl
  ·rw[isSubtype_type];kernel_rfl
  ·obtain⟨c,u,hc,rfl⟩:=hv
   exact⟨u,by rw[YA,hc];rfl⟩
  ·constructor
   ·rintro⟨j,hj,rfl⟩
    exact Qu.mpr ⟨x.cps[j],by simp,by simp[hj]⟩
   ·intro hk
    obtain⟨c,hc,rfl⟩:=Qu.mp hk
    obtain⟨j,hj,e⟩:=jI hc
    have hj':j<x.cps.size:=by simpa using hj
    exact⟨j,hj',by simp at e;simp[hj',e]⟩
 ·cases r1
  obtain⟨its,rv,pl,hz2⟩:=I1.list hq
  have sa:=zfz rv
  have ln:its.length=ys.length:=by have:=rv.length;simp at this;exact this.symm
  refine zle (T := "list") (val:=λi=>ys.getD i (sg 0)) calm (λs₁ ex=>?_) F.sub_list_set F.sub_list_frozenset (by decide) (zz7 pl.isList) (λi v hv=>?_) (by unfold scanBound;simp;omega) λh' tk' es ep t T hk ex=>fin _ _ h' tk' es ep t (λk=>?_) T hk ex
  ·obtain⟨o,e,c,_⟩:=pl.isList
   exact⟨o,ex _ o e,c⟩
  ·have hv':its[i]? = some v:=by simpa using hv
   have hi:i<ys.length:=by
    obtain⟨z,_⟩:=Qs.mp hv'
    omega
   obtain⟨u,hu,ru⟩:=rv.get (i:=i) (x:=V.str ys[i]) (by rw[Qy,Ql hi];rfl)
   rw[hv'] at hu
   cases hu
   obtain⟨u,rfl⟩:=ru
   exact⟨u,by rw[Jf,Ql hi];rfl⟩
  ·have e:its.toArray.size=ys.length:=by simpa using ln
   rw[e]
   constructor
   ·rintro⟨j,hj,rfl⟩
    rw[Jf,Ql hj]
    exact QL hj
   ·intro hk
    obtain⟨j,hj,e⟩:=jI hk
    exact⟨j,hj,by rw[Jf,Ql hj];exact e⟩
def TxsD(d:PyData)(ys:List Str):Prop:=(∃ x:Str,d = .str x/\ys=x.cps.toList.map sg)\/d = .list (ys.map .str)
def ssD(f:DE):DE:=λρ Q=>f ρ λr=>∃ ys:List Str,TxsD r.d ys/\ys.length<64/\∀ zs:List Str,zs.Nodup->(∀ k,k ∈ zs↔k ∈ ys)->sortedS zs=true->Q (.n (zs.map .str))
theorem z4o{K:Qa}{O:Ob}{te:TE}{f:DE}(h:ED K O te f):ED K O (tSS K te) (ssD f):=λσ H ρ Q Qd S hf k=>by
 refine h σ H ρ _ _ S hf λv H1 r s1 o1 ⟨ys,hy,hl,q⟩=>?_
 have i:=o1.is S.ok S.p
 have ok:=S.ok
 have p1:=s1.p S.p
 refine⟨ys,?_,hl,λzs p h1 h2 h3 hn=>?_⟩
 ·rcases hy with ⟨x,e,rfl⟩|e
  ·rw[e] at i
   cases i
   exact .inl ⟨x,rfl,rfl⟩
  ·rw[e] at i
   cases i with
   | list f1 a1 b1 =>
     rw[zd8 b1] at a1
     exact .inr ⟨_,rfl,.of a1⟩
 ·obtain⟨a1,a2⟩:=zc5 (K:=K) ok hn (zf9 zs)
  exact k _ _ _ (s1.trans a1) (a2.ahead ok S.p s1) (q zs h1 h2 h3)
theorem zsq{ι κ:Type}{P:Program}{w:World}{K:Qa}{mg:Str->Option Value}{base:Heap}{k:Nat}{X:ι->Cx}{O:κ->Ob}{a:Expr}{fa:DE}{p1 p2 p3 p4:Pos}(C:Ctx3 P w K mg base k X)(B:Blt mg)(ha:E3 K X O a fa)(g1:∀ i,Gl (X i) "sorted" := by intro i;rfl)(g2:∀ i,Gl (X i) "set" := by intro i;rfl)
 (s1:∀ i,starEach [.Call (.Name "set" p2) [a] [] p3] (X i).env=(false,eval (.Call (.Name "set" p2) [a] [] p3) (X i).env)::starEach [] (X i).env:=by intro i;rfl) (s2:∀ i,starEach [a] (X i).env=(false,eval a (X i).env)::starEach [] (X i).env:=by intro i;rfl) :
 E3 K X O (.Call (.Name "sorted" p1) [.Call (.Name "set" p2) [a] [] p3] [] p4) (ssD fa) :=
 let ⟨_,q,d⟩:=ha
 ⟨tSS K _,λi=>by
  have h:=zqk (X:=X i) (p1:=p1) (p2:=p2) (p3:=p3) (p4:=p4) (C.calm i) (g1 i) (by rw[C.hmg];exact B.sorted) (g2 i) (by rw[C.hmg];exact B.set) (q i) (s1 i) (s2 i)
  rw[C.hK] at h
  exact h,λj=>z4o (d j)⟩
def parS(i j:Nat)(g:DA):DS:=λDd ρ=>g ρ λds=>∃ d e,ds = [d,e]/\flat d=true/\flat e=true/\Dd.nx ((ρ.set i (some (.im d))).set j (some (.im e)))
theorem z0d{K:Qa}{O:Ob}{i j:Nat}{ta:TA}{g:DA}(h:AD K O ta g):SD K O (tPar i j ta) (parS i j g):=λH₀ A σ H ρ D Dd r q P=>by
 refine h σ H ρ _ _ r.seen q λvs H1 ds s1 is ⟨d,e,ed,f1,f2,q1⟩=>?_
 subst ed
 cases is with
 | cons i0 is =>
   cases is with
   | cons i1 is =>
     cases is
     refine⟨_,_,rfl,?_⟩
     have r1:=(r.stp s1).setIm (i:=i) (Is.flat (TupStay.refl H1) i0 f1)
     have r2:=r1.setIm (i:=j) (Is.flat (TupStay.refl H1) i1 f2)
     exact P.nx _ _ H1 _ r2 ((Frm.setIm (i:=i) s1).trans (Frm.setIm (i:=j) (.refl _ _))) q1
theorem z5n{ι κ:Type}{P:Program}{w:World}{K:Qa}{mg:Str->Option Value}{base:Heap}{k:Nat}{X:ι->Cx}{O:κ->Ob}{a b:Expr}{ga:DA}{pos px py pt pt2:Pos}{kt k2:Nat}(n m:Nat){x y:Str}(C:Ctx3 P w K mg base k X)(ha:A3 K X O [a,b] ga)(hnm:n ≠ m:=by decide)
 (hN:∀ i,(X i).N.Nodup:=by intro i;exact of_decide_eq_true (by kernel_rfl)) (hi:∀ i,(X i).N[n]? = some x:=by intro i;rfl) (hj:∀ i,(X i).N[m]? = some y:=by intro i;rfl) (hx:∀ i,(X i).env.scope.names.lookup x=some .local:=by intro i;rfl) (hy:∀ i,(X i).env.scope.names.lookup y=some .local:=by intro i;rfl)
 (hw:∀ i,swappedStores [.Tuple [.Name x px,.Name y py] kt pt] (.Tuple [a,b] k2 pt2) (X i).env=pure (some [x,y]):=by intro i;rfl) (hs:∀ i,swapsWithSole [.Tuple [.Name x px,.Name y py] kt pt] (.Tuple [a,b] k2 pt2) pos.line (X i).env=pure false:=by intro i;rfl) :
 S3 K X O (.Assign [.Tuple [.Name x px,.Name y py] kt pt] (.Tuple [a,b] k2 pt2) pos) (parS n m ga) :=
 let ⟨_,p,d⟩:=ha
 ⟨_,λi=>z2v (C.calm i) (hN i) (hi i) (hj i) hnm (hx i) (hy i) (p i) (hw i) (hs i),λj=>z0d (d j)⟩
end L3
namespace L3
open PySem PySem.Spec PySem.Calls
open PyProof.Rows hiding St
open L2
structure XGet (K:Qa) (C:Addr):Prop where
 ga:QQ K (.ref C) "__getattribute__" = some (some (.builtin "BaseException.__getattribute__"))
 gn:QQ K (.ref C) "__getattr__" = some none
 base:QW K C (.type "BaseException")=some true
 obj:QW K C (.type "object")=some true
 dict:YW K C=true
 cls:QQ K (.ref C) "__class__" = some (some (.builtin "object.__class__"))
 cget:YX K (.builtin "object.__class__") "__get__" = some (some (.builtin "getset_descriptor.__get__"))
 ctk:ju K (.builtin "object.__class__")=some true
section
variable {prog : Program} {w : World} {A : Around} {E : Value → Shared → Prop} {K : Qa} {C x : Addr} {s : Shared} {f : Str} {v : Value} {ox od : Obj} {Q : Value → Shared → Prop} {fill expr : Bool} {tk : Tok}
theorem zph(X:K.In s.heap)(c:XGet K C)(I:JG s.heap x ox C (some od))
 (h:wpAny (model prog w) A.in1 (Builtin.«object.__getattribute__» ⟨[.ref x,.str f tk],[]⟩) (λfin s'=>match fin with | .done (.ret v)=>wpAny (model prog w) A (handedOut v) Q E s'|_=>False) (λ_ _=>False) s) :
 wpAny (model prog w) A (getAttrBy (.ref x) (.str f tk) fill expr) Q E s:=by
 have FB:=PySem.F.attr_ValueError
 have b0:=FB.ga.bind (.ref x)
 have L0:=I.type (M:=model prog w)
 have L1:=Jp (M:=model prog w) X c.ga
 have L2:=Jp (M:=model prog w) X c.gn
 have sb:ZK (model prog w) s.heap (isInstance (.ref x) (.type "BaseException")) true:=L0.andThen (JO X c.base)
 unfold getAttrBy
 refine wpAny_holding (wpAny_bind (L0.here (wpAny_bind (L1.here ?_))))
 dsimp only
 rw[if_neg (by rw[Qv];rintro⟨_,z⟩;revert z;decide +kernel)]
 unfold getAttrByItsOwn hookBefore
 rw[if_pos (show onTheHeap (QC C)=true from rfl)]
 refine wpAny_bind (L2.here (wpAny_bind (wpAny_attempt (wpAny_holding ?_))))
 unfold callGetattribute
 rw[if_neg (by cases expr <;> decide)]
 unfold boundAndCalled
 rw[b0]
 refine wpAny_bind (wpAny_pure ?_)
 refine wpAny_call (codeAny_call_builtin FB.ga.plain PySem.F.entry_bexc_ga (@jP (model prog w) _ _ s "BaseException.__getattribute__" "BaseException" "__getattribute__" (.ref x) [.str f tk] [] _ (by decide +kernel) (by decide +kernel) sb (PySem.F.args_bexc_ga (.ref x) (.str f tk)) (wpAny_mono h (λfin s' z=>?_) λ_ _ z=>z.elim)))
 rcases fin with (_|_|_|u)|c'
 ·exact z.elim
 ·exact z.elim
 ·exact z.elim
 ·exact z
 ·exact z.elim
theorem z5e(X:K.In s.heap)(c:XGet K C)(I:JG s.heap x ox C (some od))(no:QQ K (.ref C) f=some none)(hl:Ye f od=some (some v))(hv:qy v=true)(h:Q v { s with toks:=s.toks+1 }) :
 wpAny (model prog w) A (getAttr (.ref x) f expr) Q E s:=by
 unfold getAttr
 refine wpAny_bind (wpAny_mkText (zph (s:={ s with toks:=s.toks+1 }) X c I ?_))
 have hf:=PySem.W.findObj_own c.dict no rfl hl
 have L0:=I.type (M:=model prog w)
 have L1:=jS (M:=model prog w) X I hf
 unfold Builtin.«object.__getattribute__»
 refine wpAny_bind (wpAny_pure (wpAny_bind (wpAny_pure (wpAny_bind (ZI (s:={ s with toks:=s.toks+1 }) L0 (wpAny_bind (ZI (s:={ s with toks:=s.toks+1 }) L1 ?_)))))))
 refine wpAny_pure ?_
 show wpAny _ _ (handedOut v) _ _ _
 rw[PySem.W.handedOut_of hv]
 exact wpAny_pure h
theorem zyg{Q:Option Value->Shared->Prop}(X:K.In s.heap)(c:XGet K C)(I:JG s.heap x ox C (some od))(h:Q (some (.ref C)) { s with toks:=s.toks+1 }):wpAny (model prog w) A (getAttr? (.ref x) "__class__") Q E s:=by
 unfold getAttr? getAttrBy?
 refine wpAny_bind (wpAny_mkText (wpAny_bind (wpAny_attempt (zph (s:={ s with toks:=s.toks+1 }) X c I ?_))))
 have hf:PySem.W.findObj K C (some od) "__class__" = some (.bind (.builtin "getset_descriptor.__get__") (.builtin "object.__class__")):=PySem.W.findObj_data (by obtain⟨cd,hc,_⟩:=qz c.dict;rw[hc];rfl) c.cls c.cget c.ctk
 have L0:=I.type (M:=model prog w)
 have L1:=jS (M:=model prog w) X I hf
 unfold Builtin.«object.__getattribute__»
 refine wpAny_bind (wpAny_pure (wpAny_bind (wpAny_pure (wpAny_bind (ZI (s:={ s with toks:=s.toks+1 }) L0 (wpAny_bind (ZI (s:={ s with toks:=s.toks+1 }) L1 ?_)))))))
 show wpAny _ _ (YU _ _ _ _) _ _ _
 unfold YU
 refine wpAny_bind (wpAny_holding (wpAny_call (PySem.W.class_get (s:={ s with toks:=s.toks+1 }) X I c.obj ?_)))
 refine wpAny_pure ?_
 show wpAny _ _ (handedOut (.ref C)) _ _ _
 exact wpAny_pure (wpAny_pure h)
end
theorem zs3{K:Qa}{x C:Addr}{ox od:Obj}(c:XGet K C):PySem.W.KitX K (.ref x) (.ref C) (λh=>JG h x ox C (some od)):=by
 obtain⟨cd,hc,_⟩:=qz c.dict
 have hl:∃ oc dd sl,K.lookup C=some ⟨oc,dd,.cls cd,sl⟩:=by
  unfold Yu at hc
  split at hc
  ·rename_i oc dd cd' sl ho
   cases hc
   exact⟨oc,dd,sl,ho⟩
  ·cases hc
 obtain⟨oc,dd,sl,hl⟩:=hl
 refine⟨λ_ _ _ I=>I.type,λM h X _=>?_,λh tp dd' its n sl' X htp=>?_,λX I k=>zyg X c I k⟩
 ·intro A1 Q1 E1 s1 k1 z1
  exact wpAny_bind (wpAny_loadPart (k1 _ _ (X _ _ hl)) (wpAny_pure z1))
 ·refine Bool.eq_false_iff.mpr λq=>?_
  have e:C=tp:=zb (beq_iff_eq.mp q)
  rw[<- e,X _ _ hl] at htp
  cases htp
section
variable {X : Cx} {pins : List (Addr × Obj)} {σ : St} {H : Hp} {s : Shared}
theorem zpw{a C dx:Addr}{fs:List (Str × V)}(I:Inv X pins σ H s)(ha:H a=some (XR a C dx))(hd:H dx=some (.xd fs)) :
 ∃ ox od,JG s.heap a ox C (some od)/\∀ f,∃ u,Ye f od=some u/\RelO (fs.lookup f) u:=by
 obtain⟨o,vs,g,c,d,t⟩:=(I.hok a _ ha).1
 obtain⟨mA,m,rl⟩:=I.hok dx _ hd
 obtain⟨od,ho,hl⟩:=zk2 m
 refine⟨o,od,⟨g,c,by unfold PySem.W.notCls;rw[t],by rw[d];exact ho⟩,λf=>⟨_,hl f,rl f⟩⟩
def zsj:V->Prop
 | .int _=>True
 | .str _=>True
 | _=>False
def zwv(K:Qa)(f:Str)(te:TE):TE:=λσ H Q=>te σ H λv H1=>∃ a C dx fs y,v = .ref a/\H1 a=some (XR a C dx)/\H1 dx=some (.xd fs)/\XGet K C/\QQ K (.ref C) f=some none/\fs.lookup f=some y/\zsj y/\Q y H1
theorem zys{e:Expr}{f:Str}{pos:Pos}{te:TE}(he:PE X e te)(hb:attributeBase e f X.env (eval e X.env)=eval e X.env):PE X (.Attribute e f pos) (zwv X.K f te):=by
 intro pins s σ H Q I h
 refine zz2 hb (thn (he pins s σ H _ I h) λu s1 ⟨v,H1,I1,rv,a,C,dx,fs,y,ev,ha,hd,c,no,hl,py,q⟩=>?_)
 subst ev
 obtain rfl:u=QC a:=rv
 obtain⟨ox,od,J,lk⟩:=zpw I1 ha hd
 obtain⟨u,l1,l2⟩:=lk f
 rw[hl] at l2
 cases u with
 | none=>exact l2.elim
 | some u =>
   have hv:qy u=true:=by
    cases y with
    | int i=>obtain⟨t,rfl⟩:=(show ∃ t,u=jE i t from l2);rfl
    | str x=>obtain⟨t,rfl⟩:=(show ∃ t,u=Yp x t from l2);rfl
    | _=>exact py.elim
   exact z5e I1.kIn c J no l1 hv ⟨y,H1,I1.tok _,l2,q⟩
def Ldc(X:Cx)(x:Str)(cv:Value):Prop:=∀ (E:Value->Shared->Prop) (pins:List (Addr × Obj)) (s:Shared) (σ:St) (H:Hp) (pos:Pos) (Q:Value->Shared->Prop),Inv X pins σ H s->Q cv s->wpAny (model X.prog X.w) X.A (eval (.Name x pos) X.env) Q E s
theorem zxi{x:Str}{cv:Value}(hg:Gl X x)(hm:X.mg x=some cv)(hd:(x == ("__debug__" : Str))=false:=by decide):Ldc X x cv:=λE pins s σ H pos Q I q=>zej I hg hm q hd
theorem zyz{x:Str}{cv:Value}(hg:Gl X x)(hm:X.mg x=none)(hv:bootBuiltins x=some cv)(hn:x ≠ "__name__" := by decide)(hd:(x == ("__debug__" : Str))=false:=by decide):Ldc X x cv:=λE pins s σ H pos Q I q=>zcd I hg hm hv q hn hd
def tIsX(K:Qa)(cv:Value)(te:TE):TE:=λσ H Q=>te σ H λv H1=>∃ a C dx fs b,v = .ref a/\H1 a=some (XR a C dx)/\H1 dx=some (.xd fs)/\XGet K C/\Zi K (.ref C) cv=some b/\Q (.bl b) H1
theorem zto{e:Expr}{te:TE}{x:Str}{cv:Value}{p1 p2 p3:Pos}(gi:Gl X "isinstance")(mi:X.mg "isinstance" = none)(l:Ldc X x cv)(he:PE X e te)
 (s1:starEach [e,.Name x p2] X.env=(false,eval e X.env)::(false,eval (.Name x p2) X.env)::starEach [] X.env:=by rfl) (s2:starEach [e,.Name x p2] X.env=(false,eval e X.env)::starEach [.Name x p2] X.env:=by rfl) (s3:(backTo p3 (starEach [.Name x p2] X.env)).any (·.1)=false:=by rfl) :
 PE X (.Call (.Name "isinstance" p1) [e,.Name x p2] [] p3) (tIsX X.K cv te):=by
 intro pins s σ H Q I h
 refine wpAny_Call_Name_kw (zcd I gi mi (u := .builtin "isinstance") (by decide +kernel) ?_)
 refine Z9 ?_ s2 s3
 rw[s1]
 show wpAny _ _ (spliced ((false,eval e X.env)::(false,eval (.Name x p2) X.env) :: [])) _ _ s
 refine Zw (thn (he pins s σ H _ I h) λu s' ⟨y,H1,I1,r1,a,C,dx,fs,b,ev,ha,hd,c,ek,q⟩=>?_)
 subst ev
 obtain rfl:u=QC a:=r1
 refine Zw (l _ _ _ _ _ _ _ I1 (ZU ?_))
 obtain⟨ox,od,J,lk⟩:=zpw I1 ha hd
 exact Zt (zs3 c) I1.kIn J ek (λz=>nomatch z) λtk=>⟨.bl b,H1,I1.tok _,rfl,q⟩
def zvy(K:Qa)(te tt:TE):TE:=λσ H Q=>te σ H λv H1=>tt σ H1 λv2 H2=>∃ (a C dx:Addr) (fs:List (Str × V)) (b:Bool) (p:Addr) (cs:List Addr),v = .ref a/\v2 = .ref p/\SqT K H2 p (cs.map V.ref)/\H2 a=some (XR a C dx)/\H2 dx=some (.xd fs)/\XGet K C/\YR K (.ref C) (cs.map QC)=some b/\Q (.bl b) H2
theorem zjb:∀ {cs:List Addr} {us:List Value},Vals (cs.map V.ref) us->us=cs.map QC
 | [],_,h=>by cases h;rfl
 | c::cs,_,h=>by
   cases h with
   | cons h1 h2=>rw[zjb h2];cases h1;rfl
theorem zzu{e e2:Expr}{te tt:TE}{p1 p3:Pos}(gi:Gl X "isinstance")(mi:X.mg "isinstance" = none)(he:PE X e te)(ht:PE X e2 tt)
 (s1:starEach [e,e2] X.env=(false,eval e X.env)::(false,eval e2 X.env)::starEach [] X.env:=by rfl) (s2:starEach [e,e2] X.env=(false,eval e X.env)::starEach [e2] X.env:=by rfl) (s3:(backTo p3 (starEach [e2] X.env)).any (·.1)=false:=by rfl) :
 PE X (.Call (.Name "isinstance" p1) [e,e2] [] p3) (zvy X.K te tt):=by
 intro pins s σ H Q I h
 refine wpAny_Call_Name_kw (zcd I gi mi (u := .builtin "isinstance") (by decide +kernel) ?_)
 refine Z9 ?_ s2 s3
 rw[s1]
 show wpAny _ _ (spliced ((false,eval e X.env)::(false,eval e2 X.env) :: [])) _ _ s
 refine Zw (thn (he pins s σ H _ I h) λu s' ⟨y,H1,I1,r1,q1⟩=>?_)
 refine Zw (thn (ht pins s' σ H1 _ I1 q1) λu2 s2 ⟨y2,H2,I2,r2,a,C,dx,fs,b,p,cs,ev,ev2,sq,ha,hd,c,ek,q⟩=>ZU ?_)
 subst ev ev2
 obtain rfl:u=QC a:=r1
 obtain rfl:u2=QC p:=r2
 obtain⟨ox,od,J,lk⟩:=zpw I2 ha hd
 obtain⟨its,rv,⟨o,h1,h2,n,h3⟩,_⟩:=I2.tuple sq
 obtain rfl:=zjb rv
 obtain⟨oc,oo,od2,osl⟩:=o
 cases h2
 cases h3
 exact PySem.W.kia_tup (zs3 c) I2.kIn J h1 ek (λz=>nomatch z) λtk=>⟨.bl b,H2,I2.tok _,rfl,q⟩
theorem zz8{x:Str}{C:Addr}{pos:Pos}(hg:Gl X x)(hm:X.mg x=some (.ref C))(hd:(x == ("__debug__" : Str))=false:=by decide):PE X (.Name x pos) (tC (.ref C)):=λpins s σ H Q I h=>zej I hg hm ⟨.ref C,H,I,rfl,h⟩ hd
end
def excD(c:Str)(ns:List Str)(ds:List PyData):PyData := .dict [(.str c,.tuple (ns.map .str)),(.none,.tuple ds)]
theorem zud{c c':Str}{ns ns':List Str}{ds ds':List PyData}(h:excD c ns ds=excD c' ns' ds'):c=c'/\ns=ns'/\ds=ds':=by
 unfold excD at h
 simp only[PyData.dict.injEq,jx,Prod.mk.injEq,PyData.str.injEq,jT,and_true,true_and] at h
 obtain⟨⟨h1,h2⟩,h3⟩:=h
 refine⟨h1,?_,h3⟩
 have key:∀ (l m:List Str),l.map Z7=m.map Z7->l=m:=by
  intro l
  induction l with
  | nil=>intro m e;cases m with|nil=>rfl|cons _ _=>cases e
  | cons a l ih=>intro m e;cases m with|nil=>cases e|cons b m=>rw[Q2,Q2] at e;injection e with e1 e2;cases e1;rw[ih m e2]
 exact key ns ns' h2
def XOut(K:Qa)(mg:Str->Option Value)(O:Ob)(H H':Hp)(C dx:Addr)(d:PyData):Prop:=∃ (c:Str) (ns:List Str) (xs:List V) (ds:List PyData),d=excD c ns ds/\mg c=some (.ref C)/\H dx=none/\H' dx=some (.xd (ns.zip xs))/\xs.length=ns.length/\IsAll K (unM O) H' xs ds
def zqm(K:Qa)(mg:Str->Option Value)(O:Ob)(H₀:Hp)(E:XK)(Qr:R->Prop):Prop:=∀ H' C dx d,Stp O H₀ H'->XOut K mg O H₀ H' C dx d->Qr (.o d)->E (.ref C) (some dx) H'
def SDx(K:Qa)(mg:Str->Option Value)(O:Ob)(E:XK)(t:TS)(g:DS):Prop :=
 ∀ (H₀:Hp) (A:Nat->Addr->Prop) (σ:St) (H:Hp) (ρ:DSt) (D:Ends) (Dd:DEnds),Rep K O H₀ A H σ ρ->g Dd ρ->Post K O H₀ A H D Dd->zqm K mg O H₀ E Dd.rt->t D σ H
section
variable {K : Qa} {mg : Str → Option Value} {O : Ob} {E : XK}
theorem XOut.ahead{H H1 H2:Hp}{C dx:Addr}{d:PyData}(ok:O.Ok)(p:O.P H)(s:Stp O H H1)(h:XOut K mg O H1 H2 C dx d):XOut K mg O H H2 C dx d:=by
 obtain⟨c,ns,xs,ds,e,m,n,q,l,i⟩:=h
 have nm:¬ O.M dx:=λz=>by obtain⟨o,w⟩:=ok.here H1 dx (s.p p) z;rw[n] at w;cases w
 exact⟨c,ns,xs,ds,e,m,s.s.free nm n,q,l,i⟩
theorem zsd{t:TS}{g:DS}(h:SD K O t g):SDx K mg O E t g:=λH₀ A σ H ρ D Dd r q P _=>h H₀ A σ H ρ D Dd r q P
theorem zyd{t u:TS}{g k:DS}(h:SDx K mg O E t g)(h':SDx K mg O E u k):SDx K mg O E (tSeq t u) (seqD g k):=λH₀ A σ H ρ D Dd r q P XP =>
 h H₀ A σ H ρ _ _ r q ⟨λA' σ' H' ρ' r' f q'=>h' H₀ A' σ' H' ρ' D Dd r' q' (P.frm f) XP,P.bk,P.ct,P.rt⟩ XP
theorem z0j{c:TT}{t u:TS}{fc:DT}{g k:DS}(hc:TD K O c fc)(h:SDx K mg O E t g)(h':SDx K mg O E u k):SDx K mg O E (tIfS c t u) (ifS fc g k):=λH₀ A σ H ρ D Dd r q P XP=>by
 refine hc σ H ρ _ _ r.seen q λb H1 s1 q1=>?_
 cases b with
 | true=>exact h H₀ A σ H1 ρ D Dd (r.stp s1) q1 (P.frm (.stp s1)) XP
 | false=>exact h' H₀ A σ H1 ρ D Dd (r.stp s1) q1 (P.frm (.stp s1)) XP
def zq7(c:Str)(ns:List Str)(f:DA):DS:=λDd ρ=>f ρ λds=>ds.length=ns.length/\Dd.rt (.o (excD c ns ds))
theorem zrs{c:Str}{C:Addr}{ns:List Str}{t:TA}{f:DA}(hm:mg c=some (.ref C))(h:AD K O t f):SDx K mg O E (ztu C ns E t) (zq7 c ns f):=λH₀ A σ H ρ D Dd r q P XP=>by
 refine h σ H ρ _ _ r.seen q λvs H1 ds s1 is ⟨hl,q1⟩=>⟨by rw[is.length];exact hl,λd hd=>?_⟩
 have s2:Stp O H1 (upd H1 d (.xd (ns.zip vs))) := .new r.ok hd _
 have st:=r.st.trans s1
 have nm:¬ O.M d:=λz=>by obtain⟨o,w⟩:=r.ok.here H1 d (s1.p r.p) z;rw[hd] at w;cases w
 exact XP _ C d _ (st.trans s2) ⟨c,ns,vs,ds,rfl,hm,st.s.free nm hd,zar,by rw[is.length];exact hl,is.stp s2 (λ_ f=>f) (λ_ f=>f)⟩ q1
def spX(K:Qa)(mg:Str->Option Value)(φ:Ob->Prop)(n:Nat)(f:List PyData->(R->Prop)->Prop):Sp:=λvs H Q E =>
 ∃ (O:Ob) (ds:List PyData) (Qr:R->Prop),O.Ok/\φ O/\O.P H/\ds.length=n/\IsAll K (unM O) H vs ds/\f ds Qr/\(∀ r,Qr r->∀ v H',Stp O H H'->Out K O H H' v r->Q v H')/\zqm K mg O H E Qr
theorem zxz{φ:Ob->Prop}{n:Nat}{f:List PyData->(R->Prop)->Prop}{ps:List Str}(hn:ps.length=n):∀ vs H Q E,spX K mg φ n f vs H Q E->vs.length=ps.length:=λvs H Q E zz=>by obtain⟨O,ds,_,_,_,_,h,is,_⟩:=zz;rw[is.length,h,hn]
theorem z3e{N:List Str}{t:TS}{g:DS}{H:Hp}{vs:List V}{ds:List PyData}{Q:VK}{Qr:R->Prop}(h:SDx K mg O E t g)(ok:O.Ok)(p:O.P H)(ia:IsAll K (unM O) H vs ds)
 (hg:g { nx:=λ_=>Qr (.o .none),rt:=Qr } (zdj N (ds.map .im))) (hQ:∀ r,Qr r->∀ v H',Stp O H H'->Out K O H H' v r->Q v H') (hX:zqm K mg O H E Qr):t { nx:=λ_ H'=>Q .non H',rt:=Q } (L2.start N vs) H:=by
 refine h H _ _ H _ _ _ (zgm ok p (by rw[Qb];exact ia.length) λi r e=>?_) hg ⟨λA' σ' H' ρ' r' _ q=>hQ _ q .non H' r'.st Is.none,λA' σ' H' ρ' r' _ q=>q.elim,λA' σ' H' ρ' r' _ q=>q.elim,λH' v r s o q=>hQ r q v H' s o⟩ hX
 rw[Qy] at e
 obtain⟨d,hd,rfl⟩:=QA.mp e
 obtain⟨v,hv,iv⟩:=ia.get hd
 exact⟨v,hv,.inl ⟨d,rfl,iv⟩⟩
end
structure Def3x (P:Program) (w:World) (K:Qa) (mg:Str->Option Value) (base:Heap) (k:Nat) (x:Str) (ps:List Str) (sp:Sp):Prop where
 ex:∃ f fd,FnOk P w K mg base (CX1 P w) k f fd ps sp/\mg x=some (.ref f)/\ZB K (.ref f)=true/\Binds K fd ps []
def Sx3(K:Qa)(mg:Str->Option Value)(Y:Cx)(E:XK)(O:Ob)(s:Stmt)(g:DS):Prop:=∃ t,PS Y s t/\SDx K mg O E t g
def Ssx3(K:Qa)(mg:Str->Option Value)(Y:Cx)(E:XK)(O:Ob)(s:List Stmt)(g:DS):Prop:=∃ t,PSs Y s t/\SDx K mg O E t g
theorem PS.nox{X:Cx}{st:Stmt}{t:TS}(h:PS X.nox st t):PS X st t:=λpins s σ H D I hw =>
 wpAny_mono (h pins s σ H D (I.wish _) hw) (λ_ _ q=>q.unwish) λ_ _ z=>ZF z
theorem PA.nox{X:Cx}{es:List Expr}{t:TA}(h:PA X.nox es t):PA X es t:=λpos pins s σ H Q I hw =>
 wpAny_mono (h pos pins s σ H Q (I.wish _) hw) (λ_ _ ⟨v,H',I',r,q⟩=>⟨v,H',I'.unwish,r,q⟩) λ_ _ z=>ZF z
section
variable {P : Program} {w : World} {K : Qa} {mg : Str → Option Value} {base : Heap} {k : Nat} {Y : Cx} {E : XK} {O : Ob} {c iter tg : Expr} {ft : DT} {st : Stmt} {sts sa sb body : List Stmt} {g1 g2 : DS} {pos : Pos} {fj : DJ} {g : DG} {hh : Nat}
theorem x_of(h:S3 K (λ_:Unit=>Y.nox) (λ_:Unit=>O) st g1):Sx3 K mg Y E O st g1:=let ⟨t,p,d⟩:=h; ⟨t,PS.nox (p ()),zsd (d ())⟩
theorem zwl(h:Ss3 K (λ_:Unit=>Y.nox) (λ_:Unit=>O) sts g1):Ssx3 K mg Y E O sts g1:=let ⟨t,p,d⟩:=h; ⟨t,PSs.nox (p ()),zsd (d ())⟩
theorem z1u(h:Sx3 K mg Y E O st g1):Ssx3 K mg Y E O [st] g1:=let ⟨_,p,d⟩:=h; ⟨_,zcp p,d⟩
theorem zpg(h:Sx3 K mg Y E O st g1)(h':Ssx3 K mg Y E O sts g2):Ssx3 K mg Y E O (st::sts) (seqD g1 g2):=let ⟨_,p,d⟩:=h;let ⟨_,p2,d2⟩:=h'; ⟨_,zbg p p2,zyd d d2⟩
theorem x_if(hc:T3 K (λ_:Unit=>Y.nox) (λ_:Unit=>O) c ft)(h:Ssx3 K mg Y E O sa g1)(h':Ssx3 K mg Y E O sb g2):Sx3 K mg Y E O (.If c sa sb pos) (ifS ft g1 g2):=let ⟨_,p,d⟩:=hc;let ⟨_,p1,d1⟩:=h;let ⟨_,p2,d2⟩:=h'; ⟨_,zhl (PT.nox (p ())) p1 p2,z0j (d ()) d1 d2⟩
theorem zzg{x:Str}{C f:Addr}{fd:FuncData}{ps ns:List Str}{e:Expr}{es:List Expr}{np cpos:Pos}{fa:DA}(B:Bdy P w Y E)(hc:Y.calm=true)(hP:Y.prog=P)(hw:Y.w=w)(hK:Y.K=K)(hmg:Y.mg=mg)(hbs:Y.base=base)(M:XMk K C f ns)(F:FnOk P w K mg base CX0 k f fd ps (zfm K ns))(hr:Room (k+1) Y.A)(hb:Binds K fd ps [])(hz:ns.length<=1000)(hm:mg x=some (.ref C))
 (ha:A3 K (λ_:Unit=>Y.nox) (λ_:Unit=>O) (e::es) fa) (hg:Gl Y x:=by rfl) (hdb:(x == ("__debug__" : Str))=false:=by decide) (he:starEach (e::es) Y.env=(false,eval e Y.env)::starEach es Y.env:=by rfl) (hpl:(backTo cpos (starEach es Y.env)).any (·.1)=false:=by rfl) :
 Sx3 K mg Y E O (.Raise (some (.Call (.Name x np) (e::es) [] cpos)) none pos) (zq7 x ns fa):=by
 obtain⟨t,p,d⟩:=ha
 subst hP hw hK hmg hbs
 exact⟨_,zvu B hc M F hr hb hz hg hm (PA.nox (p ())) hdb he hpl,zrs hm (d ())⟩
theorem z5h{x:Str}{N ps:List Str}{n:Nat}{F:List PyData->(R->Prop)->Prop}{φ:Ob->Prop}(T:Top3 K mg x st)(S:FnScope N ps (zah st))(hb:∀ (kV doc pm:Value) (an:Option Addr) (cdv ct:Value) (us:List Value),us.length=ps.length->bindArgs (Zx x x (zce st) (zbn st) (zah st) .none kV doc pm an cdv ct) ⟨us,[]⟩=pure (ps.zip us))(hn:ps.length=n)
 (body:∀ (f:Addr) (cdv:Value) (A:Around) (outer:List Env) (s:Shared) (H:Hp) (E:XK) (O:Ob),φ O->Bdy P w (cxOf (CX1 P w) P w K mg base N x (zah st) f cdv A outer s H E) E->Ctx3 P w K mg base k (λ_:Unit=>(cxOf (CX1 P w) P w K mg base N x (zah st) f cdv A outer s H E).nox) ->
  ∃ g,Ssx3 K mg (cxOf (CX1 P w) P w K mg base N x (zah st) f cdv A outer s H E) E O (zbn st) g/\∀ ds Qr,ds.length=n->F ds Qr->g { nx:=λ_=>Qr (.o .none),rt:=Qr } (zdj N (ds.map .im))):Def3x P w K mg base (k+1) x ps (spX K mg φ n F):=by
 obtain⟨f,fd,Fu,m⟩:=T.ex
 obtain⟨oc,od,kV,doc,pm,an,cdv,ct,osl,rfl,lk,hcd⟩:=id Fu.ex
 refine⟨f,_,zqn lk hcd S (zxz hn) λA outer s H vs Q E hr h=>?_,m,Fu.kp,Fu.binds hb⟩
 obtain⟨O,ds,Qr,ok,hφ,p,hl,is,q,kk,kx⟩:=h
 obtain⟨g,⟨t,h1,h2⟩,h3⟩:=body f cdv A outer s H E O hφ ⟨rfl,rfl,rfl,rfl,rfl,rfl⟩ ⟨λ_=>rfl,λ_=>rfl,λ_=>rfl,λ_=>rfl,λ_=>rfl,λ_=>rfl,λ_=>hr,λ_=>rfl⟩
 exact⟨t,h1,z3e h2 ok p is (h3 ds Qr hl q) kk kx⟩
end
theorem z2q{X:Cx}{W:Value->Shared->Prop}(h:X.xe=λ_ _=>False):(X.wish W).nox=X:=by
 obtain⟨⟩:=X
 cases h
 rfl
def PEf(X:Cx)(pins:List (Addr × Obj))(σ:St)(e:Expr)(t:TE):Prop:=∀ (s:Shared) (H:Hp) (Q:VK),Inv X pins σ H s->t σ H Q->wpAny (model X.prog X.w) X.A (eval e X.env) (EP X pins σ Q) X.xe s
def PAf(X:Cx)(pins:List (Addr × Obj))(σ:St)(es:List Expr)(t:TA):Prop:=∀ (pos:Pos) (s:Shared) (H:Hp) (Q:List V->Hp->Prop),Inv X pins σ H s->t σ H Q->wpAny (model X.prog X.w) X.A (spliced (backTo pos (starEach es X.env))) (AP X pins σ Q) X.xe s
section
variable {X : Cx} {pins : List (Addr × Obj)} {σ : St} {e : Expr} {es : List Expr} {te : TE} {t : TA} {pos p : Pos} {k : Nat} {f : Addr} {fd : FuncData} {ps : List Str} {sp : Sp} {E : XK} {x : Str}
theorem zz0{H:Hp}{s:Shared}{Q:VK}{us:List Value}{vs:List V}(F:FnOk X.prog X.w X.K X.mg X.base (CX1 X.prog X.w) k f fd ps sp)(hr:Room k X.A)(hb:Binds X.K fd ps [])(hx:zfl X pins σ E)
 (I:Inv X pins σ H s) (r:Vals vs us) (h:sp vs H Q E):wpAny (model X.prog X.w) X.A (call (.ref f) us) (EP X pins σ Q) X.xe s:=by
 have hl:us.length=ps.length:=by rw[<- r.length];exact F.len _ _ _ _ h
 have hbb:=hb s us I.kIn (by rw[Z8];exact hl)
 rw[Z8] at hbb
 refine wpAny_call (codeAny_mono (F.run X.A X.stack s H ⟨us,[]⟩ us vs Q E hr I.env0 hbb r h) λr s' hq=>?_)
 cases r with
 | error e=>exact hx H s e s' I hq
 | ok fl =>
   cases fl with
   | ret u=>exact I.after hq
   | next=>exact ZF hq
   | brk=>exact ZF hq
   | cont=>exact ZF hq
theorem zvn(F:FnOk X.prog X.w X.K X.mg X.base (CX1 X.prog X.w) k f fd ps sp)(hr:Room k X.A)(hg:Gl X x)(hm:X.mg x=some (.ref f))(hk:ZB X.K (.ref f)=true)(hb:Binds X.K fd ps [])(hx:zfl X pins σ E)
 (ha:PAf X pins σ (e::es) t) (hdb:(x == ("__debug__" : Str))=false:=by decide) (he:starEach (e::es) X.env=(false,eval e X.env)::starEach es X.env:=by rfl) (hpl:(backTo pos (starEach es X.env)).any (·.1)=false:=by rfl) :
 PEf X pins σ (.Call (.Name x p) (e::es) [] pos) (ze0 sp [] E t):=by
 intro s H Q I h
 refine wpAny_Call_Name_kw (zej I hg hm ?_ hdb)
 refine YE (h₀:=X.base) I.ok.mod.kin hk (thn (ha pos s H _ I h) λus s1 ⟨vs,H1,I1,r,q⟩=>⟨I1.kIn,?_⟩) he hpl
 replace q:sp (vs ++ []) H1 Q E:=q
 rw[Z8] at q
 exact zz0 F hr hb hx I1 r q
end
def DEf:Type:=DSt->(R->Prop)->(R->Prop)->Prop
def DSf:Type:=DEnds->DSt->(R->Prop)->Prop
def zmd(N X:R->Prop):R->Prop
 | .o (.dict d)=>X (.o (.dict d))
 | .o .none=>N (.o .none)
 | .o (.bool b)=>N (.o (.bool b))
 | .o (.int i)=>N (.o (.int i))
 | .o (.str x)=>N (.o (.str x))
 | .o (.list l)=>N (.o (.list l))
 | .o (.tuple l)=>N (.o (.tuple l))
 | .n l=>N (.n l)
theorem zp5{K:Qa}{O:Ob}{H H':Hp}{v:V}{N X:R->Prop}:∀ {r:R},Out K O H H' v r->zmd N X r->N r
 | .o (.dict d),o,h=>nomatch (show Is K (unM O) H' v (.dict d) from o)
 | .o .none,_,h=>h
 | .o (.bool b),_,h=>h
 | .o (.int b),_,h=>h
 | .o (.str b),_,h=>h
 | .o (.list b),_,h=>h
 | .o (.tuple b),_,h=>h
 | .n b,_,h=>h
def EX(K:Qa)(mg:Str->Option Value)(O:Ob)(H:Hp)(E:XK)(X:R->Prop):Prop:=∀ H' C dx d,Stp O H H'->XOut K mg O H H' C dx d->X (.o d)->E (.ref C) (some dx) H'
def EDf(K:Qa)(mg:Str->Option Value)(O:Ob)(t:XK->TE)(f:DEf):Prop :=
 ∀ (E:XK) (σ:St) (H:Hp) (ρ:DSt) (Q:VK) (N X:R->Prop),Seen K O H σ ρ->f ρ N X->(∀ v H' r,Stp O H H'->Out K O H H' v r->N r->Q v H')->EX K mg O H E X->t E σ H Q
def SDf(K:Qa)(mg:Str->Option Value)(O:Ob)(t:XK->TS)(g:DSf):Prop :=
 ∀ (E:XK) (H₀:Hp) (A:Nat->Addr->Prop) (σ:St) (H:Hp) (ρ:DSt) (D:Ends) (Dd:DEnds) (X:R->Prop),Rep K O H₀ A H σ ρ->g Dd ρ X->Post K O H₀ A H D Dd->EX K mg O H E X->t E D σ H
def calX(n:Nat)(F:List PyData->(R->Prop)->Prop)(g:DA):DEf:=λρ N X=>g ρ λds=>ds.length=n/\F ds (zmd N X)
def asgF(i:Nat)(f:DEf):DSf:=λDd ρ X=>f ρ (λr=>match r with
 | .o d=>flat d=true/\Dd.nx (ρ.set i (some (.im d)))
 | .n ds=>flats ds=true/\Dd.nx (ρ.set i (some (.own ds)))) X
section
variable {K : Qa} {mg : Str → Option Value} {O : Ob} {H₀ H H' : Hp} {A : Nat → Addr → Prop} {σ : St} {ρ : DSt} {E : XK} {X : R → Prop}
theorem zur{φ:Ob->Prop}{n:Nat}{F:List PyData->(R->Prop)->Prop}{t:TA}{g:DA}(hφ:φ O)(h:AD K O t g):EDf K mg O (λE=>ze0 (spX K mg φ n F) [] E t) (calX n F g):=λE σ H ρ Q N X S q k kx=>by
 refine h σ H ρ _ _ S q λvs H1 ds s1 is ⟨hn,q1⟩=>?_
 rw[Z8]
 refine⟨O,ds,zmd N X,S.ok,hφ,s1.p S.p,hn,is,q1,λr qr v H' s2 o2=>k v H' r (s1.trans s2) (o2.ahead S.ok S.p s1) (zp5 o2 qr),λH' C dx d s2 o2 q2=>kx H' C dx d (s1.trans s2) (o2.ahead S.ok S.p s1) ?_⟩
 obtain⟨c,ns,xs,es,rfl,_⟩:=o2
 exact q2
theorem zxl{i:Nat}{t:XK->TE}{f:DEf}(h:EDf K mg O t f):SDf K mg O (λE=>tAsg (t E) (zbi i)) (asgF i f):=λE H₀ A σ H ρ D Dd X r q P kx=>by
 refine h E σ H ρ _ _ _ r.seen q (λv H1 x s1 o1 q1=>?_) kx
 cases x with
 | o d =>
   obtain⟨fl,q1⟩:=q1
   exact P.nx _ _ H1 _ ((r.stp s1).setIm (Is.flat (TupStay.refl H1) o1 fl)) (.setIm s1) q1
 | n ds =>
   obtain⟨fl,q1⟩:=q1
   obtain⟨a,xs,rfl,hn,hl,hs⟩:=o1
   exact P.nx _ _ H1 _ (r.setOwn s1 hn hl hs fl) (.setOwn s1 hn) q1
theorem Rep.setExc{i:Nat}{v:V}{C:Addr}{ns:List Str}{xs:List V}{ds:List PyData}(r:Rep K O H₀ A H σ ρ)(h:ExAt (unO O A) H v C ns xs)(hi:IsAll K (unO O A) H xs ds):Rep K O H₀ (λj a=>j ≠ i/\A j a) H (σ.set i (some v)) (ρ.set i (some (.exc C ns ds))):=by
 have un:∀ a,unO O A a->unO O (λj a=>j ≠ i/\A j a) a:=λa u=>⟨u.1,λj z=>u.2 j z.2⟩
 have r0:=r.setIm (i:=i) (v := .non) (d := .none) .none
 refine⟨r0.ok,r0.p,r0.p0,r0.st,r0.dis,r0.own,λj x e=>?_,by rw[QX,QX];exact r.len⟩
 by_cases hj:i=j
 ·subst hj
  have hi':i<ρ.length:=by
   rcases Y8 i ρ.length with z|z
   ·exact z
   ·rw[Zs (by simpa using z)] at e;cases e
  rw[QI hi'] at e
  cases e
  exact⟨v,QI (by have:=r.len;omega),xs,h.to λa u f q=>⟨un a f,q⟩,hi.weak un⟩
 ·have q:=r0.at_ j x (by rw[QF hj] at e ⊢; exact e)
  rw[QF hj] at q ⊢
  exact q
theorem Rep.setNone{i:Nat}(r:Rep K O H₀ A H σ ρ):Rep K O H₀ (λj a=>j ≠ i/\A j a) H (σ.set i j5) (ρ.set i j5):=by
 have r0:=r.setIm (i:=i) (v := .non) (d := .none) .none
 refine⟨r0.ok,r0.p,r0.p0,r0.st,r0.dis,r0.own,λj x e=>?_,by rw[QX,QX];exact r.len⟩
 by_cases hj:i=j
 ·subst hj
  rcases Y8 i ρ.length with z|z
  ·rw[QI z] at e;cases e
  ·rw[Zs (by simpa using z)] at e;cases e
 ·have q:=r0.at_ j x (by rw[QF hj] at e ⊢; exact e)
  rw[QF hj] at q ⊢
  exact q
def offD(i:Nat)(Dd:DEnds):DEnds:={ nx:=λρ=>Dd.nx (ρ.set i none),rt:=Dd.rt,bk:=λρ=>Dd.bk (ρ.set i none),ct:=λρ=>Dd.ct (ρ.set i none) }
def tryS(K:Qa)(mg:Str->Option Value)(CL:Addr)(i:Nat)(gb:DSf)(gs:DS):DS:=λDd ρ=>gb Dd ρ λr=>∃ c ns ds C,r = .o (excD c ns ds)/\mg c=some (.ref C)/\QW K C (.ref CL)=some true/\flats ds=true/\gs (offD i Dd) (ρ.set i (some (.exc C ns ds)))
theorem z2a{CL:Addr}{i:Nat}{tb:XK->TS}{ts:TS}{gb:DSf}{gs:DS}(hb:SDf K mg O tb gb)(hs:SD K O ts gs):SD K O (zmg K CL i tb ts) (tryS K mg CL i gb gs):=λH₀ A σ H ρ D Dd r q P=>by
 refine hb _ H₀ A σ H ρ D Dd _ r q P λH' C dx d s1 o1 q1=>?_
 obtain⟨c,ns,xs,ds,rfl,m,n,hd,l,is⟩:=o1
 obtain⟨c',ns',ds',C',e,m',mr,fl,q1⟩:=q1
 obtain⟨rfl,rfl,rfl⟩:=zud (R.o.inj e)
 rw[m] at m'
 cases m'
 refine⟨C,dx,rfl,rfl,mr,λa ha=>?_⟩
 have s2:Stp O H' (upd H' a (XR a C dx)) := .new r.ok ha _
 have r1:=r.stp s1
 have r2:=r1.stp s2
 have p1:=s1.p r.p
 have nm:∀ b,H' b=none->¬ O.M b:=λb hb z=>by obtain⟨o,w⟩:=r.ok.here H' b p1 z;rw[hb] at w;cases w
 have nA:∀ j,¬ A j a:=λj z=>by obtain⟨_,⟨o,w,_⟩,_⟩:=r1.own j a z;rw[ha] at w;cases w
 have nD:∀ j,¬ A j dx:=λj z=>by obtain⟨_,⟨o,w,_⟩,_⟩:=r.own j dx z;rw[n] at w;cases w
 have md:¬ O.M dx:=λz=>by obtain⟨o,w⟩:=r.ok.here H dx r.p z;rw[n] at w;cases w
 have ne:dx ≠ a:=λz=>by rw[z,ha] at hd;cases hd
 have ex:ExAt (unO O A) (upd H' a (XR a C dx)) (.ref a) C ns xs:=⟨a,dx,rfl,⟨nm a ha,nA⟩,⟨md,nD⟩,zar,by rw[zaf ne];exact hd,l⟩
 have is2:IsAll K (unO O A) (upd H' a (XR a C dx)) xs ds:=IsAll.flats (TupStay.refl _) (is.stp s2 (λ_ f=>f) (λ_ f=>f)) fl
 have r3:=r2.setExc (i:=i) ex is2
 have fr:Frm O A H (λj a=>j ≠ i/\A j a) (upd H' a (XR a C dx)):=Frm.setIm (s1.trans s2)
 have off:∀ {A':Nat->Addr->Prop} {H2:Hp},Frm O A' H2 (λj a=>j ≠ i/\A' j a) H2:=Frm.setIm (.refl _ _)
 exact hs H₀ _ _ _ _ _ _ r3 q1 ⟨λA' σ' H2 ρ' r' f' q'=>P.nx _ _ _ _ r'.setNone ((fr.trans f').trans off) q',λA' σ' H2 ρ' r' f' q'=>P.bk _ _ _ _ r'.setNone ((fr.trans f').trans off) q',λA' σ' H2 ρ' r' f' q'=>P.ct _ _ _ _ r'.setNone ((fr.trans f').trans off) q',P.rt⟩
def zvx(n m:Nat):DS:=λDd ρ=>∃ C ns ds,ρ[m]? = some (some (.exc C ns ds))/\Dd.nx (ρ.set n (some (.exc C ns ds)))
theorem zzs{n m:Nat}:SD K O (tAsg (tVar m) (zbi n)) (zvx n m):=λH₀ A σ H ρ D Dd r q P=>by
 obtain⟨C,ns,ds,e,q⟩:=q
 obtain⟨v,hv,xs,h1,h2⟩:=r.at_ m _ e
 exact⟨v,hv,P.nx _ _ _ _ (r.setExc (i:=n) h1 h2) (Frm.setIm (.refl _ _)) q⟩
def isXD(K:Qa)(i:Nat)(cv:Value):DE:=λρ Q=>∃ C ns ds b,ρ[i]? = some (some (.exc C ns ds))/\XGet K C/\Zi K (.ref C) cv=some b/\Q (.o (.bool b))
theorem zso{i:Nat}{cv:Value}:ED K O (tIsX K cv (tVar i)) (isXD K i cv):=λσ H ρ Q Qd S h k=>by
 obtain⟨C,ns,ds,b,e,xg,ek,q⟩:=h
 obtain⟨v,hv,xs,⟨a,dx,rfl,fa,fx,ha,hd,l⟩,is⟩:=S.at_ i _ e
 exact⟨_,hv,a,C,dx,ns.zip xs,b,rfl,ha,hd,xg,ek,k _ H (.o (.bool b)) (.refl _ _) (Is.bool b) q⟩
def tCs:List Addr->TA
 | []=>tNil
 | c::cs=>zbu (tC (.ref c)) (tCs cs)
theorem zti{σ:St}{H:Hp}:∀ {cs:List Addr} {Q:List V->Hp->Prop},Q (cs.map V.ref) H->tCs cs σ H Q
 | [],Q,h=>h
 | c::cs,Q,h=>zti (cs:=cs) (Q:=λxs H2=>Q (.ref c::xs) H2) h
def zv3(K:Qa)(i:Nat)(cs:List Addr):DE:=λρ Q=>∃ C ns ds b,ρ[i]? = some (some (.exc C ns ds))/\XGet K C/\cs.length<=sizeLine/\YR K (.ref C) (cs.map QC)=some b/\Q (.o (.bool b))
theorem zy9{i:Nat}{cs:List Addr}:ED K O (zvy K (tVar i) (tTup (tCs cs))) (zv3 K i cs):=λσ H ρ Q Qd S h k=>by
 obtain⟨C,ns,ds,b,e,xg,ln,ek,q⟩:=h
 obtain⟨v,hv,xs,⟨a,dx,rfl,fa,fx,ha,hd,l⟩,is⟩:=S.at_ i _ e
 refine⟨_,hv,zti ⟨by rw[Qb];exact ln,λp hp=>?_⟩⟩
 have na:a ≠ p:=λz=>by rw[z,hp] at ha;cases ha
 have nd:dx ≠ p:=λz=>by rw[z,hp] at hd;cases hd
 exact⟨a,C,dx,ns.zip xs,b,p,cs,rfl,rfl,.of zar,by rw[zaf na];exact ha,by rw[zaf nd];exact hd,xg,ek,k _ _ (.o (.bool b)) (.new S.ok hp _) (Is.bool b) q⟩
def z2b:PyData->Bool
 | .int _=>true
 | .str _=>true
 | _=>false
theorem zru{F:Addr->Prop}{f:Str}{d:PyData}:∀ {ns:List Str} {xs:List V} {ds:List PyData},IsAll K F H xs ds->(ns.zip ds).lookup f=some d->∃ y,(ns.zip xs).lookup f=some y/\Is K F H y d
 | [],_,_,_,h=>by cases h
 | n::ns,_,_,.nil,h=>by cases h
 | n::ns,v::xs,e::ds,.cons i is,h=>by
   rw[jU,Zz] at h ⊢
   cases z:f == n with
   | true=>rw[z] at h;cases h;exact⟨v,rfl,i⟩
   | false=>rw[z] at h;exact zru is h
def zwc(K:Qa)(i:Nat)(f:Str):DE:=λρ Q=>∃ C ns ds d,ρ[i]? = some (some (.exc C ns ds))/\XGet K C/\QQ K (.ref C) f=some none/\(ns.zip ds).lookup f=some d/\z2b d=true/\Q (.o d)
theorem zzz{i:Nat}{f:Str}:ED K O (zwv K f (tVar i)) (zwc K i f):=λσ H ρ Q Qd S h k=>by
 obtain⟨C,ns,ds,d,e,xg,nf,hl,pd,q⟩:=h
 obtain⟨v,hv,xs,⟨a,dx,rfl,fa,fx,ha,hd,l⟩,is⟩:=S.at_ i _ e
 obtain⟨y,hy,iy⟩:=zru is hl
 have pv:zsj y:=by
  cases iy with
  | int i=>trivial
  | str x=>trivial
  | none=>cases pd
  | bool b=>cases pd
  | list _ _ _=>cases pd
  | tuple _ _=>cases pd
 exact⟨_,hv,a,C,dx,ns.zip xs,y,rfl,ha,hd,xg,nf,hy,pv,k y H (.o d) (.refl _ _) iy q⟩
end
def Ef3{ι κ:Type}(K:Qa)(mg:Str->Option Value)(X:ι->Cx)(O:κ->Ob)(e:Expr)(f:DEf):Prop:=∃ t:XK->TE,(∀ i W pins σ E,zfl ((X i).wish W) pins σ E->PEf ((X i).wish W) pins σ e (t E))/\∀ j,EDf K mg (O j) t f
def Bf3{ι κ:Type}(K:Qa)(mg:Str->Option Value)(X:ι->Cx)(O:κ->Ob)(ss:List Stmt)(f:DSf):Prop:=∃ t:XK->TS,(∀ i W pins σ E,zfl ((X i).wish W) pins σ E->PSsf ((X i).wish W) pins σ ss (t E))/\∀ j,SDf K mg (O j) t f
def z2h{ι:Type}(X:ι->Cx):ι × Addr->Cx:=λp=>zht (X p.1) p.2
section
variable {ι κ : Type} {P : Program} {w : World} {K : Qa} {mg : Str → Option Value} {base : Heap} {k : Nat} {X : ι → Cx} {O : κ → Ob} {a b c : Expr} {fa : DE} {ff : DEf} {gf : DAf} {ga : DA} {pos p : Pos} {es : List Expr}
theorem zyn{k' n:Nat}{x:Str}{ps:List Str}{φ:Ob->Prop}{F:List PyData->(R->Prop)->Prop}(C:Ctx3 P w K mg base k X)(D:Def3x P w K mg base k' x ps (spX K mg φ n F))(hφ:∀ j,φ (O j))(ha:A3 K X O (a::es) ga)(hk:k'<=k:=by decide)(hg:∀ i,Gl (X i) x:=by intro i;rfl)
 (hdb:(x == ("__debug__" : Str))=false:=by decide) (he:∀ i,starEach (a::es) (X i).env=(false,eval a (X i).env)::starEach es (X i).env:=by intro i;rfl) (hpl:∀ i,(backTo pos (starEach es (X i).env)).any (·.1)=false:=by intro i;rfl):Ef3 K mg X O (.Call (.Name x p) (a::es) [] pos) (calX n F ga):=by
 obtain⟨f,fd,G,m,kp,bn⟩:=D.ex
 obtain⟨t,q,d⟩:=ha
 refine⟨λE=>ze0 (spX K mg φ n F) [] E t,λi W pins σ E hp=>?_,λj=>zur (hφ j) (d j)⟩
 have G':FnOk ((X i).wish W).prog ((X i).wish W).w ((X i).wish W).K ((X i).wish W).mg ((X i).wish W).base (CX1 ((X i).wish W).prog ((X i).wish W).w) k f fd ps (spX K mg φ n F):=by
  show FnOk (X i).prog (X i).w (X i).K (X i).mg (X i).base (CX1 (X i).prog (X i).w) k f fd ps _
  rw[C.hP,C.hw,C.hK,C.hmg,C.hb];exact G.mono hk
 exact zvn G' (C.room i) (hg i) (show(X i).mg x=_ by rw[C.hmg];exact m) (show ZB (X i).K _=_ by rw[C.hK];exact kp) (show L2.Binds (X i).K fd ps [] by rw[C.hK];exact bn) hp (λpos s H Q I q'=>PA.nox (X:=(X i).wish W) (by rw[z2q (C.xe i)];exact q i) pos pins s σ H Q I q') hdb (he i) (hpl i)
theorem z5d{cx n:Str}{np hpos:Pos}{body:List Stmt}{s0:Stmt}{suite:List Stmt}{CL:Addr}{gb:DSf}{gs:DS}(i:Nat)(C:Ctx3 P w K mg base k X)(hm:mg cx=some (.ref CL))(cc:CatchC K CL)(hb:Bf3 K mg X O body gb)(hs:Ss3 K (z2h X) O (s0::suite) gs)
 (hst:∀ i,(X i).stack=(X i).env::(X i).outer:=by intro i;rfl) (hfr:∀ i,(X i).env.frame=some (X i).env.locals:=by intro i;rfl) (hg:∀ i,Gl (X i) cx:=by intro i;rfl)
 (hN:∀ i,(X i).N.Nodup:=by intro i;exact of_decide_eq_true (by kernel_rfl)) (hi:∀ j,(X j).N[i]? = some n:=by intro j;rfl) (hk:∀ i,(X i).env.scope.names.lookup n=some .local:=by intro i;rfl) (hdb:(cx == ("__debug__" : Str))=false:=by decide) :
 S3 K X O (.Try body [.ExceptHandler (some (.Name cx np)) (some n) (s0::suite) hpos] [] [] pos) (tryS K mg CL i gb gs):=by
 obtain⟨tb,p,d⟩:=hb
 obtain⟨ts,p',d'⟩:=hs
 refine⟨zmg K CL i tb ts,λj=>?_,λj=>z2a (d j) (d' j)⟩
 have:=zsp (X:=X j) (np:=np) (hpos:=hpos) (pos:=pos) (i:=i) (hst j) (hfr j) (hg j) (by rw[C.hmg];exact hm) (by rw[C.hK];exact cc) (hN j) (hi j) (hk j) (λpins σ E W hp=>p j W pins σ E hp) (λa=>p' (j,a)) hdb
 rw[C.hK] at this
 exact this
theorem z3w(n m:Nat){x y:Str}{px py:Pos}(hN:∀ i,(X i).N.Nodup:=by intro i;exact of_decide_eq_true (by kernel_rfl))(hi:∀ i,(X i).N[n]? = some x:=by intro i;rfl)(hx:∀ i,Loc (X i).env.scope x:=by intro i;first|exact Or.inl rfl|exact Or.inr rfl)
 (hN2:∀ i,(X i).N[m]? = some y:=by intro i;rfl) (hv:∀ i,Vis (X i).env.scope y:=by intro i;first|exact Or.inl rfl|exact Or.inr (Or.inl rfl)|exact Or.inr (Or.inr rfl)) (hd:(y == ("__debug__" : Str))=false:=by decide) (hcd:(y == ("__classdict__" : Str))=false:=by decide)
 (hs:∀ i,swapsWith (.Name y py) (some (.Name x px)) pos.line (X i).env=pure false:=by intro i;rfl) (hf:∀ i,(X i).fn x=true\/(X i).env.scope.names.lookup x=some .local:=by intro i;first|exact .inl rfl|exact .inr rfl):S3 K X O (.Assign [.Name x px] (.Name y py) pos) (zvx n m) :=
 ⟨_,λi=>zcn (hN i) (hi i) (hx i) (zap (hN2 i) (hv i) hd hcd) (hs i) (hf i),λj=>zzs⟩
theorem z2u(m:Nat){x y:Str}{c:Addr}{py p1 p2:Pos}(C:Ctx3 P w K mg base k X)(B:Blt mg)(hm:mg x=some (.ref c))(gi:∀ i,Gl (X i) "isinstance" := by intro i;rfl)(gx:∀ i,Gl (X i) x:=by intro i;rfl)
 (hN2:∀ i,(X i).N[m]? = some y:=by intro i;rfl) (hv:∀ i,Vis (X i).env.scope y:=by intro i;first|exact Or.inl rfl|exact Or.inr (Or.inl rfl)|exact Or.inr (Or.inr rfl)) (hd:(y == ("__debug__" : Str))=false:=by decide) (hcd:(y == ("__classdict__" : Str))=false:=by decide) (hd2:(x == ("__debug__" : Str))=false:=by decide) :
 E3 K X O (.Call (.Name "isinstance" p1) [.Name y py,.Name x p2] [] pos) (isXD K m (.ref c)) :=
 ⟨_,λi=>by
  have:=zto (X:=X i) (p1:=p1) (p2:=p2) (p3:=pos) (x:=x) (cv := .ref c) (gi i) (by rw[C.hmg];exact B.isinstance) (zxi (gx i) (by rw[C.hmg];exact hm) hd2) (zap (pos:=py) (hN2 i) (hv i) hd hcd)
  rw[C.hK] at this
  exact this,λj=>zso⟩
theorem z0v(m:Nat){x y:Str}{cv:Value}{py p1 p2:Pos}(C:Ctx3 P w K mg base k X)(B:Blt mg)(hm:mg x=none)(hb:bootBuiltins x=some cv:=by decide +kernel)(gi:∀ i,Gl (X i) "isinstance" := by intro i;rfl)(gx:∀ i,Gl (X i) x:=by intro i;rfl)
 (hN2:∀ i,(X i).N[m]? = some y:=by intro i;rfl) (hv:∀ i,Vis (X i).env.scope y:=by intro i;first|exact Or.inl rfl|exact Or.inr (Or.inl rfl)|exact Or.inr (Or.inr rfl)) (hd:(y == ("__debug__" : Str))=false:=by decide) (hcd:(y == ("__classdict__" : Str))=false:=by decide) (hn:x ≠ "__name__" := by decide) (hd2:(x == ("__debug__" : Str))=false:=by decide) :
 E3 K X O (.Call (.Name "isinstance" p1) [.Name y py,.Name x p2] [] pos) (isXD K m cv) :=
 ⟨_,λi=>by
  have:=zto (X:=X i) (p1:=p1) (p2:=p2) (p3:=pos) (x:=x) (cv:=cv) (gi i) (by rw[C.hmg];exact B.isinstance) (zyz (gx i) (by rw[C.hmg];exact hm) hb hn hd2) (zap (pos:=py) (hN2 i) (hv i) hd hcd)
  rw[C.hK] at this
  exact this,λj=>zso⟩
def Acl3{ι:Type}(X:ι->Cx)(es:List Expr)(cs:List Addr):Prop:=∀ i,PA (X i) es (tCs cs)
theorem zzb:Acl3 X [] []:=λ_=>zcl
theorem zdu{x:Str}{c:Addr}{cs:List Addr}{px:Pos}(C:Ctx3 P w K mg base k X)(hm:mg x=some (.ref c))(h:Acl3 X es cs)(hg:∀ i,Gl (X i) x:=by intro i;rfl)(hd:(x == ("__debug__" : Str))=false:=by decide)(hs:∀ i,starEach (.Name x px::es) (X i).env=(false,eval (.Name x px) (X i).env)::starEach es (X i).env:=by intro i;rfl):Acl3 X (.Name x px::es) (c::cs) :=
 λi=>zbo (zz8 (hg i) (by rw[C.hmg];exact hm) hd) (h i) (hs i)
theorem z3o(m:Nat){y:Str}{cs:List Addr}{py p1 p2:Pos}{x1}(C:Ctx3 P w K mg base k X)(B:Blt mg)(hc:Acl3 X es cs)(gi:∀ i,Gl (X i) "isinstance" := by intro i;rfl)
 (hN2:∀ i,(X i).N[m]? = some y:=by intro i;rfl) (hv:∀ i,Vis (X i).env.scope y:=by intro i;first|exact Or.inl rfl|exact Or.inr (Or.inl rfl)|exact Or.inr (Or.inr rfl)) (hd:(y == ("__debug__" : Str))=false:=by decide) (hcd:(y == ("__classdict__" : Str))=false:=by decide) :
 E3 K X O (.Call (.Name "isinstance" p1) [.Name y py,.Tuple es x1 p2] [] pos) (zv3 K m cs) :=
 ⟨_,λi=>by
  have:=zzu (X:=X i) (p1:=p1) (p3:=pos) (gi i) (by rw[C.hmg];exact B.isinstance) (zap (pos:=py) (hN2 i) (hv i) hd hcd) (zte (x1:=x1) (pos:=p2) (hc i))
  rw[C.hK] at this
  exact this,λj=>zy9⟩
theorem ztw(m:Nat){y f:Str}{py:Pos}(C:Ctx3 P w K mg base k X)(hN2:∀ i,(X i).N[m]? = some y:=by intro i;rfl)(hv:∀ i,Vis (X i).env.scope y:=by intro i;first|exact Or.inl rfl|exact Or.inr (Or.inl rfl)|exact Or.inr (Or.inr rfl))(hd:(y == ("__debug__" : Str))=false:=by decide)(hcd:(y == ("__classdict__" : Str))=false:=by decide)
 (hb:∀ i,attributeBase (.Name y py) f (X i).env (eval (.Name y py) (X i).env)=eval (.Name y py) (X i).env:=by intro i;rfl):E3 K X O (.Attribute (.Name y py) f pos) (zwc K m f) :=
 ⟨_,λi=>by
  have:=zys (X:=X i) (pos:=pos) (f:=f) (zap (pos:=py) (hN2 i) (hv i) hd hcd) (hb i)
  rw[C.hK] at this
  exact this,λj=>zzz⟩
end
structure EA where
 le:Addr
 nt:Addr
 nh:Addr
 ns:Addr
 tm:Addr
 np:Addr
 ng:Addr
 nr:Addr
structure ErrC (K:Qa) (mg:Str->Option Value) (ea:EA):Prop where
 le:mg "LostError" = some (.ref ea.le)
 nt:mg "NoText" = some (.ref ea.nt)
 nh:mg "NoHouse" = some (.ref ea.nh)
 ns:mg "NoStep" = some (.ref ea.ns)
 tm:mg "TooMany" = some (.ref ea.tm)
 np:mg "NoPaper" = some (.ref ea.np)
 ng:mg "NoGrammar" = some (.ref ea.ng)
 nr:mg "NoRow" = some (.ref ea.nr)
 vb:mg "ValueError" = none
 cc:CatchC K ea.le
abbrev bmV:List Value := [.type "ValueError", .type "Exception", .type "BaseException", .type "object"]
theorem z4m(v:Value):refuseLoop v "__setattr__" bmV=pure ():=by kernel_rfl
structure Init1 (K:Qa) (f:Addr) (fl:Str):Prop where
 ex:∃ (qual an0:Str) (params:Arguments) (scope:Scope) (oc kV doc pm cdv ct:Value) (od an:Option Addr) (osl:Array (Option Value)) (p1 p2 p3 p4:Pos),
  K.lookup f=some ⟨oc,od,.func (Zx "__init__" qual params [.Assign [.Attribute (.Name "self" p1) fl p2] (.Name an0 p3) p4] scope .none kV doc pm an cdv ct),osl⟩/\Jy K cdv qual=true /\
  FnScope [("self" : Str),an0] [("self" : Str),an0] scope/\Vis scope "self" /\ Vis scope an0/\(an0 == ("__debug__" : Str))=false/\(an0 == ("__classdict__" : Str))=false /\
  ∀ us:List Value,us.length=2->bindArgs (Zx "__init__" qual params [.Assign [.Attribute (.Name "self" p1) fl p2] (.Name an0 p3) p4] scope .none kV doc pm an cdv ct) ⟨us,[]⟩=pure (([("self" : Str),an0]:List Str).zip us)
structure Raise1 (K:Qa) (LE C:Addr) (os:List Addr) (fl:Str):Prop where
 get:XGet K C
 lost:QW K C (.ref LE)=some true
 val:Zi K (.ref C) (.type "ValueError")=some true
 oth:∀ D ∈ os,Zi K (.ref C) (.ref D)=some false
 nof:QQ K (.ref C) fl=some none
 init:∃ f,XMk K C f [fl]/\Init1 K f fl
section
variable {P : Program} {w : World} {K : Qa} {mg : Str → Option Value} {base : Heap} {C D LE f : Addr} {os : List Addr} {fl : Str}
def z0l:Value->Bool
 | .str _ _=>true
 | _=>false
theorem strKeys_of{es:Array DictEntry}(h:(es.toList.all λe=>z0l e.key)=true):StrKeys es:=λe he=>by
 have:=Q9.mp h e (j3.mpr he)
 cases z:e.key with
 | str n t=>exact⟨n,t,rfl⟩
 | _=>rw[z] at this;cases this
theorem zuf:Zi K (.ref C) (.ref C)=some true:=if_pos (by simp)
theorem zzr{b:Bool}{cd:ClassData}(ne:(C == D)=false)(hc:Yu K D=some cd)(ht:Jc K (.ref D)=some (.type "type"))(hm:QW K C (.ref D)=some b):Zi K (.ref C) (.ref D)=some b:=by
 unfold Zi
 rw[if_neg (λz=>by have:=zb (beq_iff_eq.mp z);rw[this] at ne;simp at ne)]
 unfold qP
 simp only[hc,ht,jO,beq_self_eq_true,Bool.and_self,if_true]
 exact hm
theorem zzj{b:Bool}(hm:QW K C (.type "ValueError")=some b):Zi K (.ref C) (.type "ValueError")=some b:=by
 unfold Zi
 rw[if_neg (show ¬ (QC C == JZ "ValueError")=true from λz=>nomatch beq_iff_eq.mp z)]
 unfold qP
 simp only[show PySem.W.kitMeta "ValueError" = true by decide +kernel,if_true]
 exact hm
theorem zor:∀ {os:List Addr},(∀ D ∈ os,Zi K (.ref C) (.ref D)=some false)->YR K (.ref C) (os.map QC)=some false
 | [],_=>rfl
 | D::os,h=>by
   rw[Q2,YR,h D Qj]
   exact zor λE hE=>h E (Qe _ hE)
theorem zup(I:Init1 K f fl):∃ fd ps,FnOk P w K mg base CX0 1 f fd ps (zfm K [fl])/\Binds K fd ps []:=by
 obtain⟨qual,an0,params,scope,oc,kV,doc,pm,cdv,ct,od,an,osl,p1,p2,p3,p4,lk,hcd,S,v0,v1,d1,d2,hb⟩:=I.ex
 refine⟨_,[("self" : Str),an0],zqn lk hcd S (zqe rfl) λA outer s H vs Q E hr h=>?_,.all hb⟩
 obtain⟨x,C,ys,rfl,hl,hc,hx,hq⟩:=h
 match ys,hl with
 | [y],_ =>
 refine⟨_,zcp (zxd (zap (i:=0) rfl v0 (by decide) (by decide)) (zap (i:=1) rfl v1 d1 d2) rfl),?_⟩
 exact⟨y,rfl,.ref x,rfl,x,C,rfl,hc fl Qj,.inl ⟨hx,λd hd hdx=>hq d hd hdx⟩⟩
theorem raise1_mk{N:Addr}{nm q:Str}{bs:List Value}{sn:List Str}{sub:List Value}{ab:Bool}{col:Option Bool}{dd ddL odN:Option Addr}{k0 k1 k2 k3 k5:Option Value}{c0 ocN:Value}{cdL:ClassData}{slL oslN:Array (Option Value)}{es:Array DictEntry}{ep:Nat}
 (h1:QQ K (.ref C) "__getattribute__" = some (some (.builtin "BaseException.__getattribute__"))) (h2:QQ K (.ref C) "__getattr__" = some none) (h3:QW K C (.type "BaseException")=some true) (h4:QW K C (.type "object")=some true)
 (h5:YW K C=true) (h6:QQ K (.ref C) "__class__" = some (some (.builtin "object.__class__"))) (h7:YX K (.builtin "object.__class__") "__get__" = some (some (.builtin "getset_descriptor.__get__"))) (h8:ju K (.builtin "object.__class__")=some true)
 (h9:QW K C (.ref LE)=some true) (h10:QW K C (.type "ValueError")=some true) (h11:QQ K (.ref C) fl=some none)
 (h12:K.lookup C=some (excClassObj nm q C N bs (.ref LE::bmV) true sn sub ab col dd k0 k1 k2 k3 k5 "ValueError.__new__"))
 (h13:K.lookup LE=some ⟨c0,ddL,.cls cdL,slL⟩) (h14:K.lookup cdL.ns=some ⟨ocN,odN,.dict es ep,oslN⟩) (h15:StrKeys es) (h16:nsFind es "__init__" = none)
 (h17:QQ K (.ref C) "__init__" = some (some (.ref f))) (h18:Jc K (.ref f)=some (.type "function")) (h19:ZB K (.ref C)=true) (h20:QQ K (.ref C) "__setattr__" = some (some (.builtin "object.__setattr__")))
 (h21:∀ D ∈ os,Zi K (.ref C) (.ref D)=some false) (h22:Init1 K f fl):Raise1 K LE C os fl:=by
 refine⟨⟨h1,h2,h3,h4,h5,h6,h7,h8⟩,h9,zzj h10,h21,h11,f,⟨⟨nm,q,N,bs,_,bmV,sn,sub,ab,col,dd,k0,k1,k2,k3,k5, "ValueError", "ValueError.__new__", "ValueError.__init__", h12,λh x=>zqf x h13 h14 h15 h16 .base,PySem.F.excBase_ValueError⟩,h17,h18,h19,λn hn=>?_⟩,h22⟩
 rw[Q3.mp hn]
 refine⟨⟨_,by unfold Yu;rw[h12],rfl,rfl,?_,λv=>?_⟩,h20,h11⟩
 ·simp[jQ]
 ·rw[refuseLoop_ref,refuseLoop_ref];exact z4m v
structure ErrIn (K:Qa) (ea:EA):Prop where
 le:Q0 K mainGlobals "LostError" = some (some (.ref ea.le))
 nt:Q0 K mainGlobals "NoText" = some (some (.ref ea.nt))
 nh:Q0 K mainGlobals "NoHouse" = some (some (.ref ea.nh))
 ns:Q0 K mainGlobals "NoStep" = some (some (.ref ea.ns))
 tm:Q0 K mainGlobals "TooMany" = some (some (.ref ea.tm))
 np:Q0 K mainGlobals "NoPaper" = some (some (.ref ea.np))
 ng:Q0 K mainGlobals "NoGrammar" = some (some (.ref ea.ng))
 nr:Q0 K mainGlobals "NoRow" = some (some (.ref ea.nr))
 vb:Q0 K mainGlobals "ValueError" = some none
 cc:CatchC K ea.le
theorem errIn_mk{le nt nh ns tm np ng nr:Addr}{oc:Value}{od:Option Addr}{cd:ClassData}{sl:Array (Option Value)}(e1:Q0 K mainGlobals "LostError" = some (some (.ref le)))(e2:Q0 K mainGlobals "NoText" = some (some (.ref nt)))(e3:Q0 K mainGlobals "NoHouse" = some (some (.ref nh)))(e4:Q0 K mainGlobals "NoStep" = some (some (.ref ns)))
 (e5:Q0 K mainGlobals "TooMany" = some (some (.ref tm))) (e6:Q0 K mainGlobals "NoPaper" = some (some (.ref np))) (e7:Q0 K mainGlobals "NoGrammar" = some (some (.ref ng))) (e8:Q0 K mainGlobals "NoRow" = some (some (.ref nr))) (e9:Q0 K mainGlobals "ValueError" = some none)
 (e10:Jc K (.ref le)=some (.type "type")) (e11:K.lookup le=some ⟨oc,od,.cls cd,sl⟩) (e12:QW K le (.type "BaseException")=some true):ErrIn K ⟨le,nt,nh,ns,tm,np,ng,nr⟩:=⟨e1,e2,e3,e4,e5,e6,e7,e8,e9,e10,⟨_,_,_,_,e11⟩,e12⟩
theorem ErrIn.errC{h:Heap}{ea:EA}(X:K.In h)(G:h.Ns mainGlobals mg)(E:ErrIn K ea):ErrC K mg ea :=
 ⟨ZR X G E.le,ZR X G E.nt,ZR X G E.nh,ZR X G E.ns,ZR X G E.tm,ZR X G E.np,ZR X G E.ng,ZR X G E.nr,Q7 X G E.vb,E.cc⟩
theorem init1_mk{qual an0:Str}{params:Arguments}{scope:Scope}{oc kV doc pm cdv ct:Value}{od an:Option Addr}{osl:Array (Option Value)}{p1 p2 p3 p4:Pos}
 (i1:K.lookup f=some ⟨oc,od,.func (Zx "__init__" qual params [.Assign [.Attribute (.Name "self" p1) fl p2] (.Name an0 p3) p4] scope .none kV doc pm an cdv ct),osl⟩) (i2:Jy K cdv qual=true)
 (i3:FnScope [("self" : Str),an0] [("self" : Str),an0] scope) (i4:Vis scope "self" /\ Vis scope an0) (i5:(an0 == ("__debug__" : Str))=false/\(an0 == ("__classdict__" : Str))=false)
 (i6:∀ us:List Value,us.length=2->bindArgs (Zx "__init__" qual params [.Assign [.Attribute (.Name "self" p1) fl p2] (.Name an0 p3) p4] scope .none kV doc pm an cdv ct) ⟨us,[]⟩=pure (([("self" : Str),an0]:List Str).zip us)):Init1 K f fl :=
 ⟨qual,an0,params,scope,oc,kV,doc,pm,cdv,ct,od,an,osl,p1,p2,p3,p4,i1,i2,i3,i4.1,i4.2,i5.1,i5.2,i6⟩
theorem no_nil:∀ D ∈ ([]:List Addr),Zi K (.ref C) (.ref D)=some false:=λ_ h=>(QG h).elim
theorem no_cons{cd:ClassData}(ne:(C == D)=false)(hc:Yu K D=some cd)(ht:Jc K (.ref D)=some (.type "type"))(hm:QW K C (.ref D)=some false)(h:∀ D ∈ os,Zi K (.ref C) (.ref D)=some false):∀ E ∈ D::os,Zi K (.ref C) (.ref E)=some false:=λE hE=>by
 rcases Qt.mp hE with rfl|z
 ·exact zzr ne hc ht hm
 ·exact h E z
end
abbrev zkc(K:Qa)(ea:EA):Prop:=Raise1 K ea.le ea.nt [ea.ng,ea.nh,ea.np,ea.nr,ea.ns,ea.tm] "at"
theorem z2i{X:Cx}{neg:Bool}:OpR X (compareOp (if neg then .IsNot else .Is)) (λx y H Q=>∃ b,y = .bl b/\Q (.bl (if neg then !decide (x = .bl b) else decide (x = .bl b))) H):=by
 intro pins s σ H x y v u Q I rx ry h
 obtain⟨b,rfl,q⟩:=h
 cases ry
 have key:plainIs v (.bool b)=true/\(v == Jr b)=decide (x=V.bl b):=by
  cases x <;> first
   | (rename_i c;cases rx;refine⟨rfl,?_⟩;cases b <;> cases c <;> rfl)
   | (cases rx;exact⟨rfl,by cases b <;> rfl⟩)
   | (obtain⟨t,rfl⟩:=rx;exact⟨rfl,by cases b <;> rfl⟩)
 cases neg with
 | false=>exact wpAny_is_plain key.1 (zfq I q (by rw[key.2];rfl))
 | true=>exact wpAny_isNot_plain key.1 (zfq I q (by rw[key.2];rfl))
def isBF(neg:Bool):PyData->PyData->(R->Prop)->Prop:=λd e Q=>∃ b,e = .bool b/\Q (.o (.bool (match d with | .bool c=>(c == b) != neg|_=>neg)))
theorem zx2{K:Qa}{O:Ob}{neg:Bool}:OpD K O (λx y H Q=>∃ b,y = .bl b/\Q (.bl (if neg then !decide (x = .bl b) else decide (x = .bl b))) H) (isBF neg):=λH x y d e Q Qd ok p ix iy ⟨b,e1,q⟩ k=>by
 subst e1
 cases iy
 refine⟨b,rfl,k _ H (.o _) (.refl _ _) ?_ q⟩
 cases ix with
 | bool c=>cases neg <;> cases b <;> cases c <;> exact Is.bool _
 | _=>cases neg <;> exact Is.bool _
section
variable {ι κ : Type} {P : Program} {w : World} {K : Qa} {mg : Str → Option Value} {base : Heap} {k : Nat} {X : ι → Cx} {O : κ → Ob} {a b c : Expr} {fa fb : DE} {ff : DEf} {pos p : Pos} {es : List Expr}
def zw5(m:Nat):DE:=λρ Q=>(ρ[m]? = some (some (.im .none))/\Q (.o (.bool true)))\/∃ C ns ds,ρ[m]? = some (some (.exc C ns ds))/\Q (.o (.bool false))
theorem zy5{K:Qa}{O:Ob}{m:Nat}:ED K O (tOp (λx y H Q=>y = .non/\Q (.bl (decide (x = .non))) H) (tVar m) (tC .non)) (zw5 m):=λσ H ρ Q Qd S h k=>by
 rcases h with ⟨e,q⟩|⟨C,ns,ds,e,q⟩
 ·obtain⟨v,hv,sv⟩:=S.at_ m _ e
  have sv':Is K (unM O) H v .none:=sv
  cases sv'
  exact⟨_,hv,rfl,k _ H (.o (.bool true)) (.refl _ _) (Is.bool _) q⟩
 ·obtain⟨v,hv,xs,⟨a,dx,rfl,_⟩,_⟩:=S.at_ m _ e
  exact⟨_,hv,rfl,k _ H (.o (.bool false)) (.refl _ _) (Is.bool _) q⟩
theorem z3s(m:Nat){y:Str}{py pn:Pos}(hN2:∀ i,(X i).N[m]? = some y:=by intro i;rfl)(hv:∀ i,Vis (X i).env.scope y:=by intro i;first|exact Or.inl rfl|exact Or.inr (Or.inl rfl)|exact Or.inr (Or.inr rfl))(hd:(y == ("__debug__" : Str))=false:=by decide)(hcd:(y == ("__classdict__" : Str))=false:=by decide){j} :
 T3 K X O (.Compare (.Name y py) [.Is] [.Constant .none j pn] pos) (bD (zw5 m)) :=
 ⟨_,λi=>zeh zmy (zap (hN2 i) (hv i) hd hcd) zs9 (zbm _),λj=>zs5 zy5⟩
theorem z2y(n:Nat){x:Str}{px:Pos}(h:Ef3 K mg X O a ff)(hN:∀ i,(X i).N.Nodup:=by intro i;exact of_decide_eq_true (by kernel_rfl))(hi:∀ i,(X i).N[n]? = some x:=by intro i;rfl)(hx:∀ i,Loc (X i).env.scope x:=by intro i;first|exact Or.inl rfl|exact Or.inr rfl)
 (hs:∀ i,swapsWith a (some (.Name x px)) pos.line (X i).env=pure false:=by intro i;rfl) (hf:∀ i,(X i).fn x=true\/(X i).env.scope.names.lookup x=some .local:=by intro i;first|exact .inl rfl|exact .inr rfl):Bf3 K mg X O [.Assign [.Name x px] a pos] (asgF n ff):=by
 obtain⟨t,p,d⟩:=h
 refine⟨λE=>tAsg (t E) (zbi n),λi W pins σ E hp s H D I q=>?_,λj=>zxl (d j)⟩
 refine wpAny_execs_cons (wpAny_Assign_Name (thn (p i W pins σ E hp s H _ I q) λv s1 ⟨y,H1,I1,r1,q1⟩=>?_) (hs i))
 exact zdq I1 (hN i) (hi i) (hx i) r1 (λs2 I2=>wpAny_execs_nil ⟨_,H1,I2,q1⟩) (hf i)
end
end L3
namespace HK
open PySem PySem.Spec PyProof.Rows
mutual
def hk:PyData->Bool
 | .int _=>true
 | .str _=>true
 | .tuple ds=>hks ds
 | _=>false
def hks:List PyData->Bool
 | []=>true
 | d::ds=>hk d && hks ds
end
mutual
def hD(w:World):PyData->Int
 | .int i=>hashInt i
 | .str x=>hashStr w x
 | .tuple ds=>reduceHash (Builtin.Tuple.tupleHashOf (hDs w ds))
 | _=>0
def hDs(w:World):List PyData->List Int
 | [] => []
 | d::ds=>hD w d::hDs w ds
end
mutual
def bv:PyData->Bool
 | .int _=>true
 | .tuple ds=>bvs ds
 | _=>false
def bvs:List PyData->Bool
 | []=>true
 | d::ds=>bv d && bvs ds
end
mutual
def dr:PyData->Nat
 | .tuple ds=>drs ds+1
 | _=>1
def drs:List PyData->Nat
 | []=>0
 | d::ds=>dr d+drs ds
end
end HK
namespace HK
open PySem PySem.Spec PyProof.Rows PySem.W
mutual
def dlt:PyData->PyData->Bool
 | .int i,.int j=>decide (i<j)
 | .str x,.str y=>decide (x.cps.toList<y.cps.toList)
 | .tuple xs,.tuple ys=>dlts xs ys
 | _,_=>false
def dlts:List PyData->List PyData->Bool
 | [],[]=>false
 | [],_::_=>true
 | _::_,[]=>false
 | x::xs,y::ys=>if QM x y then dlts xs ys else dlt x y
end
end HK
namespace L3
open PySem PySem.Spec
open PyProof.Rows hiding St
open L2
theorem zic{α:Type}{enc:α->PyData}{i h:Nat}{ft:DT}{fe:DE}{ρ:DSt}{Q:List PyData->Prop}{as:List α}{p:α->Bool}{e:α->PyData}
 (step:∀ a ∈ as,∀ (Pn:Prop) (Py:R->Prop),(p a=false->Pn)->(p a=true->∀ r,r.d=e a->Py r)->ft ((Qf h none++ρ).set i (some (.im (enc a)))) λt=>if t=true then fe ((Qf h none++ρ).set i (some (.im (enc a)))) Py else Pn)
 (hz:as.length<=sizeLine) (q:Q ((as.filter p).map e)):za3 h (gN i) ft fe ρ Q (as.map enc) []:=by
 have key:∀ (l:List α) (acc:List PyData),(∀ a ∈ l,a ∈ as)->acc.length+l.length<=sizeLine->Q (acc++(l.filter p).map e)->za3 h (gN i) ft fe ρ Q (l.map enc) acc:=by
  intro l
  induction l with
  | nil=>intro acc _ _ q;show Q acc;simpa using q
  | cons a l ih =>
    intro acc hs hz q
    rw[Qm] at hz
    refine step a (hs a Qj) (za3 h (gN i) ft fe ρ Q (l.map enc) acc) (λr=>acc.length<sizeLine/\za3 h (gN i) ft fe ρ Q (l.map enc) (acc ++ [r.d])) (λhp=>?_) (λhp r hr=>⟨by omega,?_⟩)
    ·refine ih acc (λb hb=>hs b (Qe _ hb)) (by omega) ?_
     rw[JM,hp] at q
     exact q
    ·refine ih _ (λb hb=>hs b (Qe _ hb)) (by rw[Qg,Zq];omega) ?_
     rw[JM,hp,if_pos rfl,Q2] at q
     rw[hr,Jn]
     exact q
 exact key as [] (λ_ h=>h) (by simpa using hz) (by simpa using q)
theorem zc4(c:Nat):∀ t:List Nat,∃ ws:List (List Nat),ws ≠ []/\t=zbe c ws/\(∀ w ∈ ws,c ∉ w)/\(∀ w ∈ ws,w.length<=t.length/\∀ x ∈ w,x ∈ t)/\ws.length<=t.length+1
 | []=>⟨[[]],by simp,rfl,by simp,by simp,by simp⟩
 | x::t=>by
   obtain⟨ws,h1,h2,h3,h4,h5⟩:=zc4 c t
   cases ws with
   | nil=>exact absurd rfl h1
   | cons w r =>
     by_cases hx:x=c
     ·subst hx
      refine⟨[]::w::r,by simp,?_,?_,?_,by simp at h5 ⊢; omega⟩
      ·rw[zbt (by simp),<- h2];rfl
      ·intro v hv
       rcases Qt.mp hv with rfl|hv
       ·simp
       ·exact h3 v hv
      ·intro v hv
       rcases Qt.mp hv with rfl|hv
       ·simp
       ·obtain⟨a,b⟩:=h4 v hv
        exact⟨by simp;omega,λy hy=>Qe _ (b y hy)⟩
     ·refine⟨(x::w)::r,by simp,?_,?_,?_,by simp at h5 ⊢; omega⟩
      ·rw[h2]
       cases r with
       | nil=>rfl
       | cons y r=>rfl
      ·intro v hv
       rcases Qt.mp hv with rfl|hv
       ·exact λz=>by rcases Qt.mp z with e|z;exact hx e.symm;exact h3 w Qj z
       ·exact h3 v (Qe _ hv)
      ·intro v hv
       rcases Qt.mp hv with rfl|hv
       ·obtain⟨a,b⟩:=h4 w Qj
        refine⟨by simp;omega,λy hy=>?_⟩
        rcases Qt.mp hy with rfl|hy
        ·exact Qj
        ·exact Qe _ (b y hy)
       ·obtain⟨a,b⟩:=h4 v (Qe _ hv)
        exact⟨by simp;omega,λy hy=>Qe _ (b y hy)⟩
mutual
def solL:PyData->Bool
 | .none=>true
 | .int _=>true
 | .str _=>true
 | .tuple ds=>zc0 ds
 | .list ds=>zc0 ds
 | _=>false
def zc0:List PyData->Bool
 | []=>true
 | d::ds=>solL d && zc0 ds
end
mutual
theorem zge:∀ d e:PyData,solL d=true->solL e=true->(QM d e=true↔d=e)
 | .none,e,_,h=>by cases e <;> simp[QM,solL] at *
 | .int i,e,_,h=>by cases e <;> simp[QM,solL] at *
 | .str x,e,_,h=>by cases e <;> simp[QM,solL] at *
 | .tuple ds,e,h0,h=>by
   cases e with
   | tuple es =>
     have:=zg7 ds es (by simpa[solL] using h0) (by simpa[solL] using h)
     simp only[QM]
     rw[this]
     exact⟨λz=>by rw[z],λz=>by cases z;rfl⟩
   | none=>simp[QM]
   | int _=>simp[QM]
   | str _=>simp[QM]
   | bool _=>simp[solL] at h
   | list _=>simp[QM]
   | dict _=>simp[solL] at h
 | .list ds,e,h0,h=>by
   cases e with
   | list es =>
     have:=zg7 ds es (by simpa[solL] using h0) (by simpa[solL] using h)
     simp only[QM]
     rw[this]
     exact⟨λz=>by rw[z],λz=>by cases z;rfl⟩
   | none=>simp[QM]
   | int _=>simp[QM]
   | str _=>simp[QM]
   | bool _=>simp[solL] at h
   | tuple _=>simp[QM]
   | dict _=>simp[solL] at h
 | .bool _,_,h,_=>by simp[solL] at h
 | .dict _,_,h,_=>by simp[solL] at h
theorem zg7:∀ ds es:List PyData,zc0 ds=true->zc0 es=true->(Yv ds es=true↔ds=es)
 | [],[],_,_=>by simp[Yv]
 | [],_::_,_,_=>by simp[Yv]
 | _::_,[],_,_=>by simp[Yv]
 | d::ds,e::es,h,h'=>by
   simp only[zc0,Qv] at h h'
   simp only[Yv,Qv]
   rw[zge d e h.1 h'.1,zg7 ds es h.2 h'.2]
   simp
end
structure Sl (n:Nat) (d:PyData):Prop where
 lay:d.canLay0=true
 dep:d.depth<=n
 sol:solL d=true
theorem Sl.more{n m:Nat}{d:PyData}(h:Sl n d)(hn:n<=m):Sl m d:=⟨h.lay,Q4 h.dep hn,h.sol⟩
theorem zjt(i:Int):Sl 0 (.int i):=⟨rfl,Qo _,rfl⟩
theorem zeq{x:Str}(h:ZX x=true):Sl 0 (.str x):=⟨h,Qo _,rfl⟩
theorem zks{α:Type}{f:α->PyData}:∀ {l:List α},(∀ a ∈ l,solL (f a)=true)->zc0 (l.map f)=true
 | [],_=>rfl
 | a::l,h=>by rw[Q2,zc0,h a Qj,zks λx hx=>h x (Qe _ hx)];rfl
theorem zjr{α:Type}{f:α->PyData}{l:List α}{n:Nat}(h:∀ a ∈ l,Sl n (f a)):Sl (n+1) (.tuple (l.map f)):=by
 refine⟨zgi λa ha=>(h a ha).lay,?_,?_⟩
 ·rw[JA]
  have:=zgv (f:=f) (n:=n) (l:=l) λa ha=>(h a ha).dep
  omega
 ·rw[solL];exact zks λa ha=>(h a ha).sol
theorem Sl.list{n:Nat}{ds:List PyData}(h:Sl n (.tuple ds)):Sl n (.list ds):=by
 obtain⟨a,b,c⟩:=h
 exact⟨by simpa[Je] using a,by simpa[JA] using b,by simpa[solL] using c⟩
theorem zgl(n:Nat):Sl (n+1) (.tuple []):=⟨rfl,by simp[JA,JX],rfl⟩
theorem zb5{n:Nat}{d:PyData}{ds:List PyData}(h:Sl n d)(h':Sl (n+1) (.tuple ds)):Sl (n+1) (.tuple (d::ds)):=by
 obtain⟨a1,a2,a3⟩:=h
 obtain⟨b1,b2,b3⟩:=h'
 simp only[Je,JA,solL] at b1 b2 b3
 refine⟨?_,?_,?_⟩
 ·simp only[Je,Z3,a1,b1];rfl
 ·simp only[JA,JX];omega
 ·simp only[solL,zc0,a3,b3];rfl
theorem Sl.okD{n:Nat}{d:PyData}(h:Sl n d)(hn:n<=60:=by decide):L3.okD d=true:=by
 unfold L3.okD
 rw[h.lay]
 have:=h.dep
 simp
 omega
theorem zhs{n n':Nat}{neg:Bool}{d e:PyData}(h:Sl n d)(h':Sl n' e)(hn:n<=60:=by decide){q:Bool}(hq:q=true↔d=e):eqF neg d e=some (.o (.bool (if neg then !q else q))):=by
 unfold eqF
 rw[if_pos (by rw[h.okD hn,h'.lay];rfl)]
 have e1:QM d e=q:=by
  have:=(zge d e h.sol h'.sol).trans hq.symm
  cases h1:QM d e <;> cases q <;> simp_all
 rw[e1]
theorem zkt:∀ {l:List PyData},zc0 l=true->∀ y ∈ l,solL y=true
 | [],_,y,hy=>(QG hy).elim
 | a::l,hl,y,hy=>by
   simp only[zc0,Qv] at hl
   rcases Qt.mp hy with z|z
   ·rw[z];exact hl.1
   ·exact zkt hl.2 y z
theorem zsy{n:Nat}{d:PyData}{es:List PyData}(h:Sl n d)(hs:zc0 es=true){q:Bool}(hq:q=true↔d ∈ es):(es.any λy=>QM y d)=q:=by
 have:(es.any λy=>QM y d)=true↔q=true:=by
  rw[hq,List.any_eq_true]
  constructor
  ·rintro⟨y,hy,e⟩
   rw[<- (zge y d (zkt hs y hy) h.sol).mp e]
   exact hy
  ·intro hd
   exact⟨d,hd,(zge d d h.sol h.sol).mpr rfl⟩
 exact JW.mpr this
theorem z4z{n n':Nat}{neg:Bool}{d:PyData}{es:List PyData}(h:Sl n d)(h':Sl n' (.tuple es))(hn:n<=60:=by decide){q:Bool}(hq:q=true↔d ∈ es):inF neg d (.list es)=some (.o (.bool (if neg then !q else q))):=by
 have e1:=zsy h (by simpa[solL] using h'.sol) hq
 have l1:Z3 es=true:=by simpa[Je] using h'.lay
 have e2:inF neg d (.list es)=if(L3.okD d && Z3 es)=true then some (.o (.bool (if neg then !es.any (λy=>QM y d) else es.any λy=>QM y d))) else none:=by
  cases d <;> rfl
 rw[e2,if_pos (by rw[h.okD hn,l1];rfl),e1]
theorem z1n{n n':Nat}{neg:Bool}{d:PyData}{es:List PyData}(h:Sl n d)(h':Sl n' (.tuple es))(hn:n<=60:=by decide){q:Bool}(hq:q=true↔d ∈ es):inF neg d (.tuple es)=some (.o (.bool (if neg then !q else q))):=by
 have e1:=zsy h (by simpa[solL] using h'.sol) hq
 have l1:Z3 es=true:=by simpa[Je] using h'.lay
 have e2:inF neg d (.tuple es)=if(L3.okD d && Z3 es)=true then some (.o (.bool (if neg then !es.any (λy=>QM y d) else es.any λy=>QM y d))) else none:=by
  cases d <;> rfl
 rw[e2,if_pos (by rw[h.okD hn,l1];rfl),e1]
theorem iteB{b:Bool}{A B:Prop}(ht:b=true->A)(hf:b=false->B):if b=true then A else B:=by
 cases b with
 | true=>exact iteT (ht rfl)
 | false=>exact iteF (hf rfl)
theorem zet{α:Type}(as:List α)(g:α->Bool):(if false=true then(as.map g).any id else(as.map g).all id)=as.all g:=by rw[if_neg Qn,List.all_map];rfl
theorem zeo{α:Type}(as:List α)(g:α->Bool):[JI (as.map λa => .bool (g a))] = [JI ((as.map g).map qD)]:=by rw[QB];rfl
theorem eqI{i j:Int}:eqF false (.int i) (.int j)=some (.o (.bool (decide (i=j)))):=by rw[zei,if_neg Qn]
theorem neI{i j:Int}:eqF true (.int i) (.int j)=some (.o (.bool (!decide (i=j)))):=by rw[zei,if_pos rfl]
theorem dr{m:Int}{P:Int->Prop}(h0:0<m)(h1:m<1073741824)(q:∀ k:Nat,(k:Int)<m->P (k:Int)):0<m/\m<1073741824/\∀ k:Int,0<=k->k<m->P k :=
 ⟨h0,h1,λk k0 k1=>by obtain⟨n,rfl⟩:=QP k0;exact q n k1⟩
theorem ztm{k:Nat}(h:(k:Int)<26):k<abc.length:=by rw[show abc.length=26 by decide];omega
theorem mem_abc{c:Nat}:c ∈ abc↔97<=c/\c<=122:=by
 unfold abc
 rw[Qu]
 constructor
 ·rintro⟨a,ha,rfl⟩
  have:=Jx.mp ha
  omega
 ·rintro⟨h1,h2⟩
  exact⟨c - 97,Jx.mpr (by omega),by omega⟩
theorem zeb{b:Bool}(h:(!b)=true):b=false:=by cases b with|true=>cases h|false=>rfl
theorem zdg{b:Bool}(h:(!b)=false):b=true:=by cases b with|true=>rfl|false=>cases h
end L3
namespace L3
open PySem PySem.Spec
open PyProof.Rows hiding St
open L2 L6
theorem zs1{α:Type}{enc:α->PyData}{g:DG}{h:Nat}{ft:DT}{fe:DE}{ρ:DSt}{Q:List PyData->Prop}{as:List α}{p:α->Bool}{e:α->PyData}
 (step:∀ a ∈ as,∀ (Pn:Prop) (Py:R->Prop),(p a=false->Pn)->(p a=true->∀ r,r.d=e a->Py r)->g (enc a) (Qf h none++ρ) λρ2=>ft ρ2 λt=>if t=true then fe ρ2 Py else Pn)
 (hz:as.length<=sizeLine) (q:Q ((as.filter p).map e)):za3 h g ft fe ρ Q (as.map enc) []:=by
 have key:∀ (l:List α) (acc:List PyData),(∀ a ∈ l,a ∈ as)->acc.length+l.length<=sizeLine->Q (acc++(l.filter p).map e)->za3 h g ft fe ρ Q (l.map enc) acc:=by
  intro l
  induction l with
  | nil=>intro acc _ _ q;show Q acc;simpa using q
  | cons a l ih =>
    intro acc hs hz q
    rw[Qm] at hz
    refine step a (hs a Qj) (za3 h g ft fe ρ Q (l.map enc) acc) (λr=>acc.length<sizeLine/\za3 h g ft fe ρ Q (l.map enc) (acc ++ [r.d])) (λhp=>?_) (λhp r hr=>⟨by omega,?_⟩)
    ·refine ih acc (λb hb=>hs b (Qe _ hb)) (by omega) ?_
     rw[JM,hp] at q
     exact q
    ·refine ih _ (λb hb=>hs b (Qe _ hb)) (by rw[Qg,Zq];omega) ?_
     rw[JM,hp,if_pos rfl,Q2] at q
     rw[hr,Jn]
     exact q
 exact key as [] (λ_ h=>h) (by simpa using hz) (by simpa using q)
theorem zj9(w:List Nat)(v:Nat):(tx w).cps.getD v 0=w.getD v 0:=by
 simp[tx,Array.getD,qA]
 split
 ·rename_i h
  rw[Ql h];rfl
 ·rename_i h
  rw[Zs (by omega)];rfl
theorem zm8(n s:Nat)(h:s<=n):fromIndex n (s:Int)=s:=by
 unfold fromIndex
 first|omega|(simp;omega)|(split <;> omega)
def zh2(c:Nat)(more:List Nat)(start:Nat):Int:=match zb0 c more start with|none=>-1|some p=>(p:Int)
theorem zxf{more:List Nat}{c start:Nat}(h:start<=more.length):zc (tx more) (sg c) (start:Int)=zh2 c more start:=by
 unfold zh2
 have hl:(tx more).length=more.length:=zb4 more
 rcases StrLaws.find3_spec (tx more) c (start:Int) with ⟨h1,h2⟩|⟨k,h1,h2,h3,h4,h5⟩
 ·rw[show sg c=⟨#[c]⟩ from rfl,h1]
  cases hf:zb0 c more start with
  | none=>rfl
  | some p =>
    obtain⟨a,b,_⟩:=ze4 hf
    obtain⟨b1,b2⟩:=Qs.mp b
    have:=h2 p (by rw[hl,zm8 _ _ h];exact a) (by rw[hl];exact b1)
    rw[zj9,qA,b] at this
    exact absurd rfl this
 ·rw[show sg c=⟨#[c]⟩ from rfl,h1]
  rw[hl,zm8 _ _ h] at h2 h5
  rw[hl] at h3
  have hk:more[k]? = some c:=by
   rw[zj9,qA,Ql h3] at h4
   rw[Ql h3]
   exact congrArg some h4
  cases hf:zb0 c more start with
  | none=>exact absurd hk (zku hf k h2)
  | some p =>
    obtain⟨a,b,d⟩:=ze4 hf
    have e:k=p:=by
     rcases Nat.lt_trichotomy k p with z|z|z
     ·exact absurd hk (d k h2 z)
     ·exact z
     ·have:=h5 p a z
      rw[zj9,qA,b] at this
      exact absurd rfl this
    rw[e]
def zob:List PyData->(R->Prop)->Prop:=λds Q=>∃ less more:List Nat,ds = [tS less,tS more]/\Sml less/\Sml more/\((plc less more 0 []=none->Q (.o .none))/\∀ ps:List Nat,plc less more 0 []=some ps->Q (.n (ps.map λp => .int (p:Nat))))
def zeg:List PyData->(R->Prop)->Prop:=λds Q=>∃ less more:List Nat,ds = [tS less,tS more]/\Sml less/\Sml more/\Q (.o (.bool (under less more)))
structure Lng (w:List Nat):Prop where
 len:w.length<=100000
 sgn:∀ c ∈ w,c<128
theorem Lng.ok{w:List Nat}(h:Lng w):ZX (tx w)=true:=by
 unfold ZX tx
 simp only[List.all_toArray,Q9,decide_eq_true_eq]
 intro c hc
 have:=h.sgn c hc
 omega
theorem zoj{w:List Nat}(h:Lng w):lenF [Z7 (tx w)]=some (.o (.int (w.length:Nat))):=zcx (Q4 h.len (by decide))
noncomputable def cutW(c:Nat)(t:List Nat):List (List Nat):=Classical.choose (zc4 c t)
section
variable (c : Nat) (t : List Nat)
theorem zki:cutW c t ≠ []:=(Jh (zc4 c t)).1
theorem zgk:zbe c (cutW c t)=t:=(Jh (zc4 c t)).2.1.symm
theorem zrv:∀ w ∈ cutW c t,c ∉ w:=(Jh (zc4 c t)).2.2.1
theorem zpc:∀ w ∈ cutW c t,w.length<=t.length/\∀ x ∈ w,x ∈ t:=(Jh (zc4 c t)).2.2.2.1
theorem zfw:(cutW c t).length<=t.length+1:=(Jh (zc4 c t)).2.2.2.2
theorem zim:0<(cutW c t).length:=Jw.mpr (zki c t)
theorem zk6:Yt (tx t) ⟨#[c]⟩=(cutW c t).map tx:=by
 have:=zh6 (zki c t) (zrv c t)
 rwa [zgk] at this
end
theorem zc3{c:Nat}{t:List Nat}(h:Lng t){w:List Nat}(hw:w ∈ cutW c t):Lng w:=⟨Q4 (zpc c t w hw).1 h.len,λx hx=>h.sgn x ((zpc c t w hw).2 x hx)⟩
theorem zgn(c:Nat)(t:List Nat):((Yt (tx t) ⟨#[c]⟩).map Z7)=(cutW c t).map λw => .str (tx w):=by rw[zk6,QB];rfl
def digB(w:List Nat):Bool:=w.all λc=>decide (48<=c) && decide (c<=57)
def zca(w:List Nat):Bool:=digB w && (decide (1<=w.length) && decide (w.length<=3)) && (decide (w = [48]) || !decide (w.head? = some 48))
def numT(n:Nat):List Nat:=(Nat.toDigits 10 n).map Char.toNat
theorem zbz:∀ n,n<1000->zca (numT n)=true/\(numT n).length<=3/\(∀ c ∈ numT n,48<=c/\c<58):=by decide +kernel
theorem zn6(n:Nat):Qp (toString ((n:Nat):Int))=tx (numT n):=zhh (by rw[zbd];exact PySem.W.KIN.signs_num n)
theorem zos{n:Nat}(h:n<1000):zjh [.str (tx (numT n))]=some (.o (.int (n:Nat))):=by
 obtain⟨_,h2,_⟩:=zbz n h
 show(if(tx (numT n)).length<=640 then(j6 (tx (numT n))).map λn=>R.o (.int n) else none)=_
 rw[zb4,if_pos (by omega),<- zn6,PySem.W.KIN.num_reads (by omega) (by omega)]
 rfl
def valW(w:List Nat):Nat:=w.foldl (λa c=>10 * a+(c - 48)) 0
theorem num1:∀ a:Fin 10,numT (valW [a.val+48]) = [a.val+48]:=by decide +kernel
theorem num2:∀ a b:Fin 10,a.val ≠ 0->numT (valW [a.val+48,b.val+48]) = [a.val+48,b.val+48]/\valW [a.val+48,b.val+48]<1000:=by decide +kernel
theorem z4p:∀ a b c:Fin 10,a.val ≠ 0->numT (valW [a.val+48,b.val+48,c.val+48]) = [a.val+48,b.val+48,c.val+48]/\valW [a.val+48,b.val+48,c.val+48]<1000:=by decide +kernel
theorem zy3{c:Nat}(h1:48<=c)(h2:c<=57):∃ a:Fin 10,c=a.val+48:=⟨⟨c - 48,by omega⟩,by show c=c - 48+48;omega⟩
theorem zd1{w:List Nat}(h:zca w=true):numT (valW w)=w/\valW w<1000:=by
 unfold zca at h
 simp only[Qv,JY,decide_eq_true_eq,JF,decide_eq_false_iff_not] at h
 obtain⟨⟨hd,h1,h3⟩,h0⟩:=h
 unfold digB at hd
 rw[Q9] at hd
 have hc:∀ c ∈ w,∃ a:Fin 10,c=a.val+48:=λc hc=>by
  have:=hd c hc
  simp only[Qv,decide_eq_true_eq] at this
  exact zy3 this.1 this.2
 match w,h1,h3,h0,hc with
 | [x],_,_,_,hc =>
   obtain⟨a,rfl⟩:=hc x (by simp)
   refine⟨num1 a,?_⟩
   show 10 * 0+(a.val+48 - 48)<1000
   have:=a.isLt
   omega
 | [x,y],_,_,h0,hc =>
   obtain⟨a,rfl⟩:=hc x (by simp)
   obtain⟨b,rfl⟩:=hc y (by simp)
   exact num2 a b λz=>by
    rcases h0 with h0|h0
    ·simp at h0
    ·simp[z] at h0
 | [x,y,u],_,_,h0,hc =>
   obtain⟨a,rfl⟩:=hc x (by simp)
   obtain⟨b,rfl⟩:=hc y (by simp)
   obtain⟨c,rfl⟩:=hc u (by simp)
   exact z4p a b c λz=>by
    rcases h0 with h0|h0
    ·simp at h0
    ·simp[z] at h0
 | _::_::_::_::_,_,h3,_,_=>simp at h3
theorem zkg{w:List Nat}(h:zca w=true):zjh [.str (tx w)]=some (.o (.int (valW w:Nat))):=by
 obtain⟨e,hl⟩:=zd1 h
 have:=zos hl
 rwa [e] at this
theorem zmv{n:Nat}(h:n<1000):valW (numT n)=n:=by
 have h1:=zos h
 rw[zkg (zbz n h).1] at h1
 have:=qQ (R.o.inj (Zy h1))
 omega
abbrev tsD(ws:List (List Nat)):List PyData:=ws.map λw => .str (tx w)
theorem z4l{ws:List (List Nat)}(h:∀ w ∈ ws,Lng w):Sl 1 (.tuple (tsD ws)):=zjr λw hw=>zeq (h w hw).ok
theorem zlt{neg:Bool}{a b:List Nat}(ha:Lng a)(hb:Lng b):eqF neg (.str (tx a)) (.str (tx b))=some (.o (.bool (if neg then !decide (a=b) else decide (a=b)))) :=
 zhs (zeq ha.ok) (zeq hb.ok) (by decide) (by rw[decide_eq_true_eq];exact⟨λe=>by rw[e],λe=>zi8 (qR e)⟩)
def totW(ws:List (List Nat)):Nat:=(ws.map λw=>w.length+1).sum
theorem za4(w:List Nat)(ws:List (List Nat)):totW (w::ws)=w.length+1+totW ws:=by unfold totW;rw[Q2,jb]
theorem zcu(a b:List (List Nat)):totW (a++b)=totW a+totW b:=by unfold totW;rw[QR,List.sum_append]
theorem zkf(w:List Nat):totW [w]=w.length+1:=rfl
theorem zoa(ws:List (List Nat))(k:Nat):totW (ws.take k)+totW (ws.drop k)=totW ws:=by rw[<- zcu,List.take_append_drop]
theorem ze1{c:Nat}:∀ {ws:List (List Nat)},ws ≠ []->(zbe c ws).length+1=totW ws
 | [],h=>absurd rfl h
 | [w],_=>by show w.length+1=_;rw[zkf]
 | w::y::r,_=>by
   rw[zbt (by simp),za4,<- ze1 (c:=c) (ws:=y::r) (by simp),Qg,Qm]
   omega
theorem zih{c:Nat}(ws:List (List Nat)):(zbe c ws).length<=totW ws:=by
 cases ws with
 | nil=>exact QH _
 | cons w ws=>have:=ze1 (c:=c) (ws:=w::ws) (by simp);omega
theorem zjx(c:Nat)(t:List Nat):totW (cutW c t)=t.length+1:=by
 have:=ze1 (c:=c) (zki c t)
 rw[zgk] at this
 exact this.symm
theorem glued(c:Nat):∀ (r:List (List Nat)) (acc:Array Nat),((r.map tx).foldl (λacc p=>acc++(⟨#[c]⟩:Yb).cps++p.cps) acc).toList=acc.toList++(r.map λw=>c::w).flatten
 | [],acc=>by simp
 | w::r,acc=>by
   rw[Q2,Jl,glued c r]
   simp[tx]
theorem zvh(c:Nat)(ws:List (List Nat)):J0 ⟨#[c]⟩ (ws.map tx)=tx (zbe c ws):=by
 cases ws with
 | nil=>rfl
 | cons x r =>
   refine zhh ?_
   rw[zbd,zjj]
   show((r.map tx).foldl (λacc p=>acc++(⟨#[c]⟩:Yb).cps++p.cps) (tx x).cps).toList=_
   rw[glued,zbd]
theorem zoo:∀ ws:List (List Nat),((ws.map tx).map (·.length)).sum+ws.length=totW ws
 | []=>rfl
 | w::ws=>by
   have:=zoo ws
   rw[Q2,Q2,jb,Qm,za4,zb4]
   omega
theorem zj6{c:Nat}{ws:List (List Nat)}(hz:totW ws<=16777216) :
 ∃ ys:List Yb,JI (tsD ws) = .list (ys.map .str)/\(ys.map (·.length)).sum+ys.length * (⟨#[c]⟩:Yb).length<=16777216/\J0 ⟨#[c]⟩ ys=tx (zbe c ws):=by
 refine⟨ws.map tx,by rw[QB];rfl,?_,zvh c ws⟩
 rw[show(⟨#[c]⟩:Yb).length=1 from rfl,Nat.mul_one,Qb,zoo]
 exact hz
theorem znj{c x:Nat}:∀ {ws:List (List Nat)},x ∈ zbe c ws->x=c\/∃ w ∈ ws,x ∈ w
 | [],h=>(QG h).elim
 | [w],h => .inr ⟨w,by simp,h⟩
 | w::y::r,h=>by
   rw[zbt (by simp)] at h
   rcases Q6.mp h with z|z
   ·exact .inr ⟨w,by simp,z⟩
   ·rcases Qt.mp z with z|z
    ·exact .inl z
    ·rcases znj z with e|⟨v,hv,hx⟩
     ·exact .inl e
     ·exact .inr ⟨v,Qe _ hv,hx⟩
theorem zno{c:Nat}{ws:List (List Nat)}(hc:c<128)(hl:totW ws<=100000)(h:∀ w ∈ ws,∀ x ∈ w,x<128):Lng (zbe c ws):=⟨Q4 (zih ws) hl,λx hx=>by
 rcases znj hx with rfl|⟨w,hw,hx⟩
 ·exact hc
 ·exact h w hw x hx⟩
def cds(s:String):List Nat:=(Qp s).cps.toList
theorem zqx(s:String):Qp s=tx (cds s):=zhh (by rw[zbd];rfl)
def zqs(w:List Nat):Bool:=w.all λc=>decide (c<128)
theorem zl4{w:List Nat}(h:zqs w=true):∀ c ∈ w,c<128:=λc hc=>of_decide_eq_true (Q9.mp h c hc)
abbrev litD(ss:List String):List PyData:=ss.map λs => .str (Qp s)
theorem z0q{ss:List String}{k m:Nat}(h:k<ss.length)(p:(ss.all λs=>zqs (cds s) && decide ((cds s).length<=m))=true):∃ x,idxF (.list (litD ss)) (.int (k:Nat))=some (.o (.str (tx x)))/\x.length<=m/\∀ c ∈ x,c<128:=by
 have q:=Q9.mp p _ (QL h)
 obtain⟨a,b⟩:=Yw.mp q
 refine⟨cds ss[k],?_,of_decide_eq_true b,zl4 a⟩
 rw[<- zqx]
 exact zfj (by rw[Qy,Ql h];rfl)
inductive Deed where
 | go
 | send (l c:Nat)
 | take (l c:Nat)
 | empty (l:Nat)
 | put (f v:Nat)
 | test (f v:Nat)
deriving DecidableEq
def zv9:Deed->PyData
 | .go => .tuple [.str "go"]
 | .send l c => .tuple [.str "send", .int l,.str (tx [c])]
 | .take l c => .tuple [.str "take", .int l,.str (tx [c])]
 | .empty l => .tuple [.str "empty", .int l]
 | .put f v => .tuple [.str "set", .int f,.int v]
 | .test f v => .tuple [.str "if", .int f,.int v]
structure Rul where
 p:Nat
 d:Deed
 q:Nat
def zi9(r:Rul):PyData := .tuple [.int r.p,zv9 r.d,.int r.q]
structure Hnd where
 n:Nat
 rs:List Rul
def zb7(h:Hnd):PyData := .tuple [.int h.n,.tuple (h.rs.map zi9)]
structure Hou where
 ls:List Nat
 lines:Nat
 flags:Nat
 hands:List Hnd
def zbs(h:Hou):PyData := .tuple [.str (tx h.ls),.int h.lines,.int h.flags,.tuple (h.hands.map zb7)]
abbrev nD(n:Nat):PyData := .int (n:Nat)
abbrev wD(w:List Nat):PyData := .str (tx w)
structure Sta where
 rooms:List Nat
 flags:List Nat
 words:List (List Nat)
def zaq(s:Sta):PyData := .tuple [.tuple (s.rooms.map nD),.tuple (s.flags.map nD),.tuple (s.words.map wD)]
def DeOk(ls:List Nat)(l f:Nat):Deed->Prop
 | .go=>True
 | .send i c=>i<l/\c ∈ ls
 | .take i c=>i<l/\c ∈ ls
 | .empty i=>i<l
 | .put i v=>i<f/\v<2
 | .test i v=>i<f/\v<2
structure HoOk (h:Hou):Prop where
 low:LowW h.ls
 ne:h.ls ≠ []
 short:h.ls.length<=100
 lines:h.lines<=100
 flags:h.flags<=100
 many:h.hands.length<=100
 pos:∀ x ∈ h.hands,0<x.n/\x.n<=100
 rules:∀ x ∈ h.hands,x.rs.length<=100/\∀ r ∈ x.rs,DeOk h.ls h.lines h.flags r.d/\r.p<=100/\r.q<=100
theorem zj0{a b:List PyData}(h:a.length+b.length<=16777216):addF (.tuple a) (.tuple b)=some (.o (.tuple (a++b))):=by
 show(if a.length+b.length<=sizeLine then some (R.o (.tuple (a++b))) else none)=_
 rw[if_pos (by rw[sizeLine_eq];exact h)]
theorem zkd{α:Type}{xs:List α}{i:Nat}{z:α}(h:i<xs.length):xs[i]? = some (xs.getD i z):=by
 rw[Jf,Ql h]
 rfl
theorem zh0(a b:Nat):decide ((a:Int)=(b:Int))=decide (a=b):=by
 by_cases h:a=b
 ·rw[decide_eq_true h,decide_eq_true (congrArg _ h)]
 ·rw[decide_eq_false h];exact decide_eq_false λz=>h (Int.ofNat_inj.mp z)
theorem ztc(a b:Nat):eqF false (.int (a:Nat)) (.int (b:Nat))=some (.o (.bool (decide (a=b)))):=by
 rw[zei,if_neg Qn,zh0]
theorem zt5{α:Type}{xs:List α}{i:Nat}{z:α}(h:i<xs.length):xs.getD i z ∈ xs:=Zn (zkd h)
theorem zfk{α:Type}(xs:List α)(lo hi:Option Int):(cutL xs lo hi).length<=xs.length:=by
 unfold cutL
 rw[Qz,QD]
 omega
theorem zof{α:Type}[DecidableEq α]:∀ {zs ys:List α},zs.Nodup->(∀ k ∈ zs,k ∈ ys)->zs.length<=ys.length
 | [],_,_,_=>QH _
 | z::zs,ys,nd,h=>by
   have n1:=Jk.mp nd
   have hz:z ∈ ys:=h z Qj
   have:=zof (zs:=zs) (ys:=ys.erase z) n1.2 λk hk=>(jA (λ(e:k=z)=>n1.1 (by rw[<- e];exact hk))).mpr (h k (Qe _ hk))
   rw[jd hz] at this
   have:=jr hz
   rw[Qm]
   omega
theorem zo7:∀ {zs:List Yb} {cs:List Nat},(∀ z ∈ zs,∃ c ∈ cs,z=tx [c])->∃ ls:List Nat,zs=ls.map (λc=>tx [c])/\∀ c ∈ ls,c ∈ cs
 | [],_,_=>⟨[],rfl,λ_ h=>nomatch h⟩
 | z::zs,cs,h=>by
   obtain⟨c,hc,rfl⟩:=h z Qj
   obtain⟨ls,rfl,hl⟩:=zo7 (zs:=zs) (cs:=cs) λx hx=>h x (Qe _ hx)
   exact⟨c::ls,rfl,λx hx=>by
    rcases Qt.mp hx with rfl|hx
    ·exact hc
    ·exact hl x hx⟩
theorem ze5{α β:Type}{enc:α->PyData}{enc2:β->PyData}{good:β->Prop}{i h:Nat}{fe:DE}{ρ:DSt}{Q:List PyData->Prop}{as:List α}
 (step:∀ a ∈ as,∀ (Py:PyData->Prop),(∀ b,good b->Py (enc2 b))->fe ((Qf h none++ρ).set i (some (.im (enc a)))) (λr=>Py r.d))
 (hz:as.length<=1000) (q:∀ bs:List β,(∀ b ∈ bs,good b)->bs.length=as.length->Q (bs.map enc2)):za3 h (gN i) (λ_ Q=>Q true) fe ρ Q (as.map enc) []:=by
 have sz:=sizeLine_eq
 have key:∀ (l:List α) (bs:List β),(∀ a ∈ l,a ∈ as)->(∀ b ∈ bs,good b)->bs.length+l.length=as.length->za3 h (gN i) (λ_ Q=>Q true) fe ρ Q (l.map enc) (bs.map enc2):=by
  intro l
  induction l with
  | nil=>intro bs _ hb hl;exact q bs hb hl
  | cons a l ih =>
    intro bs hs hb hl
    rw[Qm] at hl
    refine iteT (B:=True) (step a (hs a Qj) (λd=>(bs.map enc2).length<sizeLine/\za3 h (gN i) (λ_ Q=>Q true) fe ρ Q (l.map enc) (bs.map enc2 ++ [d])) λb gb=>⟨by rw[Qb];omega,?_⟩)
    have:=ih (bs ++ [b]) (λx hx=>hs x (Qe _ hx)) (λx hx=>by rcases Q6.mp hx with hx|hx; (exact hb x hx); (rw[Q3.mp hx];exact gb)) (by rw[Qg,Zq];omega)
    rwa [QR] at this
 exact key as [] (λ_ h=>h) (by simp) (by simp)
theorem zot(r:Rul):flat (zi9 r)=true:=by
 obtain⟨p,d,q⟩:=r
 cases d <;> rfl
theorem zhq(h:Hnd):flat (zb7 h)=true:=by
 show(true && (flats (h.rs.map zi9) && true))=true
 rw[zal zot]
 rfl
def RuOk(ls:List Nat)(l f:Nat)(r:Rul):Prop:=DeOk ls l f r.d/\r.p<=100/\r.q<=100
def HdOk(ls:List Nat)(l f:Nat)(x:Hnd):Prop:=(0<x.n/\x.n<=100)/\x.rs.length<=100/\∀ r ∈ x.rs,RuOk ls l f r
theorem zly{α:Type}{P:α->Prop}{xs:List α}{a:α}(h:∀ x ∈ xs,P x)(ha:P a):∀ x ∈ xs ++ [a],P x:=λx hx=>by
 rcases Q6.mp hx with hx|hx
 ·exact h x hx
 ·rw[Q3.mp hx];exact ha
def zv0:List PyData->(R->Prop)->Prop:=λds Q=>∃ (ls:List Nat) (l f:Nat),ds = [.str (tx ls),.int (l:Nat),.int (f:Nat)]/\ls ≠ []/\ls.length<=100/\0<l/\l<=100/\f<=100/\∀ d,DeOk ls l f d->Q (.o (zv9 d))
def zmz:List PyData->(R->Prop)->Prop:=λds Q=>∃ (ls:List Nat) (n:Nat),ds = [.str (tx ls),.int (n:Nat)]/\ls ≠ []/\ls.length<=100/\n<=50/\∀ w:List Nat,(∀ c ∈ w,c ∈ ls)->w.length<=n->Q (.o (.str (tx w)))
theorem zxa{α:Type}{xs:List α}{j:Nat}{x:α}(h:xs[j]? = some x):xs.drop j=x::xs.drop (j+1):=by
 obtain⟨hj,rfl⟩:=Qs.mp h
 exact Zm hj
theorem zek(w:List Nat):flat (wD w)=true:=rfl
theorem zbh(s:Sta):flats [.tuple (s.rooms.map nD),.tuple (s.flags.map nD),.tuple (s.words.map wD)]=true:=by
 show(flats _ && (flats _ && (flats _ && true)))=true
 rw[zal (λ_=>rfl),zal (λ_=>rfl),zal zek]
 rfl
def Al:Nat->PyData->Prop
 | 0,_=>False
 | _+1,.int _=>True
 | _+1,.str x=>ZX x=true
 | m+1,.tuple ds=>ds.length<=100000/\flats ds=true/\∀ d ∈ ds,Al m d
 | _+1,_=>False
def zln(m:Nat):List PyData->(R->Prop)->Prop:=λds Q=>∃ d,ds = [d,d]/\Al m d/\Q (.o (.bool true))
theorem zqd{ds:List PyData}{Q:R->Prop}(h:zln 0 ds Q):False:=by
 obtain⟨d,_,h,_⟩:=h
 cases d <;> exact h
theorem zo4(h:Hou):flat (zbs h)=true:=by
 show(true && (true && (true && (flats (h.hands.map zb7) && true))))=true
 rw[zal zhq]
 rfl
section
variable {ι κ : Type} {P : Program} {w : World} {K : Qa} {mg : Str → Option Value} {base : Heap} {k : Nat} {X : ι → Cx} {O : κ → Ob} {a b c : Expr} {fa fb fc : DE} {pos p : Pos}
theorem z4t(ha:E3 K X O a fa)(hb:E3 K X O b fb)(hc:E3 K X O c fc)(hm:lastMarks [.LtE,.Lt] [b,c]=false:=by with_unfolding_all rfl):E3 K X O (.Compare a [.LtE,.Lt] [b,c] pos) (chD (fn2 (intF λi j => .bool (decide (i<=j)))) (fn2 (intF λi j => .bool (decide (i<j)))) fa fb fc) :=
 zkh (λi=>zpp) (λi=>zp7) (λ_=>zl8) (λ_=>zri) ha hb hc hm
end
def zp6:Option DV->Bool
 | some (.own _)=>true
 | some (.dct _)=>true
 | some (.gen _ _)=>true
 | some (.thg _)=>true
 | _=>false
theorem zrt{ρ:DSt}(h:∀ o ∈ ρ,zp6 o=false):zls ρ:=by
 refine⟨λi ds e=>?_,λi ks e=>?_,λi f ds e=>?_,λi T e=>?_⟩ <;>
 ·have:=h _ (Zn e)
  cases this
def NoA:DSt->Prop
 | []=>True
 | o::r=>zp6 o=false/\NoA r
theorem zfs:∀ {ρ:DSt},NoA ρ->zls ρ:=λ{ρ} h=>zrt (by
 have go:∀ l:DSt,NoA l->∀ o ∈ l,zp6 o=false:=by
  intro l
  induction l with
  | nil=>intro _ o ho;exact(QG ho).elim
  | cons a l ih =>
    intro hl o ho
    rcases Qt.mp ho with rfl|ho
    ·exact hl.1
    ·exact ih hl.2 o ho
 exact go ρ h)
def zrp:List PyData->(R->Prop)->Prop:=λds Q=>∃ i n:Int,ds = [.int i,.int n]/\Q (.o (.bool (decide (0<=i) && decide (i<n))))
end L3
namespace HK
open PySem PySem.Spec PyProof.Rows PySem.SetTable SX
noncomputable instance:DecidableEq PyData:=λa b=>Classical.propDecidable (a=b)
end HK
namespace L3
open PySem PySem.Spec
open PyProof.Rows hiding St
open L2
theorem zrh(ls:List Nat)(c:Nat)(neg:Bool):inF neg (.str (tx [c])) (.str (tx ls))=some (.o (.bool (if neg then !decide (c ∈ ls) else decide (c ∈ ls)))):=by
 have:=StrLaws.found_one (tx ls) c
 rw[zbd,show(⟨#[c]⟩:Yb)=tx [c] from rfl] at this
 show some (R.o (.bool (if neg then !(!(QE (tx ls) (tx [c]) 0 (tx ls).length 1).isEmpty) else !(QE (tx ls) (tx [c]) 0 (tx ls).length 1).isEmpty)))=_
 rw[this]
structure HouGood (h:Hou):Prop where
 ok:HoOk h
 rise:h.ls.Pairwise (· < ·)
 l3:h.ls.length<=3
 lines0:1<=h.lines
 lines:h.lines<=2
 flags:h.flags<=2
 hands0:1<=h.hands.length
 hands:h.hands.length<=2
 rooms:∀ x ∈ h.hands,1<=x.n/\x.n<=3/\x.rs.length<=5/\∀ r ∈ x.rs,r.p<x.n/\r.q<x.n
def zn4:List PyData->(R->Prop)->Prop:=λds Q=>∃ n:Nat,ds = [.int (n:Nat)]/\n<=5/\∀ h,HouGood h->Q (.o (zbs h))
def zo3:List PyData->(R->Prop)->Prop:=λds Q=>∃ n:Nat,ds = [.int (n:Nat)]/\0<n/\n<=26/\∀ ls:List Nat,LowW ls->ls ≠ []->ls.length<=n->ls.Pairwise (· < ·)->Q (.o (.str (tx ls)))
theorem zmp{α:Type}{xs:List α}{lo hi:Option Int}{x:α}(h:x ∈ cutL xs lo hi):x ∈ xs:=Zu (Zv h)
def WsOk(ws:List (List Nat)):Prop:=0<ws.length/\ws.length<=100001/\∀ w ∈ ws,Lng w
def zl0:List PyData->(R->Prop)->Prop:=λds Q=>∃ w:List Nat,ds = [.str (tx w)]/\Lng w/\Q (.o (.bool (zca w)))
theorem ztq{ws:List (List Nat)}{i:Nat}(h:i<ws.length):idxF (.list (tsD ws)) (.int (i:Nat))=some (.o (.str (tx (ws.getD i [])))):=zfj (by
 rw[Qy,zkd (z := []) h];rfl)
theorem zsz(ws:List (List Nat)):lenF [JI (tsD ws)]=some (.o (.int (ws.length:Nat))):=by
 show some (R.o (.int ((tsD ws).length:Nat)))=_
 rw[Qb]
theorem lng1(c:Nat)(h:c<128:=by decide):Lng [c]:=⟨j2 rfl,λd hd=>by rw[Q3.mp hd];exact h⟩
theorem zb3{w v:List Nat}{neg:Bool}{x:String}(e:Qp x=tx v)(h:Lng w)(hv:Lng v):eqF neg (.str (tx w)) (.str (Qp x))=some (.o (.bool (if neg then !decide (w=v) else decide (w=v)))):=by
 rw[e];exact zlt h hv
theorem zez:Qp " " = ⟨#[32]⟩:=by decide +kernel
theorem zh3{k:Nat}(h:k<1000):strF [.int (k:Nat)]=some (.o (.str (tx (numT k)))):=by
 show(if((k:Nat):Int).natAbs.log2<1920 then some (R.o (.str (Qp (toString ((k:Nat):Int))))) else none)=_
 rw[if_pos,zn6]
 rw[Int.natAbs_natCast]
 exact Nat.lt_of_le_of_lt (Nat.log2_le_self k) (by omega)
theorem zr3{k:Nat}(h:k<1000):(numT k).length<=3/\∀ c ∈ numT k,c<128:=⟨(zbz k h).2.1,λc hc=>by have:=(zbz k h).2.2 c hc;omega⟩
theorem zxo{ws:List (List Nat)}{m:Nat}(h:∀ w ∈ ws,w.length<=m):totW ws<=ws.length * (m+1):=by
 induction ws with
 | nil=>exact QH _
 | cons w ws ih =>
   rw[za4,Qm,qc]
   have h1:=h w Qj
   have h2:=ih λx hx=>h x (Qe _ hx)
   omega
mutual
inductive Ow (K:Qa) (H:Hp):V->PyData->List Addr->Prop
 | leaf {v d}:flat d=true->Is K (λ_=>False) H v d->Ow K H v d []
 | list {a xs ds as}:H a=some (.lst xs)->OwAll K H xs ds as->Ow K H (.ref a) (.list ds) (a::as)
 | tuple {a xs ds as}:H a=some (.tup xs)->OwAll K H xs ds as->Ow K H (.ref a) (.tuple ds) as
inductive OwAll (K:Qa) (H:Hp):List V->List PyData->List Addr->Prop
 | nil:OwAll K H [] [] []
 | cons {v vs d ds as bs}:Ow K H v d as->OwAll K H vs ds bs->OwAll K H (v::vs) (d::ds) (as++bs)
end
section
variable {prog : Program} {w : World} {A : Around} {E : Value → Shared → Prop} {s : Shared}
theorem zkj{it t:Addr}{i:Nat}{zs:Array Value}{x:Value}{Q:Value->Shared->Prop}(st:s.heap.IsTupleIter it t i)(tp:s.heap.IsTuple t zs)(hv:zs[i]? = some x)(k:∀ h',h'.IsTupleIter it t (i+1)->ZW it s.heap h'->Q x { s with heap:=h' }) :
 wpAny (model prog w) A (QK (.ref it)) Q E s:=by
 obtain⟨o,eo,co,dv⟩:=id st
 obtain⟨u,eu,_,m,du⟩:=tp
 unfold QK;refine wpAny_bind (wpAny_callSpecial?_slot (name:=Qp "__next__") st.typeIs Jg (wpAny_call_entry Jg st.typeIs YC ?_ (Y3 _)))
 refine wpAny_bind (m:=field (.ref it) 0) (wpAny_field eo dv (x := .ref t) rfl ?_)
 have ne:¬ ((QC t == Zh)=true):=Qn
 show wpAny _ _ (if(QC t == Zh)=true then _ else _) _ _ s;rw[if_neg ne]
 refine wpAny_bind (m:=field (.ref it) 1) (wpAny_field eo dv (x := .int i 0) rfl ?_)
 refine wpAny_bind (m:=seqItems? (.ref t)) (wpAny_seqItems eu du ?_)
 simp only[qm,hv]
 refine wpAny_bind (wpAny_setField eo dv (by simp) (wpAny_pure ⟨x,rfl,wpAny_pure (k _ ⟨_,Zj _ eo (ZM (J7 dv _)),(qe ..).trans co,?_⟩ (jJ ..))⟩))
 rw[J7 dv]
 simp[rawInt]
theorem znx{Q:Fin->Shared->Prop}(hh:A.in1.handled=none)(k:∀ h' e,(∀ c o,s.heap.get? c=some o->h'.get? c=some o)->(∃ o,h'.get? e=some o/\o.cls = .type "StopIteration")->E (.ref e) { s with heap:=h' }) :
 wpAny (model prog w) A.in1 (newExc (.type "StopIteration") []) (λa s'=>wpAny (model prog w) A.in1 (raiseNew a) Q E s') E s:=by
 simp only[newExc,newTuple];refine wpAny_bind (wpAny_newObj_type ?_ (by size_fits))
 refine wpAny_bind (m:=firstArgMember _ _) (wpAny_of_eq (a:=Zh) (by simp only[firstArgMember];rfl) (wpAny_newObj_type ?_ (by size_fits)))
 simp only[raiseNew];refine wpAny_bind (wpAny_handled ?_);rw[hh]
 exact wpAny_bind (wpAny_pure (wpAny_throw (k _ _ (λc o e=>Qc _ (Qc _ e)) ⟨_,Qq _ rfl,rfl⟩)))
theorem ztg{it t:Addr}{i:Nat}{zs:Array Value}{Q:Value->Shared->Prop}(hh:A.handled=none)(st:s.heap.IsTupleIter it t i)(tp:s.heap.IsTuple t zs)(hv:zs[i]? = none)
 (k:∀ h' e,Heap.ExtBut it s.heap h'->(∃ o,h'.get? e=some o/\o.cls = .type "StopIteration")->E (.ref e) { s with heap:=h' }):wpAny (model prog w) A (QK (.ref it)) Q E s:=by
 obtain⟨o,eo,co,dv⟩:=id st
 obtain⟨u,eu,_,m,du⟩:=tp
 unfold QK;refine wpAny_bind (wpAny_callSpecial?_slot (name:=Qp "__next__") st.typeIs Jg (wpAny_call_entry Jg st.typeIs YC ?_ (Y3 _)))
 refine wpAny_bind (m:=field (.ref it) 0) (wpAny_field eo dv (x := .ref t) rfl ?_)
 have ne:¬ ((QC t == Zh)=true):=Qn
 show wpAny _ _ (if(QC t == Zh)=true then _ else _) _ _ s;rw[if_neg ne]
 refine wpAny_bind (m:=field (.ref it) 1) (wpAny_field eo dv (x := .int i 0) rfl ?_)
 refine wpAny_bind (m:=seqItems? (.ref t)) (wpAny_seqItems eu du ?_)
 simp only[qm,hv]
 refine wpAny_bind (wpAny_rule (wpAny_bind (wpAny_setField eo dv (by simp) ?_)))
 refine wpAny_bind (znx hh λh' e up ex=>?_)
 exact k h' e (λc o' cn q=>up c o' ((jJ ..).extBut c o' cn q)) ex
def SIt:Bool->Heap->Addr->Addr->Nat->Prop
 | true,h,it,l,k=>h.IsListIter it l k
 | false,h,it,l,k=>h.IsTupleIter it l k
def SSq:Bool->Heap->Addr->Array Value->Prop
 | true,h,l,xs=>h.IsList l xs
 | false,h,l,xs=>h.IsTuple l xs
theorem SIt.at{b:Bool}{h h':Heap}{it l:Addr}{k:Nat}(S:SIt b h it l k)(up:∀ o,h.get? it=some o->h'.get? it=some o):SIt b h' it l k:=by
 cases b
 ·exact Heap.IsTupleIter.at S up
 ·exact Heap.IsListIter.at S up
theorem SSq.at{b:Bool}{h h':Heap}{l:Addr}{xs:Array Value}(S:SSq b h l xs)(up:∀ o,h.get? l=some o->h'.get? l=some o):SSq b h' l xs:=by
 cases b
 ·exact Heap.IsTuple.at S up
 ·exact Heap.IsList.at S up
theorem SIt.obj{b:Bool}{h:Heap}{it l:Addr}{k:Nat}(S:SIt b h it l k):∃ o,h.get? it=some o/\o.data = .fields #[.ref l,.int k 0]:=by
 cases b
 ·obtain⟨o,e,_,f⟩:=S;exact⟨o,e,f⟩
 ·obtain⟨o,e,_,f⟩:=S;exact⟨o,e,f⟩
theorem zya{b:Bool}{it t:Addr}{i:Nat}{zs:Array Value}{x:Value}{Q:Value->Shared->Prop}(st:SIt b s.heap it t i)(tp:SSq b s.heap t zs)(hv:zs[i]? = some x)(k:∀ h',SIt b h' it t (i+1)->ZW it s.heap h'->Q x { s with heap:=h' }) :
 wpAny (model prog w) A (QK (.ref it)) Q E s:=by
 cases b
 ·exact zkj st tp hv k
 ·exact wpAny_nextOf_list_item st tp hv k
theorem z3l{b:Bool}{it t:Addr}{i:Nat}{zs:Array Value}{Q:Value->Shared->Prop}(hh:A.handled=none)(st:SIt b s.heap it t i)(tp:SSq b s.heap t zs)(hv:zs[i]? = none)
 (k:∀ h' e,Heap.ExtBut it s.heap h'->(∃ o,h'.get? e=some o/\o.cls = .type "StopIteration")->E (.ref e) { s with heap:=h' }):wpAny (model prog w) A (QK (.ref it)) Q E s:=by
 cases b
 ·exact ztg hh st tp hv k
 ·exact wpAny_nextOf_list_end hh st tp hv k
structure ZS (b2:Bool) (h:Heap) (z p r i1 i2 l1 l2:Addr) (k:Nat) (xs ys:Array Value) (out:Value):Prop where
 zz:IsZip h z p r out
 pp:IsPair h p (.ref i1) (.ref i2)
 rr:∃ a b,IsPair h r a b
 a1:h.IsTupleIter i1 l1 k
 a2:SIt b2 h i2 l2 k
 t1:h.IsTuple l1 xs
 t2:SSq b2 h l2 ys
theorem zyp{b2:Bool}{z p r i1 i2 l1 l2:Addr}{k:Nat}{xs ys:Array Value}{x y:Value}{Q:Value->Shared->Prop}(D:ZipApart z p r i1 i2 l1 l2)(S:ZS b2 s.heap z p r i1 i2 l1 l2 k xs ys .none)(hx:xs[k]? = some x)(hy:ys[k]? = some y)
 (q:∀ h',ZS b2 h' z p r i1 i2 l1 l2 (k+1) xs ys (rawInt s.heap.objs.size)->IsPair h' s.heap.objs.size x y->(∀ c o,c ≠ z->c ≠ r->c ≠ i1->c ≠ i2->s.heap.get? c=some o->h'.get? c=some o)->Q (.ref s.heap.objs.size) { s with heap:=h' }) :
 wpAny (model prog w) A (Builtin.«zip.__next__» ⟨[.ref z],[]⟩) (λfin s'=>∃ v,fin = .done (.ret v)/\Q v s') E s:=by
 obtain⟨Z,P,⟨a,b,R⟩,A1,A2,T1,T2⟩:=S
 refine wpAny_bind (m:=field (.ref z) 2) (wpAny_field Z rfl (x := .bool false) rfl ?_)
 refine wpAny_bind (m:=field (.ref z) 3) (wpAny_field Z rfl (x := .ref p) rfl (wpAny_bind (wpAny_seqItems P rfl ?_)))
 refine wpAny_bind (m:=ZC (.ref z)) ?_
 unfold ZC;refine wpAny_bind (wpAny_field Z rfl (x := .none) rfl (wpAny_pure ?_));simp only[if_true]
 refine wpAny_bind (wpAny_rule (wpAny_bind (wpAny_field Z rfl (x := .ref r) rfl (wpAny_bind (wpAny_setField_rec Z (by simp) λha Za sa=>?_)))))
 replace Za:IsZip ha z p r .ellipsis:=Za
 refine wpAny_bind ?_;simp only[jk,qI,JV,Yi]
 have A1a:=A1.at λo e=>sa.extBut _ o D.i1z e
 have A2a:=A2.at λo e=>sa.extBut _ o D.i2z e
 refine wpAny_bind (wpAny_bind (wpAny_onRaise (wpAny_bind (m:=QK (.ref i1)) (zkj A1a (T1.at λo e=>sa.extBut _ o D.l1z e) hx λhb A1b sb=>wpAny_pure ?_))))
 have Rb:IsPair hb r a b:=sb.extBut _ _ D.TOi1 (sa.extBut _ _ D.TOz R)
 refine wpAny_bind (wpAny_seqItems Rb rfl (wpAny_bind (wpAny_updateSeq_pair Rb λhc Rc sc=>?_)))
 replace Rc:IsPair hc r x b:=Rc
 refine wpAny_bind (wpAny_letGo (wpAny_pure ?_))
 have A2c:=(A2a.at λo e=>sb.extBut _ o D.i12.symm e).at λo e=>sc.extBut _ o D.TOi2.symm e
 have T2c:=((T2.at λo e=>sa.extBut _ o D.l2z e).at λo e=>sb.extBut _ o D.l2i1 e).at λo e=>sc.extBut _ o D.l2TO e
 refine wpAny_bind (wpAny_bind (wpAny_onRaise (wpAny_bind (m:=QK (.ref i2)) (zya A2c T2c hy λhd A2d sd=>wpAny_pure ?_))))
 have Rd:IsPair hd r x b:=sd.extBut _ _ D.TOi2 Rc
 refine wpAny_bind (wpAny_seqItems Rd rfl (wpAny_bind (wpAny_updateSeq_pair Rd λhe Re se=>?_)))
 replace Re:IsPair he r x y:=Re
 refine wpAny_bind (wpAny_letGo (wpAny_pure (wpAny_pure (wpAny_bind (wpAny_seqItems Re rfl (wpAny_bind (wpAny_newTuple ?_)))))))
 have sz5:he.objs.size=s.heap.objs.size:=by rw[se.1,sd.1,sc.1,sb.1,sa.1]
 have up:∀ c o,c ≠ z->c ≠ r->c ≠ i1->c ≠ i2->s.heap.get? c=some o->he.get? c=some o:=λc o n1 n2 n3 n4 e=>se.extBut _ _ n2 (sd.extBut _ _ n4 (sc.extBut _ _ n2 (sb.extBut _ _ n3 (sa.extBut _ _ n1 e))))
 have Ze:IsZip he z p r .ellipsis:=se.extBut _ _ D.TOz.symm (sd.extBut _ _ D.i2z.symm (sc.extBut _ _ D.TOz.symm (sb.extBut _ _ D.i1z.symm Za)))
 refine wpAny_bind (m:=JP (.ref z) (.ref he.objs.size)) ?_
 unfold JP
 have zl:=Qk Ze
 refine wpAny_bind (wpAny_setField_rec (Qc _ Ze) (by simp) λhf Zf sf=>?_)
 replace Zf:IsZip hf z p r (rawInt he.objs.size):=Zf
 refine wpAny_setField_rec Zf (by simp) λhg Zg sg=>wpAny_pure ⟨_,rfl,?_⟩
 have top:∀ c o,c ≠ z->he.get? c=some o->hg.get? c=some o:=λc o n e=>sg.extBut _ _ n (sf.extBut _ _ n (Qc _ e))
 have pr:IsPair hg he.objs.size x y:=sg.extBut _ _ (J5 zl) (sf.extBut _ _ (J5 zl) (Qq _ rfl))
 show Q (.ref he.objs.size) _
 rw[sz5] at pr Zg ⊢
 refine q hg ⟨Zg,top _ _ D.TIz (up _ _ D.TIz D.TITO D.TIi1 D.TIi2 P),⟨x,y,top _ _ D.TOz Re⟩,?_,?_,T1.at λo e=>top _ o D.l1z (up _ o D.l1z D.l1TO D.l1i1 D.l1i2 e),T2.at λo e=>top _ o D.l2z (up _ o D.l2z D.l2TO D.l2i1 D.l2i2 e)⟩ pr λc o n1 n2 n3 n4 e=>top c o n1 (up c o n1 n2 n3 n4 e)
 ·exact(((A1b.at λo e=>sc.extBut _ o D.TOi1.symm e).at λo e=>sd.extBut _ o D.i12 e).at λo e=>se.extBut _ o D.TOi1.symm e).at λo e=>top _ o D.i1z e
 ·exact(A2d.at λo e=>se.extBut _ o D.TOi2.symm e).at λo e=>top _ o D.i2z e
theorem z3j{b2:Bool}{z p r i1 i2 l1 l2:Addr}{k:Nat}{xs ys:Array Value}{Q:Fin->Shared->Prop}(hh:A.handled=none)(D:ZipApart z p r i1 i2 l1 l2)(S:ZS b2 s.heap z p r i1 i2 l1 l2 k xs ys .none)(he:xs[k]? = none\/ys[k]? = none)
 (q:∀ h' e,(∀ c o,c ≠ z->c ≠ r->c ≠ i1->c ≠ i2->s.heap.get? c=some o->h'.get? c=some o)->(∃ o,h'.get? e=some o/\o.cls = .type "StopIteration")->E (.ref e) { s with heap:=h' }) :
 wpAny (model prog w) A (Builtin.«zip.__next__» ⟨[.ref z],[]⟩) Q E s:=by
 obtain⟨Z,P,⟨a,b,R⟩,A1,A2,T1,T2⟩:=S
 refine wpAny_bind (m:=field (.ref z) 2) (wpAny_field Z rfl (x := .bool false) rfl ?_)
 refine wpAny_bind (m:=field (.ref z) 3) (wpAny_field Z rfl (x := .ref p) rfl (wpAny_bind (wpAny_seqItems P rfl ?_)))
 refine wpAny_bind (m:=ZC (.ref z)) ?_
 unfold ZC;refine wpAny_bind (wpAny_field Z rfl (x := .none) rfl (wpAny_pure ?_));simp only[if_true]
 refine wpAny_bind (wpAny_rule (wpAny_bind (wpAny_field Z rfl (x := .ref r) rfl (wpAny_bind (wpAny_setField_rec Z (by simp) λha Za sa=>?_)))))
 replace Za:IsZip ha z p r .ellipsis:=Za
 refine wpAny_bind ?_;simp only[jk,qI,JV,Yi]
 have A1a:=A1.at λo e=>sa.extBut _ o D.i1z e
 have A2a:=A2.at λo e=>sa.extBut _ o D.i2z e
 have T1a:=T1.at λo e=>sa.extBut _ o D.l1z e
 have off:∀ {hc:Heap} {e:Addr} {oe:Obj},IsZip hc z p r .ellipsis->hc.get? e=some oe->oe.cls = .type "StopIteration" -> e ≠ z:=λZc g c x=>by subst x;rw[Zc] at g;cases g;simp at c
 cases hx:xs[k]? with
 | none =>
   refine wpAny_bind (wpAny_bind (wpAny_onRaise (wpAny_bind (m:=QK (.ref i1)) (ztg hh A1a T1a hx λhb e sb ⟨oe,ge,ce⟩=>?_))))
   have Zb:IsZip hb z p r .ellipsis:=sb _ _ D.i1z.symm Za
   exact wpAny_setField_rec Zb (by simp) λhc _ sc=>q hc e (λc o n1 _ n3 _ g=>sc.extBut _ _ n1 (sb _ _ n3 (sa.extBut _ _ n1 g))) ⟨oe,sc.extBut _ _ (off Zb ge ce) ge,ce⟩
 | some x =>
   have hy:ys[k]? = none:=he.resolve_left λz=>by rw[hx] at z;cases z
   refine wpAny_bind (wpAny_bind (wpAny_onRaise (wpAny_bind (m:=QK (.ref i1)) (zkj A1a T1a hx λhb A1b sb=>wpAny_pure ?_))))
   have Rb:IsPair hb r a b:=sb.extBut _ _ D.TOi1 (sa.extBut _ _ D.TOz R)
   refine wpAny_bind (wpAny_seqItems Rb rfl (wpAny_bind (wpAny_updateSeq_pair Rb λhc Rc sc=>?_)))
   refine wpAny_bind (wpAny_letGo (wpAny_pure ?_))
   have A2c:=(A2a.at λo e=>sb.extBut _ o D.i12.symm e).at λo e=>sc.extBut _ o D.TOi2.symm e
   have T2c:=((T2.at λo e=>sa.extBut _ o D.l2z e).at λo e=>sb.extBut _ o D.l2i1 e).at λo e=>sc.extBut _ o D.l2TO e
   refine wpAny_bind (wpAny_bind (wpAny_onRaise (wpAny_bind (m:=QK (.ref i2)) (z3l hh A2c T2c hy λhd e sd ⟨oe,ge,ce⟩=>?_))))
   have Zd:IsZip hd z p r .ellipsis:=sd _ _ D.i2z.symm (sc.extBut _ _ D.TOz.symm (sb.extBut _ _ D.i1z.symm Za))
   exact wpAny_setField_rec Zd (by simp) λhf _ sf=>q hf e (λc o n1 n2 n3 n4 g=>sf.extBut _ _ n1 (sd _ _ n4 (sc.extBut _ _ n2 (sb.extBut _ _ n3 (sa.extBut _ _ n1 g))))) ⟨oe,sf.extBut _ _ (off Zd ge ce) ge,ce⟩
theorem zxk{b2:Bool}{z p r i1 i2 l1 l2:Addr}{k:Nat}{xs ys:Array Value}{x y:Value}{Q:Option Value->Shared->Prop}(D:ZipApart z p r i1 i2 l1 l2)(S:ZS b2 s.heap z p r i1 i2 l1 l2 k xs ys .none)(hx:xs[k]? = some x)(hy:ys[k]? = some y)
 (q:∀ h',ZS b2 h' z p r i1 i2 l1 l2 (k+1) xs ys (rawInt s.heap.objs.size)->IsPair h' s.heap.objs.size x y->(∀ c o,c ≠ z->c ≠ r->c ≠ i1->c ≠ i2->s.heap.get? c=some o->h'.get? c=some o)->Q (some (.ref s.heap.objs.size)) { s with heap:=h' }):wpAny (model prog w) A (pyNext (.ref z)) Q E s:=by
 have T:s.TypeIs (.ref z) "zip" := ⟨_,S.zz,rfl⟩
 unfold pyNext;exact wpAny_bind (wpAny_attempt (wpAny_callSpecial?_slot (name:=Qp "__next__") T Y4 (wpAny_call_entry Y4 T qB (zyp D S hx hy λh' a b c=>wpAny_pure (q h' a b c)) (qo _))))
theorem zx5{b2:Bool}{z p r i1 i2 l1 l2:Addr}{k:Nat}{xs ys:Array Value}{Q:Option Value->Shared->Prop}(hh:A.handled=none)(D:ZipApart z p r i1 i2 l1 l2)(S:ZS b2 s.heap z p r i1 i2 l1 l2 k xs ys .none)(he:xs[k]? = none\/ys[k]? = none)
 (q:∀ h',(∀ c o,c ≠ z->c ≠ r->c ≠ i1->c ≠ i2->s.heap.get? c=some o->h'.get? c=some o)->Q none { s with heap:=h' }):wpAny (model prog w) A (pyNext (.ref z)) Q E s:=by
 have T:s.TypeIs (.ref z) "zip" := ⟨_,S.zz,rfl⟩
 unfold pyNext;refine wpAny_bind (wpAny_attempt (wpAny_callSpecial?_slot (name:=Qp "__next__") T Y4 (wpAny_call_entry Y4 T qB (z3j hh D S he λh' e up ⟨o,g,c⟩=>?_) (qo _))))
 exact wpAny_bind (wpAny_isInstance (T := "StopIteration") (b:=true) ⟨o,g,c⟩ isSubtype_stop (wpAny_pure (q _ up)))
abbrev zq1(h:Heap)(l1:Addr):Heap:=h.push { cls := .type "tuple_iterator", data := .fields #[.ref l1,.int 0 0] }
def itN:Bool->String
 | true => "list_iterator"
 | false => "tuple_iterator"
abbrev zq2(b2:Bool)(h:Heap)(l1 l2:Addr):Heap:=(zq1 h l1).push { cls := .type (itN b2),data := .fields #[.ref l2,.int 0 0] }
abbrev zq3(b2:Bool)(h:Heap)(l1 l2:Addr):Heap:=(zq2 b2 h l1 l2).push { cls := .type "tuple", data := .seq #[.ref h.objs.size,.ref (zq1 h l1).objs.size] }
abbrev zq4(b2:Bool)(h:Heap)(l1 l2:Addr):Heap:=(zq3 b2 h l1 l2).push { cls := .type "tuple", data := .seq #[.none,.none] }
abbrev zq5(b2:Bool)(h:Heap)(l1 l2:Addr):Heap:=(zq4 b2 h l1 l2).push { cls := .type "zip", data := .fields #[.none,.bool false,.bool false,.ref (zq2 b2 h l1 l2).objs.size,.ref (zq3 b2 h l1 l2).objs.size] }
theorem zxt(b2:Bool)(l1 l2:Addr)(xs ys:Array Value):Meets (Builtin.«zip.__new__» ⟨[.type "zip", .ref l1,.ref l2],[]⟩) (λ_ R s=>s.heap.IsTuple l1 xs/\SSq b2 s.heap l2 ys/\R (.ok (.ret (.ref (zq4 b2 s.heap l1 l2).objs.size))) { s with heap:=zq5 b2 s.heap l1 l2 }) :=
 .of_wp λprog w A R s h=>by
  obtain⟨hp,g,d,tk,os⟩:=s;obtain⟨a1,a2,q⟩:=h
  have sub:=sub_zip
  have a1:Heap.IsTuple (jB ⟨hp,g,d,tk,os⟩) l1 xs:=a1
  have a3:SSq b2 (jB ⟨hp.push { cls := .type "tuple_iterator", data := .fields #[.ref l1,.int 0 0] },g,d,tk,os⟩) l2 ys:=a2.at λo e=>Qc _ e
  cases b2
  ·replace a3:Heap.IsTuple (jB ⟨hp.push { cls := .type "tuple_iterator", data := .fields #[.ref l1,.int 0 0] },g,d,tk,os⟩) l2 ys:=a3
   wp_walk using wpAny_pyIter_tuple a1,wpAny_pyIter_tuple a3
   exact⟨_,rfl,q⟩
  ·replace a3:Heap.IsList (jB ⟨hp.push { cls := .type "tuple_iterator", data := .fields #[.ref l1,.int 0 0] },g,d,tk,os⟩) l2 ys:=a3
   wp_walk using wpAny_pyIter_tuple a1,wpAny_pyIter_list a3
   exact⟨_,rfl,q⟩
theorem zzy{b2:Bool}{l1 l2:Addr}{xs ys:Array Value}{Q:Value->Shared->Prop}(h1:s.heap.IsTuple l1 xs)(h2:SSq b2 s.heap l2 ys)
 (q:∀ h',ZS b2 h' (s.heap.objs.size+4) (s.heap.objs.size+2) (s.heap.objs.size+3) s.heap.objs.size (s.heap.objs.size+1) l1 l2 0 xs ys .none->(∀ c o,s.heap.get? c=some o->h'.get? c=some o)->Q (.ref (s.heap.objs.size+4)) { s with heap:=h' }):wpAny (model prog w) A (call (.type "zip") [.ref l1,.ref l2]) Q E s:=by
 refine callType_new F.called_zip (by decide) (F.typeCall_zip_2 _ _) (F.newCall_zip_2 _ _) (λobj=>F.args_object_init_3 obj _ _) F.entry_zip_new (zxt b2 l1 l2 xs ys) ⟨h1,h2,?_⟩
 have n1:(zq1 s.heap l1).objs.size=s.heap.objs.size+1:=QT ..
 have n2:(zq2 b2 s.heap l1 l2).objs.size=s.heap.objs.size+2:=by rw[QT,n1]
 have n3:(zq3 b2 s.heap l1 l2).objs.size=s.heap.objs.size+3:=by rw[QT,n2]
 have n4:(zq4 b2 s.heap l1 l2).objs.size=s.heap.objs.size+4:=by rw[QT,n3]
 have up:∀ {h:Heap} {c:Addr} {o o':Obj},h.get? c=some o->(h.push o').get? c=some o:=λe=>Qc _ e
 have e5:(zq5 b2 s.heap l1 l2).get? (zq4 b2 s.heap l1 l2).objs.size=some _:=Qq _ rfl
 have e4:(zq5 b2 s.heap l1 l2).get? (zq3 b2 s.heap l1 l2).objs.size=some _:=up (Qq _ rfl)
 have e3:(zq5 b2 s.heap l1 l2).get? (zq2 b2 s.heap l1 l2).objs.size=some _:=up (up (Qq _ rfl))
 have e2:(zq5 b2 s.heap l1 l2).get? (zq1 s.heap l1).objs.size=some _:=up (up (up (Qq _ rfl)))
 have e1:(zq5 b2 s.heap l1 l2).get? s.heap.objs.size=some _:=up (up (up (up (Qq _ rfl))))
 have all:∀ c o,s.heap.get? c=some o->(zq5 b2 s.heap l1 l2).get? c=some o:=λc o e=>up (up (up (up (up e))))
 show _/\_
 rw[n2,n3,n4] at e5
 rw[n1,n2] at e3
 rw[n3] at e4
 rw[n1] at e2
 rw[n4]
 exact⟨⟨_,e5,rfl⟩,q _ ⟨e5,e3,⟨_,_,e4⟩,⟨_,e1,rfl,rfl⟩,(by cases b2 <;> exact⟨_,e2,rfl,rfl⟩),h1.at λo e=>all _ o e,h2.at λo e=>all _ o e⟩ all⟩
theorem zuj(n l1 l2:Nat)(h1:l1<n)(h2:l2<n):ZipApart (n+4) (n+2) (n+3) n (n+1) l1 l2:=by
 have ne:∀ {a b:Nat},a<b\/b<a->(a:Addr) ≠ b:=λh e=>by rcases h with h|h <;> exact QS _ (e ▸ h)
 constructor <;> (refine ne ?_;omega)
end
section
variable {X : Cx} {pins : List (Addr × Obj)} {σ : L2.St} {H : Hp} {s : Shared} {h' : Heap} {t' : Nat}
theorem zq9{fp:List Addr}(I:Inv X pins σ H s)(hf:∀ b ∈ fp,FpOk X pins H b)(k:∀ b o,b ∉ fp->s.heap.get? b=some o->h'.get? b=some o):Inv X pins σ H { s with heap:=h',toks:=t' }:=by
 have nit:∀ b u,H b=some u->b ∉ fp:=λb u e z=>by rw[(hf b z).1] at e;cases e
 refine I.step (g':=s.gens) (d':=s.drawn) (ch:=fp) (λb hb=>let ⟨_,a,_,b,c,d⟩:=hf b hb; ⟨b,a,c,d⟩) (λb o _ _ hc e _=>k b o hc e) (λb o _ _ hc e _=>⟨o.slots,k b o hc e⟩) (λ_ _ _ _ n=>n) (λb o hc e=>⟨o,k b o hc e⟩) (λ_ _ e=>e) (λ_ _ _ e=>e) (λb ps e=>⟨#[],by rw[e];simp⟩)
  (λm ⟨o,es,ep,ho,r⟩=>⟨o,es,ep,k _ o (λz=>(hf _ z).2.1 rfl) ho,r⟩) (λb u e=>(I.hok b u e).stay (λc v hc q=>k c v ?_ q) (λ_ q=>q) λ_ _ q=>q) I.bare
 rcases hc with z|z
 ·rw[z];exact nit b u e
 ·exact nit c _ z
theorem zse{fp:List Addr}{a:Addr}{o:HO}(I:Inv X pins σ H s)(hf:∀ b ∈ fp,FpOk X pins H b)(k:∀ b o,b ∉ fp->s.heap.get? b=some o->h'.get? b=some o)(hp:s.heap.objs.size<=a)(new:ObjOk X.prog X.w (upd H a o) h' a o):Inv X pins σ (upd H a o) { s with heap:=h',toks:=t' }:=by
 have nit:∀ b u,H b=some u->b ∉ fp:=λb u e z=>by rw[(hf b z).1] at e;cases e
 have hn:=I.hok.fresh hp
 have na:∀ b u,H b=some u->b ≠ a:=λb u e z=>by rw[z,hn] at e;cases e
 have nb:∀ b (o:Obj),s.heap.get? b=some o->b ≠ a:=λb o e z=>QS _ (Q5 (Qk e) (z ▸ hp))
 refine I.step (g':=s.gens) (d':=s.drawn) (ch:=fp) (λb hb=>let ⟨_,a,_,b,c,d⟩:=hf b hb; ⟨b,a,c,d⟩) (λb o _ _ hc e _=>k b o hc e) (λb o _ _ hc e _=>⟨o.slots,k b o hc e⟩) (λb o _ e n=>by rw[zaf (nb b o e)];exact n) (λb o hc e=>⟨o,k b o hc e⟩) (λb _ e=>by rw[zaf (na b _ e)];exact e) (λb _ _ e=>by rw[zaf (na b _ e)];exact e) (λb ps e=>⟨#[],by rw[zaf (na b _ e),e];simp⟩)
  (λm ⟨o,es,ep,ho,r⟩=>⟨o,es,ep,k _ o (λz=>(hf _ z).2.1 rfl) ho,r⟩) (λb u e=>?_) I.bare
 by_cases hb:b=a
 ·subst hb;rw[zar] at e;cases e;exact new
 ·rw[zaf hb] at e
  refine(I.hok b u e).stay (λc v hc q=>k c v ?_ q) (λc q=>by rw[zaf (na c _ q)];exact q) λc xs q=>by rw[zaf (na c _ q)];exact q
  rcases hc with z|z
  ·rw[z];exact nit b u e
  ·exact nit c _ z
end
def SqS(K:Qa):Bool->Hp->Addr->List V->Prop
 | true,H,l,ys=>SqL K H l ys
 | false,H,l,ys=>SqT K H l ys
theorem Inv.sqs{X:Cx}{pins:List (Addr × Obj)}{σ:L2.St}{H:Hp}{s:Shared}{b:Bool}{l:Addr}{ys:List V}(I:Inv X pins σ H s)(h:SqS X.K b H l ys):∃ vs:List Value,Vals ys vs/\SSq b s.heap l vs.toArray/\ys.length<=sizeLine:=by
 cases b
 ·obtain⟨vs,r,t,z⟩:=I.tuple h;exact⟨vs,r,t,z⟩
 ·obtain⟨vs,r,t,z⟩:=I.list h;exact⟨vs,r,t.isList,z⟩
theorem Inv.sqs_inj{X:Cx}{pins:List (Addr × Obj)}{σ:L2.St}{H:Hp}{s:Shared}{b:Bool}{l:Addr}{xs ys:List V}(I:Inv X pins σ H s)(h:SqS X.K b H l xs)(h':SqS X.K b H l ys):xs=ys:=by
 cases b
 ·exact I.tuple_inj h h'
 ·exact I.list_inj h h'
def Itz(K:Qa)(b2:Bool)(l1 l2:Addr):It :=
 ⟨λi H=>∃ xs ys x y,SqT K H l1 xs/\SqS K b2 H l2 ys/\xs[i]? = some x/\ys[i]? = some y,
  λi H x H'=>∃ a u v,H a=none/\(∀ xs,SqT K H l1 xs->xs[i]? = some u)/\(∀ ys,SqS K b2 H l2 ys->ys[i]? = some v)/\x = .ref a/\H'=upd H a (.tup [u,v]),
  λi H=>∃ xs ys,SqT K H l1 xs/\SqS K b2 H l2 ys/\(xs.length<=i\/ys.length<=i)⟩
structure ZO (b2:Bool) (h:Heap) (z p r i1 i2 l1 l2:Addr) (k:Nat):Prop where
 zz:IsZip h z p r .none
 pp:IsPair h p (.ref i1) (.ref i2)
 rr:∃ a b,IsPair h r a b
 a1:h.IsTupleIter i1 l1 k
 a2:SIt b2 h i2 l2 k
theorem zul{P:Program}{w:World}{K:Qa}{elts:List Expr}{x1:Nat}{pos:Pos}(b2:Bool)(z p r i1 i2 l1 l2:Addr)(D:ZipApart z p r i1 i2 l1 l2) :
 Turn P w K (.Tuple elts x1 pos) (Itz K b2 l1 l2) [z,p,r,i1,i2] z (λi h=>ZO b2 h z p r i1 i2 l1 l2 i) where
 mem:=by simp
 obj:=λi h st b hb=>by
  obtain⟨a,c,⟨u,v,d⟩,⟨o1,e1,_,f1⟩,a2⟩:=st
  obtain⟨o2,e2,f2⟩:=a2.obj
  simp only[Qt,QG,or_false] at hb
  rcases hb with rfl|rfl|rfl|rfl|rfl
  ·exact⟨_,a,λv z=>by cases z⟩
  ·exact⟨_,c,λv z=>by cases z⟩
  ·exact⟨_,d,λv z=>by cases z⟩
  ·exact⟨_,e1,λv z=>by rw[f1] at z;cases z⟩
  ·exact⟨_,e2,λv z=>by rw[f2] at z;cases z⟩
 keep:=λi h h' st k=>by
  obtain⟨a,c,⟨u,v,d⟩,e,f⟩:=st
  exact⟨k z (by simp) _ a,k p (by simp) _ c,⟨u,v,k r (by simp) _ d⟩,e.at λo g=>k i1 (by simp) o g,f.at λo g=>k i2 (by simp) o g⟩
 item:=by
  intro X hP hw hK hc i pins s σ H E I hf st hg
  subst hP hw hK
  obtain⟨xs,ys,x,y,q1,q2,hx,hy⟩:=hg
  obtain⟨us,ru,tu,_⟩:=I.tuple q1
  obtain⟨vs,rv,tv,_⟩:=Inv.sqs I q2
  obtain⟨u,hu,ru⟩:=ru.get hx
  obtain⟨v,hv,rv⟩:=rv.get hy
  have S:ZS b2 s.heap z p r i1 i2 l1 l2 i us.toArray vs.toArray .none:=⟨st.zz,st.pp,st.rr,st.a1,st.a2,tu,tv⟩
  have lt:∀ b ∈ [z,p,r,i1,i2],b ≠ s.heap.objs.size:=λb hb e=>by
   have:b<s.heap.objs.size:=by
    obtain⟨o1,e1,_,_⟩:=st.a1
    obtain⟨o2,e2,_⟩:=st.a2.obj
    obtain⟨a,b',er⟩:=st.rr
    simp only[Qt,QG,or_false] at hb
    rcases hb with rfl|rfl|rfl|rfl|rfl
    ·exact Qk st.zz
    ·exact Qk st.pp
    ·exact Qk er
    ·exact Qk e1
    ·exact Qk e2
   exact QS _ (e ▸ this)
  refine zxk D S (x:=u) (y:=v) (by simpa using hu) (by simpa using hv) λh1 S1 hp up=>⟨_,rfl,?_⟩
  refine wpAny_letOwnedTupleGo_zip S1.zz λh2 Z2 sb=>?_
  have n0:=lt z (by simp)
  have up2:∀ b o,b ∉ [z,p,r,i1,i2]->s.heap.get? b=some o->h2.get? b=some o:=λb o hb e=>by
   simp only[Qt,QG,or_false,not_or] at hb
   exact(sb.2 b hb.1).trans (up b o hb.1 hb.2.2.1 hb.2.2.2.1 hb.2.2.2.2 e)
  have P2:IsPair h2 s.heap.objs.size u v:=(sb.2 _ (ZD n0)).trans hp
  have sL:=sizeLine_eq
  refine⟨.ref s.heap.objs.size,_,zse (s:=s) (t':=s.toks) I hf up2 (Qo _) (o := .tup [x,y]) ⟨by show 2<=sizeLine;omega,[u,v],.cons ru (.cons rv .nil),⟨_,P2,rfl,_,rfl⟩⟩,rfl,⟨_,x,y,I.hok.fresh (Qo _),λzs hz=>by rw[I.tuple_inj hz q1];exact hx,λzs hz=>by rw[Inv.sqs_inj I hz q2];exact hy,rfl,rfl⟩,⟨Z2,(sb.2 p D.TIz).trans S1.pp,?_,S1.a1.at λo g=>(sb.2 i1 D.i1z).trans g,S1.a2.at λo g=>(sb.2 i2 D.i2z).trans g⟩,λb hb=>?_⟩
  ·obtain⟨a,b,e⟩:=S1.rr
   exact⟨a,b,(sb.2 r D.TOz).trans e⟩
  ·rw[zaf (lt b hb)]
   exact(hf b hb).1
 done:=by
  intro X hP hw hK hc i pins s σ H E I hf st hg
  subst hP hw hK
  obtain⟨xs,ys,q1,q2,hx⟩:=hg
  obtain⟨us,ru,tu,_⟩:=I.tuple q1
  obtain⟨vs,rv,tv,_⟩:=Inv.sqs I q2
  have lu:=ru.length
  have lv:=rv.length
  have S:ZS b2 s.heap z p r i1 i2 l1 l2 i us.toArray vs.toArray .none:=⟨st.zz,st.pp,st.rr,st.a1,st.a2,tu,tv⟩
  refine zx5 (I.ok.hd hc) D S (hx.imp (λh=>by simp;omega) λh=>by simp;omega) λh1 up=>⟨rfl,zq9 (t':=s.toks) I hf λb o hb e=>?_⟩
  simp only[Qt,QG,or_false,not_or] at hb
  exact up b o hb.1 hb.2.2.1 hb.2.2.2.1 hb.2.2.2.2 e
 self:=λ_ _ _ _ _ st h=>wpAny_pyIter_zip st.zz h
def iZip(K:Qa)(t:TA):TI:=λσ H R=>t σ H λvs H1=>∃ a b b2,vs = [.ref a,.ref b]/\(∃ xs,SqT K H1 a xs)/\(∃ ys,SqS K b2 H1 b ys)/\R (Itz K b2 a b) H1
theorem z1p:bootBuiltins "zip" = some (.type "zip"):=by decide +kernel
theorem zs8{X:Cx}{elts:List Expr}{x1:Nat}{pos p1 p2:Pos}{a b:Expr}{ta:TA}(gE:Gl X "zip")(mE:X.mg "zip" = none)(ha:PA X [a,b] ta)(hs:starEach [a,b] X.env=(false,eval a X.env)::starEach [b] X.env:=by rfl)(hp:(backTo p2 (starEach [b] X.env)).any (·.1)=false:=by rfl):PI X (.Tuple elts x1 pos) (.Call (.Name "zip" p1) [a,b] [] p2) (iZip X.K ta):=by
 intro pins s σ H R I h
 refine Call_ (zcd I gE mE z1p (ZJ (thn (ha p2 pins s σ H _ I h) λus s1 ⟨vs,H1,I1,r1,q1⟩=>?_) hs hp))
 obtain⟨a,b,b2,e,⟨xs,qa⟩,⟨ys,qb⟩,q⟩:=q1
 subst e
 obtain⟨u,v,rfl,ru,rv⟩:=Vals.two r1
 obtain rfl:u=QC a:=ru
 obtain rfl:v=QC b:=rv
 obtain⟨us,ru,tu,_⟩:=I1.tuple qa
 obtain⟨vs,rv,tv,_⟩:=Inv.sqs I1 qb
 have la:a<s1.heap.objs.size:=by obtain⟨o,e,_⟩:=tu;exact Qk e
 have lb:b<s1.heap.objs.size:=by cases b2 <;> (obtain⟨o,e,_⟩:=tv;exact Qk e)
 refine zzy tu tv λh' S up=>wpAny_pyIter_zip S.zz ?_
 refine⟨_,[s1.heap.objs.size+4,s1.heap.objs.size+2,s1.heap.objs.size+3,s1.heap.objs.size,s1.heap.objs.size+1],_,Itz X.K b2 a b,H1,rfl,I1.kept (t':=s1.toks) up,zul b2 _ _ _ _ _ a b (zuj _ _ _ la lb),⟨S.zz,S.pp,S.rr,S.a1,S.a2⟩,λc hc=>?_,q⟩
 have le:s1.heap.objs.size<=c:=by
  simp only[Qt,QG,or_false] at hc
  rcases hc with rfl|rfl|rfl|rfl|rfl <;> first|exact Qo _|exact Nat.le_add_right _ _
 exact I1.fpOk le (I1.hok.fresh le)
section
variable {K : Qa} {O : Ob}
def zipD:List PyData->List PyData->List PyData
 | d::ds,e::es => .tuple [d,e]::zipD ds es
 | _,_ => []
theorem znb:∀ ds es:List PyData,(zipD ds es).length=min ds.length es.length
 | [],_=>by simp[zipD]
 | _::_,[]=>by simp[zipD]
 | _::ds,_::es=>by rw[zipD,Qm,znb ds es,Qm,Qm,Nat.succ_min_succ]
theorem zmn:∀ {ds es:List PyData} {i:Nat} {d:PyData},(zipD ds es)[i]? = some d->∃ a b,ds[i]? = some a/\es[i]? = some b/\d = .tuple [a,b]
 | [],_,i,d,h=>by simp[zipD] at h
 | _::_,[],i,d,h=>by simp[zipD] at h
 | a::ds,b::es,0,d,h=>by
   rw[zipD,List.getElem?_cons_zero] at h
   cases h
   exact⟨a,b,rfl,rfl,rfl⟩
 | a::ds,b::es,i+1,d,h=>by
   rw[zipD,ZV] at h
   obtain⟨x,y,h1,h2,h3⟩:=zmn h
   exact⟨x,y,h1,h2,h3⟩
theorem zis{ds:List PyData}{i:Nat}{d:PyData}(h:flats ds=true)(e:ds[i]? = some d):flat d=true:=by
 induction ds generalizing i with
 | nil=>cases e
 | cons x ds ih =>
   rw[flats,Qv] at h
   cases i with
   | zero=>cases e;exact h.1
   | succ i=>exact ih h.2 e
theorem zlz{H H1:Hp}{b2:Bool}{a b:Addr}{xs ys:List V}{es fs:List PyData}{B:Addr->Prop}(st:Stp O H H1)(ha:SqT K H1 a xs)(hs:IsAll K (unM O) H1 xs es)(ht:IsAll K (unM O) H1 ys fs)(f1:flats es=true)(f2:flats fs=true)
 (hB:∀ a,B a->¬ O.M a/\∃ o,H1 a=some o) (stay:∀ H2,(∀ a o,B a->H1 a=some o->H2 a=some o)->TupStay H1 H2->SqS K b2 H2 b ys):Walk K O H H1 (Itz K b2 a b) (zipD es fs) B:=by
 have l1:=hs.length
 have l2:=ht.length
 refine⟨st,hB,λH2 i kb t2 hi=>?_,λH2 i d kb t2 hd c=>?_⟩
 ·rw[znb] at hi
  exact⟨xs,ys,SqT.stay t2 ha,stay H2 kb t2,by omega⟩
 ·obtain⟨x,y,h1,h2,rfl⟩:=zmn hd
  have fx:=zis f1 h1
  have fy:=zis f2 h2
  obtain⟨u,hu,iu⟩:=zfn (O:=O) hs h1 t2 (.inl fx)
  obtain⟨v,hv,iv⟩:=zfn (O:=O) ht h2 t2 (.inl fy)
  have q1:SqT K H2 a xs:=SqT.stay t2 ha
  have q2:=stay H2 kb t2
  refine⟨⟨xs,ys,u,v,q1,q2,hu,hv⟩,λw H3 ⟨c',u',v',hc',e1,e2,ex,e3⟩=>?_⟩
  have sm:Same H2 H3:=by rw[e3];exact L3.same_new hc' _
  subst ex
  have e1:=e1 xs q1
  have e2:=e2 ys q2
  rw[hu] at e1
  rw[hv] at e2
  cases e1
  cases e2
  have fl:flat (.tuple [x,y])=true:=by show(flat x && (flat y && true))=true;rw[fx,fy];rfl
  have mv:∀ {d:PyData} {z:V},Is K (λa=>¬ O.M a/\(flat d=true\/∃ o,H1 a=some o)) H2 z d->Is K (λa=>¬ O.M a/\(flat (.tuple [x,y])=true\/∃ o,H1 a=some o)) H3 z d:=λiz =>
   iz.to (λc zs f q=>⟨⟨f.1,.inl fl⟩,sm _ _ q⟩) λc zs q=>by
    rcases q with (q|⟨ob,q⟩)|q
    ·exact .inl (.inl (sm _ _ q))
    ·exact .inl (.inr ⟨ob,sm _ _ q⟩)
    ·exact .inr q
  refine⟨sm,.tuple (xs := [u,v]) (.inl (.inl ?_)) (.cons (mv iu) (.cons (mv iv) .nil))⟩
  rw[e3]
  exact zar
def srcZ(g:DA):DI:=λρ Q=>g ρ λvs=>∃ ds es,vs = [.tuple ds,.tuple es]/\flats ds=true/\flats es=true/\Q true (zipD ds es)
theorem zzt{t:TA}{g:DA}(h:AD K O t g):SrcS K O (iZip K t) (srcZ g):=λσ H ρ R Qd S hf k=>by
 refine h σ H ρ _ _ S hf λvs H1 ds st is ⟨es,fs,e,f1,f2,q⟩=>?_
 subst e
 cases is with
 | cons i1 is =>
   cases is with
   | cons i2 is =>
     cases is
     cases i1 with
     | tuple ha hs =>
       cases i2 with
       | tuple hb ht=>exact⟨_,_,false,rfl,⟨_,ha⟩,⟨_,hb⟩,k _ H1 _ (λ_=>False) true (zlz st ha hs ht f1 f2 (λb hb=>hb.elim) λH2 _ t2=>SqT.stay t2 hb) (λz b hb=>hb.elim) q⟩
def zwh(g:DA):DI:=λρ Q=>g ρ λvs=>∃ ds es,vs = [.tuple ds,.list es]/\flats ds=true/\flats es=true/\Q false (zipD ds es)
theorem zvt{t:TA}{g:DA}(h:AD K O t g):SrcS K O (iZip K t) (zwh g):=λσ H ρ R Qd S hf k=>by
 refine h σ H ρ _ _ S hf λvs H1 ds st is ⟨es,fs,e,f1,f2,q⟩=>?_
 subst e
 cases is with
 | cons i1 is =>
   cases is with
   | cons i2 is =>
     cases is
     cases i1 with
     | tuple ha hs =>
       cases i2 with
       | @list b ys _ f0 hb ht=>exact⟨_,_,true,rfl,⟨_,ha⟩,⟨_,.of hb⟩,k _ H1 _ (λc=>c=b) false (zlz st ha hs ht f1 f2 (λc hc=>by subst hc;exact⟨f0,_,hb⟩) λH2 kb _ => .of (kb b _ rfl hb)) (λz=>by cases z) q⟩
end
section
variable {ι κ : Type} {P : Program} {w : World} {K : Qa} {mg : Str → Option Value} {base : Heap} {k : Nat} {X : ι → Cx} {O : κ → Ob} {a b : Expr} {ga : DA} {pos p1 p2 : Pos} {elts : List Expr} {x1 : Nat}
theorem zlx(C:Ctx3 P w K mg base k X)(B:Blt mg)(ha:A3 K X O [a,b] ga)(hg:∀ i,Gl (X i) "zip" := by intro i;rfl)(hs:∀ i,starEach [a,b] (X i).env=(false,eval a (X i).env)::starEach [b] (X i).env:=by intro i;rfl)(hp:∀ i,(backTo p2 (starEach [b] (X i).env)).any (·.1)=false:=by intro i;rfl):I3 K X O (.Tuple elts x1 pos) (.Call (.Name "zip" p1) [a,b] [] p2) (srcZ ga) :=
 let ⟨_,q,d⟩:=ha; ⟨iZip K _,λi=>by have h:=zs8 (elts:=elts) (x1:=x1) (pos:=pos) (p1:=p1) (p2:=p2) (hg i) (by rw[C.hmg];exact B.zip) (q i) (hs i) (hp i);rw[C.hK] at h;exact h,λj=>zzt (d j)⟩
theorem z1l(C:Ctx3 P w K mg base k X)(B:Blt mg)(ha:A3 K X O [a,b] ga)(hg:∀ i,Gl (X i) "zip" := by intro i;rfl)(hs:∀ i,starEach [a,b] (X i).env=(false,eval a (X i).env)::starEach [b] (X i).env:=by intro i;rfl)(hp:∀ i,(backTo p2 (starEach [b] (X i).env)).any (·.1)=false:=by intro i;rfl):I3 K X O (.Tuple elts x1 pos) (.Call (.Name "zip" p1) [a,b] [] p2) (zwh ga) :=
 let ⟨_,q,d⟩:=ha; ⟨iZip K _,λi=>by have h:=zs8 (elts:=elts) (x1:=x1) (pos:=pos) (p1:=p1) (p2:=p2) (hg i) (by rw[C.hmg];exact B.zip) (q i) (hs i) (hp i);rw[C.hK] at h;exact h,λj=>zvt (d j)⟩
end
def zll:Nat ⊕ List Nat->PyData
 | .inl n => .int (n:Nat)
 | .inr w => .str (tx w)
def zef:Nat ⊕ List Nat->List Nat
 | .inl n=>numT n
 | .inr w=>w
def zhb:Nat ⊕ List Nat->Prop
 | .inl n=>n<1000
 | .inr w=>Lng w
theorem zrb{c:Nat}{ws:List (List Nat)}(h:ws ≠ [])(hf:∀ w ∈ ws,c ∉ w):cutW c (zbe c ws)=ws:=by
 have h1:=zh6 h hf
 rw[zk6] at h1
 exact jV (λ_ _ z=>zi8 z) |>.mp h1
abbrev Prt:=Nat ⊕ List Nat
end L3
namespace L3
open PySem PySem.Spec
open PyProof.Rows hiding St
open L2 L6
abbrev iD(i:Int):PyData := .int i
structure Stz where
 rooms:List Int
 flags:List Int
 words:List (List Nat)
def zgf(z:Stz):PyData := .tuple [.tuple (z.rooms.map iD),.tuple (z.flags.map iD),.tuple (z.words.map wD)]
def upZ(s:Sta):Stz:=⟨s.rooms.map Ja,s.flags.map Ja,s.words⟩
theorem zep(s:Sta):zaq s=zgf (upZ s):=by unfold zaq zgf upZ;rw[QB,QB];rfl
def thI(p:Int × Int):Bool:=decide (0<=p.1) && decide (p.1<p.2)
def zbq(is ns:List Int):Bool:=decide (is.length=ns.length) && (is.zip ns).all thI
def zhm(ls w:List Nat):Bool:=w.all λc=>decide (c ∈ ls)
def zch(h:Hou)(z:Stz):Bool:=zbq z.rooms (h.hands.map λx=>(x.n:Int)) && (zbq z.flags (Qf h.flags 2) && (decide (z.words.length=h.lines) && z.words.all (zhm h.ls)))
structure SNum (s:Sta):Prop where
 rooms:∀ r ∈ s.rooms,r<1000
 flags:∀ r ∈ s.flags,r<1000
theorem zex{α β:Type}(f:α->PyData)(g:β->PyData):∀ (xs:List α) (ys:List β),zipD (xs.map f) (ys.map g)=(xs.zip ys).map λp => .tuple [f p.1,g p.2]
 | [],_=>rfl
 | _::_,[]=>rfl
 | x::xs,y::ys=>by rw[Q2,Q2,zipD,zex f g xs ys];rfl
theorem zrm:∀ {rs:List Nat} {ns:List Int},(∀ n ∈ ns,n<=1000)->zbq (rs.map Ja) ns=true->rs.length=ns.length/\∀ r ∈ rs,r<1000:=λ{rs ns} hn h=>by
 unfold zbq at h
 obtain⟨h1,h2⟩:=Yw.mp h
 have h1:=of_decide_eq_true h1
 rw[Qb] at h1
 refine⟨h1,λr hr=>?_⟩
 obtain⟨i,hi⟩:=ZN.mp hr
 obtain⟨hil,_⟩:=Qs.mp hi
 have hin:i<ns.length:=by omega
 have m:(Ja r,ns[i]) ∈ (rs.map Ja).zip ns:=ZN.mpr ⟨i,by rw[Jj];exact⟨by rw[Qy,hi];rfl,Ql hin⟩⟩
 have:=Q9.mp h2 _ m
 unfold thI at this
 simp only[Qv,decide_eq_true_eq] at this
 have:=hn _ (QL hin)
 have:Ja r=(r:Int):=rfl
 omega
def abvB(a b:Sta):Bool:=decide (a.rooms=b.rooms) && (decide (a.flags=b.flags) && (b.words.zip a.words).all λp=>L6.under p.1 p.2)
def shW(w:List Nat):List Nat:=if w = [] then[46] else w
def unW(w:List Nat):List Nat:=if w = [46] then[] else w
def wsS(s:Sta):List (List Nat):=s.rooms.map numT ++ [47]::(s.flags.map numT ++ [47]::s.words.map shW)
def stT(s:Sta):List Nat:=zbe 32 (wsS s)
def zbr:Nat->List (List Nat)->List Nat
 | _,[] => []
 | k,w::ws=>if w = [47] then k::zbr (k+1) ws else zbr (k+1) ws
def zcw(ws:List (List Nat)):Option Sta:=match zbr 0 ws with
 | [a,b]=>if(decide ([] ∈ ws.drop (b+1)) || !(ws.take a++(ws.take b).drop (a+1)).all zca)=true then none else some ⟨(ws.take a).map valW,((ws.take b).drop (a+1)).map valW,(ws.drop (b+1)).map unW⟩
 | _=>none
theorem zk5:∀ {ws:List (List Nat)} (k:Nat),[47] ∉ ws->zbr k ws = []
 | [],_,_=>rfl
 | w::ws,k,h=>by rw[zbr,if_neg λe=>h (by rw[e];exact Qj),zk5 (k+1) λz=>h (Qe _ z)]
theorem ziq:∀ (a b:List (List Nat)) (k:Nat),[47] ∉ a->zbr k (a ++ [47]::b)=(k+a.length)::zbr (k+a.length+1) b
 | [],b,k,_=>by rw[JU,zbr,if_pos rfl];rfl
 | w::a,b,k,h=>by
   rw[qC,zbr,if_neg λe=>h (by rw[e];exact Qj),ziq a b (k+1) λz=>h (Qe _ z),Qm,show k+1+a.length=k+(a.length+1) by omega]
theorem zd0:∀ {ws:List (List Nat)} {k a:Nat} {r:List Nat},zbr k ws=a::r->∃ x y,ws=x ++ [47]::y /\ [47] ∉ x/\a=k+x.length/\zbr (a+1) y=r
 | [],_,_,_,h=>by cases h
 | w::ws,k,a,r,h=>by
   rw[zbr] at h
   split at h
   ·rename_i hw
    cases h
    exact⟨[],ws,by rw[hw];rfl,by simp,rfl,rfl⟩
   ·rename_i hw
    obtain⟨x,y,e,hx,ha,hr⟩:=zd0 h
    refine⟨w::x,y,by rw[e];rfl,λm=>?_,by rw[ha,Qm];omega,hr⟩
    rcases Qt.mp m with z|z
    ·exact hw z.symm
    ·exact hx z
theorem zpj{n:Nat}(h:n<1000):numT n ≠ [47]:=λe=>by
 have:=(zbz n h).2.2 47 (by rw[e];exact Qj)
 omega
theorem z3t{w:List Nat}(h:LowW w):shW w ≠ [47]:=λe=>by
 unfold shW at e
 split at e
 ·cases e
 ·have:97<=47/\47<123:=h 47 (by rw[e];exact Qj)
  omega
theorem zw6{w:List Nat}(h:LowW w):unW (shW w)=w:=by
 unfold shW
 split
 ·rename_i e;rw[e];rfl
 ·unfold unW
  rw[if_neg λe=>by have:97<=46/\46<123:=h 46 (by rw[e];exact Qj);omega]
theorem z5f{w:List Nat}(h:w ≠ []):shW (unW w)=w:=by
 unfold unW
 split
 ·rename_i e;rw[e];rfl
 ·unfold shW;rw[if_neg h]
theorem z5j(w:List Nat):shW w ≠ []:=by
 unfold shW
 split
 ·simp
 ·assumption
theorem zgy{a b c:List (List Nat)}:(a ++ [47]::(b ++ [47]::c)).take a.length=a/\((a ++ [47]::(b ++ [47]::c)).take (a.length+1+b.length)).drop (a.length+1)=b/\(a ++ [47]::(b ++ [47]::c)).drop (a.length+1+b.length+1)=c:=by
 have e1:a ++ [47]::(b ++ [47]::c)=(a ++ [[47]])++(b++([[47]]++c)):=by simp
 have l1:(a ++ [[47]]).length=a.length+1:=by simp
 refine⟨qS ..,?_,?_⟩
 ·rw[e1,YS,<- l1,jC,Jz]
  exact qS ..
 ·rw[e1,Nat.add_assoc,<- l1,<- j8,jC]
  have e2:b++([[47]]++c)=(b ++ [[47]])++c:=by simp
  rw[e2,show b.length+1=(b ++ [[47]]).length by simp]
  exact jC ..
theorem zvg{s:Sta}(h:SNum s)(hl:∀ w ∈ s.words,LowW w):zcw (wsS s)=some s:=by
 have n1:[47] ∉ s.rooms.map numT:=λm=>by obtain⟨r,hr,e⟩:=Qu.mp m;exact zpj (h.rooms r hr) e
 have n2:[47] ∉ s.flags.map numT:=λm=>by obtain⟨r,hr,e⟩:=Qu.mp m;exact zpj (h.flags r hr) e
 have n3:[47] ∉ s.words.map shW:=λm=>by obtain⟨r,hr,e⟩:=Qu.mp m;exact z3t (hl r hr) e
 have b:zbr 0 (wsS s) = [(s.rooms.map numT).length,(s.rooms.map numT).length+1+(s.flags.map numT).length]:=by
  unfold wsS
  rw[ziq _ _ _ n1,ziq _ _ _ n2,zk5 _ n3,Nat.zero_add]
 obtain⟨p1,p2,p3⟩:=zgy (a:=s.rooms.map numT) (b:=s.flags.map numT) (c:=s.words.map shW)
 have p1:(wsS s).take (s.rooms.map numT).length=s.rooms.map numT:=p1
 have p2:((wsS s).take ((s.rooms.map numT).length+1+(s.flags.map numT).length)).drop ((s.rooms.map numT).length+1)=s.flags.map numT:=p2
 have p3:(wsS s).drop ((s.rooms.map numT).length+1+(s.flags.map numT).length+1)=s.words.map shW:=p3
 unfold zcw
 rw[b]
 simp only
 rw[p1,p2,p3,if_neg]
 ·have e1:(s.rooms.map numT).map valW=s.rooms:=by rw[QB];exact(Zl λr hr=>zmv (h.rooms r hr)).trans (J4 _)
  have e2:(s.flags.map numT).map valW=s.flags:=by rw[QB];exact(Zl λr hr=>zmv (h.flags r hr)).trans (J4 _)
  have e3:(s.words.map shW).map unW=s.words:=by rw[QB];exact(Zl λw hw=>zw6 (hl w hw)).trans (J4 _)
  rw[e1,e2,e3]
 ·rw[decide_eq_false λm=>by obtain⟨w,_,e⟩:=Qu.mp m;exact z5j w e,jK]
  rw[show(s.rooms.map numT++s.flags.map numT).all zca=true from Q9.mpr λw hw=>by
   rcases Q6.mp hw with hw|hw
   ·obtain⟨r,hr,rfl⟩:=Qu.mp hw;exact(zbz r (h.rooms r hr)).1
   ·obtain⟨r,hr,rfl⟩:=Qu.mp hw;exact(zbz r (h.flags r hr)).1]
  exact Qn
theorem zio{ws:List (List Nat)}{s:Sta}(h:zcw ws=some s):wsS s=ws/\SNum s:=by
 unfold zcw at h
 split at h
 ·rename_i a b hb
  obtain⟨x,y,rfl,hx,rfl,hr⟩:=zd0 hb
  obtain⟨y,z,rfl,hy,rfl,hr⟩:=zd0 hr
  obtain⟨p1,p2,p3⟩:=zgy (a:=x) (b:=y) (c:=z)
  rw[Nat.zero_add] at h
  rw[p1,p2,p3] at h
  split at h
  ·cases h
  ·rename_i hc
   cases h
   have hc:(decide ([] ∈ z) || !(x++y).all zca)=false:=by simpa using hc
   obtain⟨c1,c2⟩:=Bool.or_eq_false_iff.mp hc
   have c1:=of_decide_eq_false c1
   have c2:(x++y).all zca=true:=by simpa using c2
   have c2:=Q9.mp c2
   refine⟨?_,⟨λr hr=>?_,λr hr=>?_⟩⟩
   ·unfold wsS
    simp only[QB]
    have e1:x.map (numT ∘ valW)=x:=(Zl λw hw=>(zd1 (c2 w (Jm _ hw))).1).trans (J4 _)
    have e2:y.map (numT ∘ valW)=y:=(Zl λw hw=>(zd1 (c2 w (Qw _ hw))).1).trans (J4 _)
    have e3:z.map (shW ∘ unW)=z:=(Zl λw hw=>z5f λe=>c1 (e ▸ hw)).trans (J4 _)
    rw[e1,e2,e3]
   ·obtain⟨w,hw,rfl⟩:=Qu.mp hr;exact(zd1 (c2 w (Jm _ hw))).2
   ·obtain⟨w,hw,rfl⟩:=Qu.mp hr;exact(zd1 (c2 w (Qw _ hw))).2
 ·cases h
noncomputable def za7(h:Hou)(t:List Nat):Option Sta:=match zcw (cutW 32 t) with
 | some s=>if zch h (upZ s)=true then some s else none
 | none=>none
structure StIs (h:Hou) (s:Sta):Prop where
 rooms:s.rooms.length=h.hands.length
 flags:s.flags.length=h.flags
 words:s.words.length=h.lines
 lets:∀ w ∈ s.words,∀ c ∈ w,c ∈ h.ls
 num:SNum s
theorem zcq{h:Hou}{s:Sta}(hh:HoOk h)(b:zch h (upZ s)=true):StIs h s:=by
 unfold zch at b
 simp only[Qv,decide_eq_true_eq] at b
 obtain⟨b1,b2,b3,b4⟩:=b
 obtain⟨r1,r2⟩:=zrm (λn hn=>by obtain⟨x,hx,rfl⟩:=Qu.mp hn;have:=(hh.pos x hx).2;omega) b1
 obtain⟨f1,f2⟩:=zrm (λn hn=>by rw[(YT.mp hn).2];decide) b2
 rw[Qb] at r1
 rw[QN] at f1
 exact⟨r1,f1,b3,λw hw c hc=>of_decide_eq_true (Q9.mp (Q9.mp b4 w hw) c hc),⟨r2,f2⟩⟩
theorem zwq(s:Sta):wsS s ≠ []:=by unfold wsS;simp
theorem zyi{s:Sta}(h:SNum s)(hl:∀ w ∈ s.words,LowW w):∀ w ∈ wsS s,32 ∉ w:=λw hw m=>by
 unfold wsS at hw
 have num:∀ {l:List Nat},(∀ r ∈ l,r<1000)->w ∈ l.map numT->False:=λhl hw=>by
  obtain⟨r,hr,rfl⟩:=Qu.mp hw
  have:=(zbz r (hl r hr)).2.2 32 m
  omega
 rcases Q6.mp hw with hw|hw
 ·exact num h.rooms hw
 rcases Qt.mp hw with rfl|hw
 ·simp at m
 rcases Q6.mp hw with hw|hw
 ·exact num h.flags hw
 rcases Qt.mp hw with rfl|hw
 ·simp at m
 obtain⟨v,hv,rfl⟩:=Qu.mp hw
 unfold shW at m
 split at m
 ·simp at m
 ·have:97<=32/\32<123:=hl v hv 32 m;omega
theorem zci{h:Hou}(hh:HoOk h){t:List Nat}{s:Sta}:za7 h t=some s↔zch h (upZ s)=true/\stT s=t:=by
 constructor
 ·intro e
  unfold za7 at e
  split at e
  ·rename_i s' hs
   split at e
   ·rename_i hb
    cases e
    obtain⟨w,_⟩:=zio hs
    exact⟨hb,by unfold stT;rw[w,zgk]⟩
   ·cases e
  ·cases e
 ·rintro⟨hb,rfl⟩
  have I:=zcq hh hb
  have low:∀ w ∈ s.words,LowW w:=λw hw c hc=>hh.low c (I.lets w hw c hc)
  unfold za7 stT
  rw[zrb (zwq s) (zyi I.num low),zvg I.num low]
  simp only
  rw[if_pos hb]
theorem zii{h:Hou}(hh:HoOk h){t:List Nat}{s:Sta}(e:za7 h t=some s):cutW 32 t=wsS s:=by
 unfold za7 at e
 split at e
 ·rename_i s' hs
  split at e
  ·cases e;exact(zio hs).1.symm
  ·cases e
 ·cases e
def rdK(m:Nat)(w:List Nat):List Nat:=(Jb m).filter λk=>decide (numT k=w)
theorem zw8:∀ m:Fin 4,∀ k:Fin 3,k.val<m.val->rdK m.val (numT k.val) = [k.val]:=by decide +kernel
theorem znc{m:Nat}{w:List Nat}(h:rdK m w ≠ []):(rdK m w).headD 0<m/\numT ((rdK m w).headD 0)=w:=by
 have m1:(rdK m w).headD 0 ∈ rdK m w:=by
  cases e:rdK m w with
  | nil=>exact absurd e h
  | cons x r=>exact Qj
 have:=Yz.mp m1
 exact⟨Jx.mp this.1,of_decide_eq_true this.2⟩
def zc1(h:Hou)(ws:List (List Nat)):Sta:=⟨(ws.take h.hands.length).map λw=>(rdK 3 w).headD 0,((ws.drop (h.hands.length+1)).take h.flags).map λw=>(rdK 2 w).headD 0,(ws.drop (h.hands.length+2+h.flags)).map unW⟩
theorem zw4{m:Nat}(hm:m<=3){l:List Nat}(h:∀ r ∈ l,r<m):(∀ w ∈ l.map numT,rdK m w ≠ [])/\(l.map numT).map (λw=>(rdK m w).headD 0)=l:=by
 have e:∀ r ∈ l,rdK m (numT r) = [r]:=λr hr=>by
  have:=h r hr
  exact zw8 ⟨m,by omega⟩ ⟨r,by omega⟩ this
 refine⟨λw hw=>?_,?_⟩
 ·obtain⟨r,hr,rfl⟩:=Qu.mp hw
  rw[e r hr];simp
 ·rw[QB]
  refine(Zl λr hr=>?_).trans (J4 _)
  show(rdK m (numT r)).headD 0=r
  rw[e r hr];rfl
theorem zv5{m:Int}:∀ {rs:List Nat} {ns:List Int},(∀ n ∈ ns,n<=m)->zbq (rs.map Ja) ns=true->∀ r ∈ rs,(r:Int)<m:=λ{rs ns} hn h r hr=>by
 unfold zbq at h
 obtain⟨h1,h2⟩:=Yw.mp h
 have h1:=of_decide_eq_true h1
 rw[Qb] at h1
 obtain⟨i,hi⟩:=ZN.mp hr
 obtain⟨hil,_⟩:=Qs.mp hi
 have hin:i<ns.length:=by omega
 have m:(Ja r,ns[i]) ∈ (rs.map Ja).zip ns:=ZN.mpr ⟨i,by rw[Jj];exact⟨by rw[Qy,hi];rfl,Ql hin⟩⟩
 have:=Q9.mp h2 _ m
 unfold thI at this
 simp only[Qv,decide_eq_true_eq] at this
 have:=hn _ (QL hin)
 have:Ja r=(r:Int):=rfl
 omega
theorem zey{h:Hou}(hh:HoOk h)(h3:∀ x ∈ h.hands,x.n<=3){t:List Nat}{s:Sta}(e:za7 h t=some s) :
 (cutW 32 t).length=h.hands.length+h.flags+h.lines+2/\(∀ w ∈ (cutW 32 t).take h.hands.length,rdK 3 w ≠ [])/\(∀ w ∈ ((cutW 32 t).drop (h.hands.length+1)).take h.flags,rdK 2 w ≠ [])/\zc1 h (cutW 32 t)=s:=by
 obtain⟨hb,ht⟩:=(zci hh).mp e
 have I:=zcq hh hb
 have low:∀ w ∈ s.words,LowW w:=λw hw c hc=>hh.low c (I.lets w hw c hc)
 rw[zii hh e]
 have b:=hb
 unfold zch at b
 simp only[Qv,decide_eq_true_eq] at b
 have r3:∀ r ∈ s.rooms,r<3:=λr hr=>by
  have:=zv5 (m:=3) (λn hn=>by obtain⟨x,hx,rfl⟩:=Qu.mp hn;have:=h3 x hx;omega) b.1 r hr
  omega
 have f2:∀ r ∈ s.flags,r<2:=λr hr=>by
  have:=zv5 (m:=2) (λn hn=>by rw[(YT.mp hn).2];decide) b.2.1 r hr
  omega
 obtain⟨a1,a2⟩:=zw4 (m:=3) (by decide) r3
 obtain⟨c1,c2⟩:=zw4 (m:=2) (by decide) f2
 obtain⟨p1,p2,p3⟩:=zgy (a:=s.rooms.map numT) (b:=s.flags.map numT) (c:=s.words.map shW)
 rw[Qb,Qb,I.rooms,I.flags] at p2 p3
 rw[Qb,I.rooms] at p1
 have p1:(wsS s).take h.hands.length=s.rooms.map numT:=p1
 have p2:((wsS s).take (h.hands.length+1+h.flags)).drop (h.hands.length+1)=s.flags.map numT:=p2
 have p3:(wsS s).drop (h.hands.length+1+h.flags+1)=s.words.map shW:=p3
 rw[YS,Jz] at p2
 rw[show h.hands.length+1+h.flags+1=h.hands.length+2+h.flags by omega] at p3
 refine⟨?_,by rw[p1];exact a1,by rw[p2];exact c1,?_⟩
 ·unfold wsS
  simp only[Qg,Qm,Qb]
  rw[I.rooms,I.flags,I.words]
  omega
 ·unfold zc1
  rw[p1,p2,p3,a2,c2,QB]
  have e3:s.words.map (unW ∘ shW)=s.words:=(Zl λw hw=>zw6 (low w hw)).trans (J4 _)
  rw[e3]
theorem zu6{h:Hou}(hh:HoOk h):za7 h []=none:=by
 cases e:za7 h [] with
 | none=>rfl
 | some s =>
   obtain⟨_,ht⟩:=(zci hh).mp e
   have:=ze1 (c:=32) (zwq s)
   unfold stT at ht
   rw[ht] at this
   unfold wsS at this
   rw[zcu,za4,zcu,za4] at this
   simp only[Qm,ZE] at this
   omega
def optS:Option Sta->PyData
 | none => .none
 | some s=>zaq s
def ztx:List PyData->(R->Prop)->Prop:=λds Q=>∃ w:List Nat,ds = [.str (tx w)]/\Lng w/\Q (.o (.str (tx (shW w))))
def zsf:List PyData->(R->Prop)->Prop:=λds Q=>∃ is ns:List Int,ds = [.tuple (is.map iD),.list (ns.map iD)]/\is.length<=1000/\ns.length<=1000/\Q (.o (.bool (zbq is ns)))
def zw2:List PyData->(R->Prop)->Prop:=λds Q=>∃ ls w:List Nat,ds = [.str (tx ls),.str (tx w)]/\w.length<=100000/\Q (.o (.bool (zhm ls w)))
def zhy:List PyData->(R->Prop)->Prop:=λds Q=>∃ (h:Hou) (z:Stz),ds = [zbs h,zgf z]/\HoOk h/\z.rooms.length<=1000/\z.flags.length<=1000/\z.words.length<=100001/\(∀ w ∈ z.words,Lng w)/\z.words.flatten.length<=1000000/\Q (.o (.bool (zch h z)))
structure StW (s:Sta):Prop where
 rooms:s.rooms.length<=20
 flags:s.flags.length<=20
 words:s.words.length<=20
 sml:∀ w ∈ s.words,Sml w
def abvF:List PyData->(R->Prop)->Prop:=λds Q=>∃ a b:Sta,ds = [zaq a,zaq b]/\StW a/\StW b/\a.words.length=b.words.length/\Q (.o (.bool (abvB a b)))
def zo5:List PyData->(R->Prop)->Prop:=λds Q=>∃ ps:List (Nat ⊕ List Nat),ds = [.list (ps.map zll)]/\(∀ p ∈ ps,zhb p)/\ps.length<=100/\Q (.o (.str (tx (zbe 32 (ps.map zef)))))
structure StT (s:Sta):Prop where
 rooms:s.rooms.length<=30
 flags:s.flags.length<=30
 words:s.words.length<=30
 lng:∀ w ∈ s.words,Lng w
 num:SNum s
def zel:List PyData->(R->Prop)->Prop:=λds Q=>∃ s:Sta,ds = [zaq s]/\StT s/\Q (.o (.str (tx (stT s))))
def zmh:List PyData->(R->Prop)->Prop:=λds Q=>∃ ws:List (List Nat),ds = [.list (tsD ws)]/\WsOk ws/\Q (.o (optS (zcw ws)))
def zpi:Option Sta->R
 | none => .o (excD "NoText" ["at"] [.int 0])
 | some s => .o (zaq s)
def zou:List PyData->(R->Prop)->Prop:=λds Q=>∃ (h:Hou) (t:List Nat),ds = [zbs h,.str (tx t)]/\HoOk h/\Lng t/\t.length<=900/\Q (zpi (za7 h t))
structure StG (h:Hou) (n:Nat) (s:Sta):Prop where
 is:zch h (upZ s)=true
 short:∀ w ∈ s.words,w.length<=n
def zj1:List PyData->(R->Prop)->Prop:=λds Q=>∃ h:Hou,ds = [zbs h]/\HoOk h/\∀ s,StG h 4 s->Q (.o (zaq s))
def zsh:List PyData->(R->Prop)->Prop:=λds Q=>∃ (h:Hou) (s:Sta),ds = [zbs h,zaq s]/\HoOk h/\StG h 4 s/\∀ s',StG h 4 s'->Q (.o (zaq s'))
def ztr:List PyData->(R->Prop)->Prop:=λds Q=>∃ xs os:List PyData,ds = [.tuple xs,.list os]/\flats xs=true/\flats os=true/\os ≠ []/\os.length<=1000/\xs.length<=1000/\∀ zs,(∀ z ∈ zs,z ∈ xs\/z ∈ os)->zs.length<=xs.length+1->Q (.o (.tuple zs))
structure SzW (n:Nat) (z:Stz):Prop where
 rooms:z.rooms.length<=n
 flags:z.flags.length<=n
 words:z.words.length<=n
 sml:∀ w ∈ z.words,w.length<=4/\LowW w
def zoc:List PyData->(R->Prop)->Prop:=λds Q=>∃ (n:Nat) (z:Stz),ds = [zgf z]/\SzW n z/\n<=100/\∀ z',SzW (n+1) z'->Q (.o (zgf z'))
def zmt:List PyData->(R->Prop)->Prop:=λds Q=>∃ (h:Hou) (t:List Nat),ds = [zbs h,.str (tx t)]/\HoOk h/\h.hands.length<=10/\h.flags<=10/\h.lines<=10/\(∀ x ∈ h.hands,x.n<=3)/\Lng t/\t.length<=900/\Q (.o (optS (za7 h t)))
def zl7:List PyData->(R->Prop)->Prop:=λds Q=>∃ t:List Nat,ds = [.str (tx t)]/\Lng t/\t.length<=430/\∀ t',Lng t'->t'.length<=900->Q (.o (.str (tx t')))
def zfp:Option Sta->PyData
 | none => .tuple [.str "refused"]
 | some s => .tuple [.str "told", zaq s]
def zm9:List PyData->(R->Prop)->Prop:=λds Q=>∃ (h:Hou) (t:List Nat),ds = [zbs h,.str (tx t)]/\HoOk h/\Lng t/\t.length<=900/\Q (.o (zfp (za7 h t)))
structure HoS (h:Hou):Prop where
 ok:HoOk h
 hands:h.hands.length<=10
 flags:h.flags<=10
 lines:h.lines<=3
 n3:∀ x ∈ h.hands,x.n<=3
def zov:List PyData->(R->Prop)->Prop:=λds Q=>∃ (h:Hou) (s:Sta),ds = [zbs h,zaq s]/\HoS h/\StG h 40 s/\Q (.o (.bool true))
theorem zc8(xs:List Nat):Sl 1 (.tuple (xs.map nD)):=zjr λn _=>zjt n
theorem zqu(s:Sta):Sl 2 (.tuple [.tuple (s.rooms.map nD),.tuple (s.flags.map nD)]):=zb5 (zc8 _) (zb5 (zc8 _) (zgl _))
theorem zmr{a b:List Nat}(h:a.map nD=b.map nD):a=b:=jV (λ_ _ z=>Int.ofNat_inj.mp (qQ z)) |>.mp h
theorem zsn(a b:Sta){neg:Bool}:eqF neg (.tuple [.tuple (a.rooms.map nD),.tuple (a.flags.map nD)]) (.tuple [.tuple (b.rooms.map nD),.tuple (b.flags.map nD)])=some (.o (.bool (if neg then !(decide (a.rooms=b.rooms) && decide (a.flags=b.flags)) else(decide (a.rooms=b.rooms) && decide (a.flags=b.flags))))) :=
 zhs (zqu a) (zqu b) (by decide) (by
  rw[Qv,decide_eq_true_eq,decide_eq_true_eq]
  refine⟨λ⟨e,f⟩=>by rw[e,f],λe=>?_⟩
  have e:=jl e
  simp only[jx,jT,and_true] at e
  exact⟨zmr e.1,zmr e.2⟩)
theorem zhj(s:Sta):slcF none (some 2) (zaq s)=some (.o (.tuple [.tuple (s.rooms.map nD),.tuple (s.flags.map nD)])):=rfl
theorem zt6{α:Type}(f:α->PyData)(xs:List α):ze2 (xs.map f)=xs.zipIdx.map λp => .tuple [.int (p.2:Nat),f p.1]:=by
 unfold ze2
 refine ql λi=>?_
 rw[j7,Qy,Qy,List.getElem?_zipIdx]
 cases xs[i]? <;> simp
theorem zit:∀ (ws:List (List Nat)) (k:Nat),((ws.zipIdx k).filter λp=>decide (p.1 = [47])).map (·.2)=zbr k ws
 | [],_=>rfl
 | w::ws,k=>by
   rw[jk,JM,zbr]
   by_cases h:w = [47]
   ·rw[if_pos (by simpa using h),if_pos h,Q2,zit ws (k+1)]
   ·rw[if_neg (by simpa using h),if_neg h,zit ws (k+1)]
theorem zod{α:Type}(xs:List α)(a b:Nat):cutL xs (some (a:Int)) (some (b:Int))=(xs.take b).drop a:=by
 unfold cutL
 rw[zhu,zhu,YS]
 by_cases h:a<=xs.length
 ·rw[jw h]
  by_cases hb:b<=xs.length
  ·rw[jw hb]
  ·rw[qv (by omega),J8 (by rw[QD];omega),J8 (by rw[QD];omega)]
 ·rw[ZY (show xs.length<=min a xs.length by omega),ZY (show xs.length<=a by omega)]
  simp
theorem zfr(ws:List (List Nat))(lo hi:Option Int):slcF lo hi (.list (tsD ws))=some (.n (tsD (cutL ws lo hi))):=by
 show some (R.n (cutL (tsD ws) lo hi))=_
 rw[zdr]
def stPs(s:Sta):List Prt:=s.rooms.map .inl ++ .inr [47]::(s.flags.map .inl ++ .inr [47]::s.words.map λw => .inr (shW w))
theorem zlr(s:Sta):(stPs s).map zef=wsS s:=by
 unfold stPs wsS
 simp only[QR,Q2,QB]
 rfl
theorem zz6{w:List Nat}(h:Lng w):Lng (shW w):=by
 unfold shW
 split
 ·exact lng1 46
 ·exact h
theorem zgp{s:Sta}(h:StT s):(∀ p ∈ stPs s,zhb p)/\(stPs s).length<=100:=by
 have r1:=h.rooms
 have r2:=h.flags
 have r3:=h.words
 unfold stPs
 refine⟨λp hp=>?_,by simp only[Qg,Qm,Qb];omega⟩
 have bar:zhb (.inr [47]):=lng1 47
 rcases Q6.mp hp with hp|hp
 ·obtain⟨r,hr,rfl⟩:=Qu.mp hp;exact h.num.rooms r hr
 rcases Qt.mp hp with rfl|hp
 ·exact bar
 rcases Q6.mp hp with hp|hp
 ·obtain⟨r,hr,rfl⟩:=Qu.mp hp;exact h.num.flags r hr
 rcases Qt.mp hp with rfl|hp
 ·exact bar
 obtain⟨w,hw,rfl⟩:=Qu.mp hp
 exact zz6 (h.lng w hw)
theorem zve(s:Sta):s.rooms.map nD ++ [Z7 (Qp "/")]++s.flags.map nD ++ [Z7 (Qp "/")]++s.words.map (λw=>wD (shW w))=(stPs s).map zll:=by
 rw[show Qp "/" = tx [47] by decide +kernel]
 unfold stPs
 simp only[QR,Q2,QB,Jn,qC,JU]
 rfl
theorem z4w{neg:Bool}{x:List Nat}{ws:List (List Nat)}(hx:Lng x)(hw:∀ w ∈ ws,Lng w):inF neg (.str (tx x)) (.list (tsD ws))=some (.o (.bool (if neg then !decide (x ∈ ws) else decide (x ∈ ws)))) :=
 z4z (zeq hx.ok) (z4l hw) (by decide) (by
  rw[decide_eq_true_eq]
  exact⟨λh=>Qu.mpr ⟨x,h,rfl⟩,λh=>by obtain⟨w,hw,e⟩:=Qu.mp h;exact zi8 (qR e) ▸ hw⟩)
theorem lng0:Lng []:=⟨by decide,by simp⟩
theorem zd2:Qp "" = tx []:=by decide +kernel
theorem zgu:Qp "." = tx [46]:=by decide +kernel
theorem z5i:∀ {rs:List Nat} {hs:List Hnd},rs.length=hs.length->(∀ (i:Nat) (r:Nat) (x:Hnd),rs[i]? = some r->hs[i]? = some x->r<x.n)->zbq (rs.map Ja) (hs.map λx=>(x.n:Int))=true:=λ{rs hs} hl h=>by
 unfold zbq
 rw[Qb,Qb,decide_eq_true hl,QO,Q9]
 intro p hp
 obtain⟨i,hi⟩:=ZN.mp hp
 rw[Jj,Qy,Qy] at hi
 obtain⟨r,h1,h2⟩:=QA.mp hi.1
 obtain⟨x,h3,h4⟩:=QA.mp hi.2
 have:=h i r x h1 h3
 unfold thI
 rw[<- h2,<- h4,Qv,decide_eq_true_eq,decide_eq_true_eq]
 exact⟨jW r,Int.ofNat_lt.mpr this⟩
theorem z3d{fs:List Nat}(h:∀ f ∈ fs,f<2):zbq (fs.map Ja) (Qf fs.length 2)=true:=by
 unfold zbq
 rw[Qb,QN,decide_eq_true rfl,QO,Q9]
 intro p hp
 obtain⟨h1,h2⟩:=JC hp
 obtain⟨f,hf,e⟩:=Qu.mp h1
 have:=h f hf
 unfold thI
 rw[<- e,(YT.mp h2).2,Qv,decide_eq_true_eq,decide_eq_true_eq]
 exact⟨jW f,Int.ofNat_lt.mpr this⟩
theorem zu8{hs:List Hnd}{i h:Nat}{fe:DE}{ρ:DSt}{Q:List PyData->Prop}(step:∀ x ∈ hs,∀ (Py:PyData->Prop),(∀ r,r<x.n->Py (nD r))->fe ((Qf h none++ρ).set i (some (.im (zb7 x)))) (λr=>Py r.d))
 (hz:hs.length<=1000) (q:∀ rs:List Nat,rs.length=hs.length->(∀ (i:Nat) (r:Nat) (x:Hnd),rs[i]? = some r->hs[i]? = some x->r<x.n)->Q (rs.map nD)):za3 h (gN i) (λ_ Q=>Q true) fe ρ Q (hs.map zb7) []:=by
 have sz:=sizeLine_eq
 have key:∀ (l:List Hnd) (acc:List Nat),(∀ x ∈ l,x ∈ hs)->acc.length+l.length=hs.length->hs.drop acc.length=l->(∀ (i:Nat) (r:Nat) (x:Hnd),acc[i]? = some r->hs[i]? = some x->r<x.n)->za3 h (gN i) (λ_ Q=>Q true) fe ρ Q (l.map zb7) (acc.map nD):=by
  intro l
  induction l with
  | nil=>intro acc _ hl _ hg;exact q acc (by simpa using hl) hg
  | cons x l ih =>
    intro acc hs' hl hd hg
    rw[Qm] at hl
    refine iteT (B:=True) (step x (hs' x Qj) (λd=>(acc.map nD).length<sizeLine/\za3 h (gN i) (λ_ Q=>Q true) fe ρ Q (l.map zb7) (acc.map nD ++ [d])) λr hr=>⟨by rw[Qb];omega,?_⟩)
    rw[show acc.map nD ++ [nD r]=(acc ++ [r]).map nD by rw[QR];rfl]
    have hx:hs[acc.length]? = some x:=by rw[<- List.head?_drop,hd];rfl
    refine ih (acc ++ [r]) (λy hy=>hs' y (Qe _ hy)) (by rw[Qg,Zq];omega) (by rw[Qg,Zq,<- j8,hd];rfl) λj r' x' h1 h2=>?_
    by_cases hj:j<acc.length
    ·rw[QU hj] at h1
     exact hg j r' x' h1 h2
    ·rw[Z6 (by omega)] at h1
     obtain⟨hj2,_⟩:=Qs.mp h1
     have:j=acc.length:=by simp at hj2;omega
     subst this
     rw[Nat.sub_self] at h1
     cases h1
     rw[hx] at h2
     cases h2
     exact hr
 exact key hs [] (λ_ h=>h) (by simp) rfl (by simp)
theorem z0i(h:Hou)(z:Stz):(decide (z.rooms.length=h.hands.length) && (decide (z.flags.length=h.flags) && decide (z.words.length=h.lines)) && ((z.rooms.zip h.hands).all (λp=>thI (p.1,(p.2.n:Int))) && ((z.flags.all λf=>decide (f=0) || decide (f=1)) && (z.words.flatten.all λc=>decide (c ∈ h.ls)))))=zch h z:=by
 unfold zch zbq
 have e1:(z.rooms.zip (h.hands.map λx=>(x.n:Int))).all thI=(z.rooms.zip h.hands).all (λp=>thI (p.1,(p.2.n:Int))):=by
  rw[List.zip_map_right,List.all_map]
  rfl
 have e2:z.words.flatten.all (λc=>decide (c ∈ h.ls))=z.words.all (zhm h.ls):=by
  rw[List.all_flatten]
  rfl
 have e3:z.flags.length=h.flags->(z.flags.zip (Qf h.flags 2)).all thI=(z.flags.all λf=>decide (f=0) || decide (f=1)):=λhf=>by
  have key:∀ (l:List Int),(l.zip (Qf l.length 2)).all thI=l.all λf=>decide (f=0) || decide (f=1):=by
   intro l
   induction l with
   | nil=>rfl
   | cons f l ih =>
     rw[Qm,QV,jU,jL,jL,ih]
     congr 1
     unfold thI
     rw[JW]
     simp only[Qv,JY,decide_eq_true_eq]
     omega
  rw[<- hf]
  exact key z.flags
 rw[Qb,QN,e1,e2]
 by_cases hf:z.flags.length=h.flags
 ·rw[e3 hf,decide_eq_true hf]
  simp only[QO]
  cases decide (z.rooms.length=h.hands.length) <;> cases decide (z.words.length=h.lines) <;> cases (z.rooms.zip h.hands).all (λp=>thI (p.1,(p.2.n:Int))) <;> simp
 ·rw[decide_eq_false hf]
  simp
theorem zpl(a b:List Nat){neg:Bool}:eqF neg (.tuple (a.map nD)) (.tuple (b.map nD))=some (.o (.bool (if neg then !decide (a=b) else decide (a=b)))) :=
 zhs (zc8 a) (zc8 b) (by decide) (by rw[decide_eq_true_eq];exact⟨λe=>by rw[e],λe=>zmr (jl e)⟩)
theorem zkl(z:Stz):flats [.tuple (z.rooms.map iD),.tuple (z.flags.map iD),.tuple (z.words.map wD)]=true:=by
 show(flats _ && (flats _ && (flats _ && true)))=true
 rw[zal (λ_=>rfl),zal (λ_=>rfl),zal zek]
 rfl
theorem zwy(a b c:Int):Sl 1 (.tuple [.int a,.int b,.int c]):=zb5 (zjt a) (zb5 (zjt b) (zb5 (zjt c) (zgl _)))
theorem zvv(a b c d e f:Nat){neg:Bool}:eqF neg (.list [.int a,.int b,.int c]) (.list [.int d,.int e,.int f])=some (.o (.bool (if neg then !(decide (a=d) && (decide (b=e) && decide (c=f))) else(decide (a=d) && (decide (b=e) && decide (c=f)))))) :=
 zhs (zwy a b c).list (zwy d e f).list (by decide) (by
  simp only[Qv,decide_eq_true_eq,PyData.list.injEq,jx,PyData.int.injEq,and_true]
  omega)
theorem zil(ws:List (List Nat))(hl:ws.flatten.length<=16777216):∃ ys:List Str,Yl (ws.map wD) = .tuple (ys.map .str)/\(ys.map (·.length)).sum+ys.length * (Qp "").length<=16777216/\J0 "" ys=tx ws.flatten:=by
 obtain⟨ys,e,h,j⟩:=zzk ws hl
 exact⟨ys,by rw[<- qJ e],h,j⟩
theorem zne{α:Type}{f:α->PyData}:∀ {zs:List PyData},(∀ z ∈ zs,∃ a,z=f a)->∃ as:List α,zs=as.map f
 | [],_=>⟨[],rfl⟩
 | z::zs,h=>by
   obtain⟨a,rfl⟩:=h z Qj
   obtain⟨as,rfl⟩:=zne λy hy=>h y (Qe _ hy)
   exact⟨a::as,rfl⟩
theorem zoq{α:Type}{f:α->PyData}{P:α->Prop}:∀ {zs:List PyData},(∀ z ∈ zs,∃ a,P a/\z=f a)->∃ as:List α,zs=as.map f/\∀ a ∈ as,P a
 | [],_=>⟨[],rfl,by simp⟩
 | z::zs,h=>by
   obtain⟨a,ha,rfl⟩:=h z Qj
   obtain⟨as,rfl,hs⟩:=zoq λy hy=>h y (Qe _ hy)
   exact⟨a::as,rfl,λb hb=>by rcases Qt.mp hb with rfl|hb;exact ha;exact hs b hb⟩
def wsR(s:Sta):List (List Nat):=s.rooms.map numT ++ [[47]]++s.flags.map numT ++ [[47]]
theorem z0n(s:Sta):s.rooms.map (λn=>wD (numT n)) ++ [Z7 (Qp "/")]++s.flags.map (λn=>wD (numT n)) ++ [Z7 (Qp "/")]=(wsR s).map wD:=by
 rw[show Qp "/" = tx [47] by decide +kernel]
 unfold wsR
 simp only[QR,QB,Q2,List.map_nil]
 rfl
theorem zz5(s:Sta):wsR s++s.words.map shW=wsS s:=by
 unfold wsR wsS
 simp
theorem z0c{s:Sta}(h:StT s):totW (wsS s)<=16777216:=by
 have hb:∀ w ∈ wsS s,w.length<=100000:=λw hw=>by
  rw[<- zlr] at hw
  obtain⟨p,hp,rfl⟩:=Qu.mp hw
  have:=(zgp h).1 p hp
  cases p with
  | inl n=>exact Q4 (zbz n this).2.1 (by decide)
  | inr w=>exact this.len
 have key:∀ ws:List (List Nat),(∀ w ∈ ws,w.length<=100000)->totW ws<=ws.length * 100001:=λws=>by
  induction ws with
  | nil=>intro _;exact QH _
  | cons w ws ih =>
    intro h
    have h1:=h w Qj
    have h2:=ih λv hv=>h v (Qe _ hv)
    rw[za4,Qm]
    omega
 have h1:=key _ hb
 have h2:=(zgp h).2
 have h3:(stPs s).length=(wsS s).length:=by rw[<- zlr,Qb]
 have:=Yx 100001 h2
 omega
theorem zyv{c:Nat}(h:c ∈ abc):97<=c/\c<123:=by have:=mem_abc.mp h;omega
theorem zho{x y:PyData}{b:Bool}:idxF (.list [x,y]) (.int (if b=true then 1 else 0))=some (.o (if b=true then y else x)):=by cases b <;> rfl
theorem z1v(w:List Nat):(if decide (w = [])=true then Z7 (Qp ".") else wD w)=wD (shW w):=by
 unfold shW
 by_cases h:w = []
 ·rw[decide_eq_true h,if_pos rfl,if_pos h,zgu]
 ·rw[decide_eq_false h,if_neg Qn,if_neg h]
theorem z5a(w:List Nat):(if decide (w = [46])=true then Z7 (Qp "") else wD w)=wD (unW w):=by
 unfold unW
 by_cases h:w = [46]
 ·rw[decide_eq_true h,if_pos rfl,if_pos h,zd2]
 ·rw[decide_eq_false h,if_neg Qn,if_neg h]
theorem stB_iff{h:Hou}{s:Sta}:zch h (upZ s)=true↔zbq (s.rooms.map Ja) (h.hands.map λx=>(x.n:Int))=true/\zbq (s.flags.map Ja) (Qf h.flags 2)=true/\s.words.length=h.lines/\∀ w ∈ s.words,∀ c ∈ w,c ∈ h.ls:=by
 unfold zch upZ zhm
 simp only[Qv,decide_eq_true_eq,Q9]
theorem z2x{b1 b2:Bool}{s1 s2:Sta}{ws:List (List Nat)}:Yl [if b1=true then .tuple (s2.rooms.map nD) else .tuple (s1.rooms.map nD),if b2=true then .tuple (s2.flags.map nD) else .tuple (s1.flags.map nD),.tuple (ws.map wD)]=zaq ⟨if b1=true then s2.rooms else s1.rooms,if b2=true then s2.flags else s1.flags,ws⟩:=by
 cases b1 <;> cases b2 <;> rfl
theorem z2w(n:Nat):zdv 0 n=(Jb n).map nD:=by
 unfold zdv
 exact Zl λk _=>by rw[Int.zero_add]
abbrev rdD(m:Nat)(w:List Nat):PyData := .list ((rdK m w).map nD)
theorem z4n(m:Nat)(ws:List (List Nat)):Sl 2 (.tuple (ws.map (rdD m))):=zjr λw _=>(zc8 (rdK m w)).list
theorem zlu(m:Nat)(ws:List (List Nat)):inF false (.list []) (.tuple (ws.map (rdD m)))=some (.o (.bool (decide (∃ w ∈ ws,rdK m w = [])))):=by
 have:=z1n (neg:=false) (d := .list []) (es:=ws.map (rdD m)) (zc8 []).list (z4n m ws) (by decide) (q:=decide (∃ w ∈ ws,rdK m w = [])) (by
  rw[decide_eq_true_eq,Qu]
  constructor
  ·rintro⟨w,hw,e⟩;exact⟨w,hw,by show JI _=_;rw[e];rfl⟩
  ·rintro⟨w,hw,e⟩
   refine⟨w,hw,?_⟩
   have:=qJ e
   exact jH.mp this)
 rw[if_neg Qn] at this
 exact this
theorem zry{m:Nat}{w:List Nat}(h:rdK m w ≠ []):idxF (rdD m w) (.int 0)=some (.o (nD ((rdK m w).headD 0))):=by
 cases e:rdK m w with
 | nil=>exact absurd e h
 | cons x r=>show idxF (.list ((rdK m w).map nD)) _=_;rw[e];exact zfj (i:=0) rfl
theorem zig:∀ ws:List (List Nat),ws.flatten.length<=totW ws
 | []=>QH _
 | w::ws=>by rw[QY,Qg,za4];have:=zig ws;omega
theorem zrg:∀ ws:List (List Nat),totW (ws.map unW)<=totW ws
 | []=>Qo _
 | w::ws=>by
   rw[Q2,za4,za4]
   have:=zrg ws
   have:(unW w).length<=w.length:=by unfold unW;split <;> simp
   omega
theorem zut(ws:List (List Nat))(k:Nat):totW (ws.drop k)<=totW ws:=by have:=zoa ws k;omega
theorem zy1{w:List Nat}(h:Lng w):Lng (unW w):=by
 unfold unW
 split
 ·exact lng0
 ·exact h
theorem zj7:∀ {l:List Nat},(∀ r ∈ l,r<1000)->totW (l.map numT)<=4 * l.length
 | [],_=>Qo _
 | n::l,h=>by
   rw[Q2,za4,Qm]
   have:=(zbz n (h n Qj)).2.1
   have:=zj7 λr hr=>h r (Qe _ hr)
   omega
theorem zs6:∀ ws:List (List Nat),totW (ws.map shW)<=totW ws+ws.length
 | []=>Qo _
 | w::ws=>by
   rw[Q2,za4,za4,Qm]
   have:=zs6 ws
   have:(shW w).length<=w.length+1:=by unfold shW;split <;> simp
   omega
theorem zhf{s:Sta}(h:StT s)(ht:totW s.words<=50000):Lng (stT s)/\(stT s).length<=totW s.words+300:=by
 have r1:=h.rooms
 have r2:=h.flags
 have r3:=h.words
 have t1:=zj7 h.num.rooms
 have t2:=zj7 h.num.flags
 have t3:=zs6 s.words
 have tot:totW (wsS s)<=totW s.words+300:=by
  unfold wsS
  rw[zcu,za4,zcu,za4]
  simp only[Qm,ZE]
  omega
 unfold stT
 refine⟨zno (by decide) (by omega) λw hw x hx=>?_,Q4 (zih _) tot⟩
 rw[<- zlr] at hw
 obtain⟨p,hp,rfl⟩:=Qu.mp hw
 have:=(zgp h).1 p hp
 cases p with
 | inl n=>have:=(zbz n this).2.2 x hx;omega
 | inr v=>exact this.sgn x hx
theorem zzp{h:Hou}{t:List Nat}(hm:h.hands.length<=10)(hf:h.flags<=10)(hl:h.lines<=10)(ht:Lng t)(h9:t.length<=900)(hL:(cutW 32 t).length=h.hands.length+h.flags+h.lines+2)
 (g1:∀ w ∈ (cutW 32 t).take h.hands.length,rdK 3 w ≠ []) (g2:∀ w ∈ ((cutW 32 t).drop (h.hands.length+1)).take h.flags,rdK 2 w ≠ []):StT (zc1 h (cutW 32 t))/\totW (zc1 h (cutW 32 t)).words<=901:=by
 have e:=zjx 32 t
 refine⟨⟨?_,?_,?_,?_,⟨λr hr=>?_,λr hr=>?_⟩⟩,?_⟩
 ·show(Ym _ _).length<=_
  rw[Qb,Qz];omega
 ·show(Ym _ _).length<=_
  rw[Qb,Qz];omega
 ·show(Ym _ _).length<=_
  rw[Qb,QD];omega
 ·intro w hw
  obtain⟨v,hv,rfl⟩:=Qu.mp hw
  exact zy1 (zc3 ht (Zu hv))
 ·obtain⟨v,hv,rfl⟩:=Qu.mp hr
  have:=(znc (g1 v hv)).1
  omega
 ·obtain⟨v,hv,rfl⟩:=Qu.mp hr
  have:=(znc (g2 v hv)).1
  omega
 ·show totW (Ym unW _)<=_
  have a:=zrg ((cutW 32 t).drop (h.hands.length+2+h.flags))
  have b:=zut (cutW 32 t) (h.hands.length+2+h.flags)
  omega
theorem zwx{A B C:List PyData}(a:flats A=true)(b:flats B=true)(c:flats C=true):flat (.tuple [.tuple A,.tuple B,.tuple C])=true:=by
 show(flats A && (flats B && (flats C && true)))=true
 rw[a,b,c]
 rfl
theorem zzi(h:Hou)(ws:List (List Nat)):Yl [.tuple ((ws.take h.hands.length).map λw=>nD ((rdK 3 w).headD 0)),.tuple (((ws.drop (h.hands.length+1)).take h.flags).map λw=>nD ((rdK 2 w).headD 0)),.tuple ((ws.drop (h.hands.length+2+h.flags)).map λw=>wD (unW w))]=zaq (zc1 h ws):=by
 unfold zaq zc1
 simp only[QB]
 rfl
theorem znw{ws:List (List Nat)}{a:Nat}(h:a<ws.length):totW (ws.take a)+totW (ws.drop (a+1))+((ws.getD a []).length+1)=totW ws:=by
 have e:=zoa ws a
 rw[zxa (zkd (z := []) h),za4] at e
 omega
theorem z0x{s:Sta}(h:StT s):Al 7 (zaq s):=by
 have r1:=h.rooms
 have r2:=h.flags
 have r3:=h.words
 refine⟨by show 3<=100000;decide,zbh s,λd hd=>?_⟩
 simp only[Qt,QG,or_false] at hd
 rcases hd with rfl|rfl|rfl
 ·exact⟨by rw[Qb];omega,zal (λ_=>rfl) _,λd hd=>by obtain⟨n,_,rfl⟩:=Qu.mp hd;exact trivial⟩
 ·exact⟨by rw[Qb];omega,zal (λ_=>rfl) _,λd hd=>by obtain⟨n,_,rfl⟩:=Qu.mp hd;exact trivial⟩
 ·exact⟨by rw[Qb];omega,zal (λ_=>rfl) _,λd hd=>by obtain⟨w,hw,rfl⟩:=Qu.mp hd;exact(h.lng w hw).ok⟩
theorem zo2{s:Sta}(h:StT s):Al 8 (.tuple [.str (Qp "told"),zaq s]):=by
 refine⟨by show 2<=100000;decide,?_,λd hd=>?_⟩
 ·show(true && (flat (zaq s) && true))=true
  rw[show flat (zaq s)=true from zbh s]
  rfl
 ·simp only[Qt,QG,or_false] at hd
  rcases hd with rfl|rfl
  ·show ZX _=true
   decide +kernel
  ·exact z0x h
theorem zev{h:Hou}{s:Sta}{n:Nat}(hh:HoS h)(hs:StG h n s)(hn:n<=50):StT s/\totW s.words<=3 * (n+1)/\∀ w ∈ s.words,Sml w:=by
 have I:=zcq hh.ok hs.is
 have a1:=hh.hands
 have a2:=hh.flags
 have a3:=hh.lines
 have low:∀ w ∈ s.words,∀ c ∈ w,c<128:=λw hw c hc=>by have:97<=c/\c<123:=hh.ok.low c (I.lets w hw c hc);omega
 refine⟨⟨by rw[I.rooms];omega,by rw[I.flags];omega,by rw[I.words];omega,λw hw=>⟨by have:=hs.short w hw;omega,low w hw⟩,I.num⟩,?_,λw hw=>⟨by have:=hs.short w hw;omega,low w hw⟩⟩
 have key:∀ ws:List (List Nat),(∀ w ∈ ws,w.length<=n)->totW ws<=ws.length * (n+1):=λws=>by
  induction ws with
  | nil=>intro _;exact QH _
  | cons w ws ih =>
    intro h
    have h1:=h w Qj
    have h2:=ih λv hv=>h v (Qe _ hv)
    rw[za4,Qm,qc]
    omega
 have:=key _ hs.short
 rw[I.words] at this
 exact Q4 this (Yx _ a3)
theorem z4a{s:Sta}(h:StT s):Sl 2 (zaq s):=zb5 (zc8 _) (zb5 (zc8 _) (zb5 (zjr λw hw=>zeq (h.lng w hw).ok) (zgl _)))
theorem zhi{o:Option Sta}(h:∀ s,o=some s->StT s):Sl 3 (zfp o):=by
 cases o with
 | none=>exact(zb5 (zeq (by decide +kernel)) (zgl 0)).more (by decide)
 | some s=>exact zb5 ((zeq (x := "told") (by decide +kernel)).more (by decide)) (zb5 (z4a (h s rfl)) (zgl _))
theorem zft{o:Option Sta}(h:∀ s,o=some s->StT s){neg:Bool}:eqF neg (zfp o) (.tuple [.str (Qp "refused")])=some (.o (.bool (if neg then !o.isNone else o.isNone))) :=
 zhs (zhi h) (zhi (o:=none) (by simp)) (by decide) (by
  cases o with
  | none=>simp
  | some s =>
    simp only[Option.isNone_some,ZP,false_iff]
    intro e
    have:=jl e
    simp at this)
theorem zni{h:Hou}{s:Sta}{n:Nat}(hh:HoS h)(hs:StG h n s)(hn:n<=50):StW s/\s.words.length=h.lines:=by
 have I:=zcq hh.ok hs.is
 have a1:=hh.hands
 have a2:=hh.flags
 have a3:=hh.lines
 obtain⟨_,_,m⟩:=zev hh hs hn
 exact⟨⟨by rw[I.rooms];omega,by rw[I.flags];omega,by rw[I.words];omega,m⟩,I.words⟩
def smH(h:Hou):Hou:=⟨h.ls.take 1,h.lines,h.flags,h.hands.map λ_=>⟨1,[]⟩⟩
theorem z1s{h:Hou}(hh:HoS h):HoS (smH h):=by
 have ne:=Jw.mpr hh.ok.ne
 refine⟨⟨λc hc=>hh.ok.low c (Zv hc),λe=>?_,?_,hh.ok.lines,hh.ok.flags,?_,λx hx=>?_,λx hx=>?_⟩,?_,hh.flags,hh.lines,λx hx=>?_⟩
 ·have:(h.ls.take 1).length=0:=by rw[show h.ls.take 1 = [] from e];rfl
  rw[Qz] at this
  omega
 ·show(h.ls.take 1).length<=100
  rw[Qz]
  omega
 ·show(h.hands.map _).length<=100
  rw[Qb]
  exact hh.ok.many
 ·obtain⟨_,_,rfl⟩:=Qu.mp hx
  exact⟨by decide,by decide⟩
 ·obtain⟨_,_,rfl⟩:=Qu.mp hx
  exact⟨by decide,by simp⟩
 ·show(h.hands.map _).length<=10
  rw[Qb]
  exact hh.hands
 ·obtain⟨_,_,rfl⟩:=Qu.mp hx
  decide
theorem zsa(o:Option Sta):(if(o.isNone)=true then Yl [.str (Qp "refused")] else .tuple [.str (Qp "told"),optS o])=zfp o:=by cases o <;> rfl
theorem ztl{o:Option Sta}(h:∀ s,o=some s->StT s):eqF true (zfp o) (zfp o)=some (.o (.bool false)):=by
 have:=zhs (neg:=true) (zhi h) (zhi h) (by decide) (q:=true) (by simp)
 rw[if_pos rfl] at this
 exact this
theorem zu9{h:Hou}(hh:HoS h){t:List Nat}(ht:Lng t){s:Sta}(e:za7 h t=some s):StT s:=by
 obtain⟨b,_⟩:=(zci hh.ok).mp e
 have I:=zcq hh.ok b
 have a1:=hh.hands
 have a2:=hh.flags
 have a3:=hh.lines
 refine⟨by rw[I.rooms];omega,by rw[I.flags];omega,by rw[I.words];omega,λw hw=>?_,I.num⟩
 have m:shW w ∈ cutW 32 t:=by
  rw[zii hh.ok e]
  unfold wsS
  exact Qw _ (Qe _ (Qw _ (Qe _ (Qu.mpr ⟨w,hw,rfl⟩))))
 have l:=zc3 ht m
 unfold shW at l
 split at l
 ·rename_i e0;rw[e0];exact lng0
 ·exact l
theorem z0u{h:Hou}{s:Sta}(hh:HoS h)(hs:StG h 4 s):SzW 10 (upZ s):=by
 have I:=zcq hh.ok hs.is
 have a1:=hh.hands
 have a2:=hh.flags
 have a3:=hh.lines
 refine⟨?_,?_,?_,λw hw=>⟨hs.short w hw,λc hc=>hh.ok.low c (I.lets w hw c hc)⟩⟩
 ·show(s.rooms.map _).length<=_;rw[Qb,I.rooms];omega
 ·show(s.flags.map _).length<=_;rw[Qb,I.flags];omega
 ·show s.words.length<=_;rw[I.words];omega
theorem z1t{n:Nat}{z:Stz}(h:SzW n z)(hn:n<=100):z.rooms.length<=1000/\z.flags.length<=1000/\z.words.length<=100001/\(∀ w ∈ z.words,Lng w)/\z.words.flatten.length<=1000000:=by
 have a1:=h.rooms
 have a2:=h.flags
 have a3:=h.words
 have lng:∀ w ∈ z.words,Lng w:=λw hw=>⟨by have:=(h.sml w hw).1;omega,λc hc=>by have:97<=c/\c<123:=(h.sml w hw).2 c hc;omega⟩
 refine⟨by omega,by omega,by omega,lng,?_⟩
 have key:∀ ws:List (List Nat),(∀ w ∈ ws,w.length<=4)->ws.flatten.length<=4 * ws.length:=λws=>by
  induction ws with
  | nil=>intro _;exact QH _
  | cons w ws ih =>
    intro h
    have h1:=h w Qj
    have h2:=ih λv hv=>h v (Qe _ hv)
    rw[QY,Qg,Qm]
    omega
 have:=key _ λw hw=>(h.sml w hw).1
 omega
theorem zm3{s:Sta}(h:StT s)(ht:totW s.words<=50000):(upZ s).rooms.length<=1000/\(upZ s).flags.length<=1000/\(upZ s).words.length<=100001/\(∀ w ∈ (upZ s).words,Lng w)/\(upZ s).words.flatten.length<=1000000:=by
 have a1:=h.rooms
 have a2:=h.flags
 have a3:=h.words
 refine⟨?_,?_,?_,h.lng,?_⟩
 ·show(s.rooms.map _).length<=_;rw[Qb];omega
 ·show(s.flags.map _).length<=_;rw[Qb];omega
 ·show s.words.length<=_;omega
 ·show s.words.flatten.length<=_;have:=zig s.words;omega
section
variable {ι κ : Type} {P : Program} {w : World} {K : Qa} {mg : Str → Option Value} {base : Heap} {k : Nat} {X : ι → Cx} {O : κ → Ob} {a b : Expr} {fa fb : DE} {pos : Pos}
theorem zre(ha:E3 K X O a fa)(hb:E3 K X O b fb):T3 K X O (.Compare a [.IsNot] [b] pos) (bD (opDE (isBF true) fa fb)):=zdw (λi=>z2i (neg:=true)) (λ_=>zx2) ha hb (zbm b)
end
section
variable {X : Cx}
def zmq(K:Qa):V->List V->Hp->VK->Prop:=λx vs H Q=>∃ sep p ys,x = .str sep/\vs = [.ref p]/\SqT K H p (ys.map V.str)/\(ys.map (·.length)).sum+ys.length * sep.length<=16777216/\Q (.str (J0 sep ys)) H
theorem zuz:MtR X "str.join" (zmq X.K):=by
 intro pins s σ H x vs v us Q I rx rv h
 obtain⟨sep,p,ys,rfl,rfl,hH,hz,q⟩:=h
 obtain⟨t,rfl⟩:=rx
 obtain⟨u,rfl,ru⟩:=Vals.one rv
 obtain rfl:u=QC p:=ru
 obtain⟨zs,r,tu,_⟩:=I.tuple hH
 exact join_tuple tu (by simpa using zfz r) hz λt' k=>⟨.str _,H,I.tok _,⟨_,rfl⟩,q⟩
end
section
variable {K : Qa} {O : Ob}
def zr1(fo:DE)(fa:DE):DE:=λρ Q=>fo ρ λr0=>∃ sep,r0.d = .str sep/\fa ρ λr=>∃ ys:List Str,r.d = .tuple (ys.map .str)/\(ys.map (·.length)).sum+ys.length * sep.length<=16777216/\Q (.o (.str (J0 sep ys)))
theorem zvc{to ta:TE}{fo fa:DE}(ho:ED K O to fo)(ha:ED K O ta fa):ED K O (tBM K "str" (zmq K) to (zbu ta tNil)) (zr1 fo fa):=λσ H ρ Q Qd S hf k=>by
 refine ho σ H ρ _ _ S hf λv H1 r0 s1 o1 ⟨sep,e0,q1⟩=>?_
 have i0:=o1.is S.ok S.p
 rw[e0] at i0
 cases i0
 refine⟨rfl,?_⟩
 refine ha σ H1 ρ _ _ (S.stp s1) q1 λw H2 r s2 o2 ⟨ys,e,hz,q⟩=>?_
 have i1:=o2.is S.ok (s1.p S.p)
 rw[e] at i1
 cases i1 with
 | tuple h1 z1 =>
   rw[zd8 z1] at h1
   exact⟨sep,_,ys,rfl,rfl,h1,hz,k _ H2 (.o _) (s1.trans s2) (Is.str _) q⟩
end
section
variable {ι κ : Type} {P : Program} {w : World} {K : Qa} {mg : Str → Option Value} {base : Heap} {k : Nat} {X : ι → Cx} {O : κ → Ob} {a b : Expr} {fa fb : DE} {pos : Pos}
theorem zkq{apos:Pos}(C:Ctx3 P w K mg base k X)(ho:E3 K X O a fa)(hb:E3 K X O b fb)(hbase:∀ i,attributeBase a "join" (X i).env (eval a (X i).env)=eval a (X i).env:=by intro i;rfl)
 (hfew:∀ i,((backTo pos (starEach [b] (X i).env)).all (λx=>!x.1) && (backToKw pos (keywordEach [] (X i).env)).all (λx=>x.1.isSome) && decide (([b]:List Expr).length+([]:List Keyword).length+(if([]:List Keyword).isEmpty then 0 else 1)<30))=true:=by intro i;rfl)
 (hline:(apos.endLine == pos.line)=true:=by rfl) (hs:∀ i,starEach [b] (X i).env = [(false,eval b (X i).env)]:=by intro i;rfl):E3 K X O (.Call (.Attribute a "join" apos) [b] [] pos) (zr1 fa fb) :=
 let ⟨_,p1,d1⟩:=ho;let ⟨_,p2,d2⟩:=hb; ⟨tBM K "str" (zmq K) _ (zbu _ tNil),λi=>by
  have h:=zjk (apos:=apos) (cpos:=pos) J9 jz j0 (zuz (X:=X i)) (p1 i) (zbo (p2 i) zcl (hs i)) (hbase i) (hfew i) hline (hs i)
  rw[C.hK] at h
  exact h,λj=>zvc (d1 j) (d2 j)⟩
end
section
variable {ι κ : Type} {K : Qa} {X : ι → Cx} {O : κ → Ob} {a : Expr} {fa : DE} {pos : Pos}
theorem zja(n:Nat){x:Str}{px:Pos}(ha:E3 K X O a fa)(hN:∀ i,(X i).N.Nodup:=by intro i;exact of_decide_eq_true (by kernel_rfl))(hi:∀ i,(X i).N[n]? = some x:=by intro i;rfl)(hx:∀ i,Loc (X i).env.scope x:=by intro i;first|exact Or.inl rfl|exact Or.inr rfl)
 (hs:∀ i,swapsWith a (some (.Name x px)) pos.line (X i).env=pure false:=by intro i;rfl) (hf:∀ i,(X i).fn x=true\/(X i).env.scope.names.lookup x=some .local:=by intro i;first|exact .inl rfl|exact .inr rfl):S3 K X O (.Assign [.Name x px] a pos) (asgI n fa) :=
 let ⟨_,q,d⟩:=ha; ⟨_,λi=>zcn (hN i) (hi i) (hx i) (q i) (hs i) (hf i),λj=>zx0 (d j)⟩
end
def z0s(K:Qa):List V->Hp->VK->Prop:=λxs H Q=>∃ p ys,xs = [.ref p]/\(SqL K H p ys\/SqT K H p ys)/\∀ l,H l=none->Q (.ref l) (upd H l (.lst ys))
def zrn(K:Qa):TE:=tLst (zbu (tCB (z0s K) (zbu (tVar 0) tNil)) (zbu (tC (.int 0)) (zbu (tC (.int 0)) (zbu (tC (.int 0)) tNil))))
theorem zz4{P:Program}{w:World}{K:Qa}{mg:Str->Option Value}{base:Heap}{k:Nat}{st st0:Stmt}{rest:List Stmt}{N:List Str}{f₁:Addr}{fd₁:FuncData}(Fu:Fun K "law" "law" st f₁ fd₁)(S:FnScope ("_law_script" :: "_law_state" :: N) ["_law_script"] (zah st))
 (hs:zbn st=st0::rest)
 (first:∀ (f:Addr) (cdv:Value) (A:Around) (outer:List Env) (s:Shared) (H:Hp) (E:XK),Ctx3 P w K mg base k (zec P w K mg base ("_law_script" :: "_law_state" :: N) "law" (zah st) f cdv A outer s H E) ->
  PS (zec P w K mg base ("_law_script" :: "_law_state" :: N) "law" (zah st) f cdv A outer s H E ()) st0 (tAsg (zrn K) (zbi 1)))
 (body:∀ (f:Addr) (cdv:Value) (A:Around) (outer:List Env) (s:Shared) (H:Hp) (E:XK),Ctx3 P w K mg base k (zec P w K mg base ("_law_script" :: "_law_state" :: N) "law" (zah st) f cdv A outer s H E) ->
  ∃ g,Ss3 K (zec P w K mg base ("_law_script" :: "_law_state" :: N) "law" (zah st) f cdv A outer s H E) (λj:Addr × Addr=>stOb j.1 j.2) rest g/\g { nx:=λ_=>False,rt:=λr=>r = .o (.bool true) } (none::some .ob::Qf N.length none)) :
 FnOk P w K mg base CX0 (k+1) f₁ fd₁ ["_law_script"] (zi2 K):=by
 refine Fu.ok S (λvs H Q E h=>by obtain⟨a,ns,rfl,_⟩:=h;rfl) (λcdv A outer s H vs Q E hr h=>?_)
 obtain⟨a,ns,rfl,hS,hl,q⟩:=h
 have C:=zin (P:=P) (w:=w) (K:=K) (mg:=mg) (base:=base) (N := "_law_script" :: "_law_state" :: N) (x := "law") (sc:=zah st) (f:=f₁) (cdv:=cdv) (A:=A) (outer:=outer) (s:=s) (H:=H) (E:=E) hr
 obtain⟨g,⟨t,h1,h2⟩,h3⟩:=body f₁ cdv A outer s H E C
 have sz:=sizeLine_eq
 refine⟨tSeq (tAsg (zrn K) (zbi 1)) t,?_,?_⟩
 ·rw[hs]
  exact zbg (first f₁ cdv A outer s H E C) (h1 ())
 ·refine⟨_,rfl,a,_,rfl,.inl hS,λl hln=>⟨by show 4<=sizeLine;omega,λp hp=>?_⟩⟩
  have pl:p ≠ l:=λe=>by rw[e,zar] at hp;cases hp
  have pa:StAt (upd (upd H l (.lst (ns.map V.int))) p (.lst [V.ref l,V.int 0,V.int 0,V.int 0])) p l 0 0 0 ns:=⟨pl,zar,by rw[zaf (ZD pl),zar],by decide,by decide⟩
  refine h2 (p,l) _ (λ_ _=>False) _ _ _ _ _ ⟨zzd p l,⟨0,0,0,ns,pa⟩,⟨0,0,0,ns,pa⟩,.refl _ _,λ_ _ _ z=>z.elim,λ_ _ z=>z.elim,λi r e=>?_,?_⟩ h3 ⟨λ_ _ _ _ _ _ z=>z.elim,λ_ _ _ _ _ _ z=>z.elim,λ_ _ _ _ _ _ z=>z.elim,λH' v r _ o e=>?_⟩
  ·match i with
   | 0=>cases e
   | 1=>cases e;exact⟨_,rfl,rfl⟩
   | i+2 =>
     rw[ZV,ZV,Z4] at e
     split at e <;> cases e
  ·rw[QX]
   simp[L2.start]
  ·subst e
   cases o
   exact q H'
end L3
namespace L33
open PySem PySem.Spec
open PyProof.Rows hiding St
open L2 L3 L6
local macro_rules | `(tactic| infer_instance) => `(tactic| first|refine⟨_, _, rfl, rfl, ?_⟩|refine⟨_, eqI, ?_⟩|refine⟨_, neI, ?_⟩|refine⟨_, rfl, ?_⟩|refine⟨rfl, ?_⟩|refine⟨(by show _ ≤ sizeLine; rw[sizeLine_eq]; exact j2 rfl), ?_⟩|refine⟨_, _, rfl, ?_⟩|refine⟨_, _, _, rfl, ?_⟩|refine iteT ?_|refine iteF ?_|refine Or.inl ⟨rfl, ?_⟩|refine Or.inr ⟨rfl, ?_⟩|refine⟨_, eqS_t (by decide +kernel), ?_⟩|refine⟨_, eqS_f (by decide +kernel) (by decide +kernel), ?_⟩|refine⟨_, inS_t (by decide +kernel), ?_⟩|refine⟨_, inS_f (by decide +kernel), ?_⟩)
section
variable {P : Program} {w : World} {K : Qa} {mg : Str → Option Value} {base : Heap} {k : Nat}
abbrev zgt:Stmt:=top 10
theorem zqi:FnScope ["word"] ["word"] (zah zgt):=⟨rfl,rfl,rfl,by decide +kernel,rfl,by decide +kernel,by decide +kernel⟩
theorem zfe(B:Blt mg)(T:Top3 K mg "show_word" zgt):Def3 P w K mg base 1 "show_word" ["word"] (spO K (λ_=>True) 1 ztx):=by
 refine mk_O T zqi (λ_ _ _ _ _ _ us hl=>len1 hl λ_=>rfl) rfl λf cdv A outer s H E O hφ C=>⟨_,(zai (zao (e_if (t_eq C (zab 0) zam) zam (zab 0)))),λds Qr hn q=>?_⟩
 obtain⟨w,rfl,hw,q⟩:=q
 have e0:Qp "" = tx []:=by decide +kernel
 (repeat first|refine⟨_,zb3 e0 hw (by exact⟨by decide,by simp⟩),?_⟩|refine⟨zb3 e0 hw (by exact⟨by decide,by simp⟩),?_⟩|infer_instance)
 rw[if_neg Qn]
 unfold shW at q
 by_cases h:w = []
 ·rw[decide_eq_true h]
  rw[if_pos h] at q
  refine iteT ?_
  rw[show Qp "." = tx [46] by decide +kernel]
  exact q
 ·rw[decide_eq_false h]
  rw[if_neg h] at q
  refine iteF ?_
  (repeat infer_instance)
  exact q
end
section
variable {P : Program} {w : World} {K : Qa} {mg : Str → Option Value} {base : Heap} {k : Nat}
abbrev zjy:Stmt:=top 11
theorem zux:FnScope ["less", "more", "found", "start", "letter", "place"] ["less", "more"] (zah zjy):=⟨rfl,rfl,rfl,by decide +kernel,rfl,by decide +kernel,by decide +kernel⟩
theorem zif(B:Blt mg)(T:Top3 K mg "places" zjy):Def3 P w K mg base 1 "places" ["less", "more"] (spO K (λ_=>True) 2 zob):=by
 refine mk_O T zux (λ_ _ _ _ _ _ us hl=>len2 hl λ_ _=>rfl) rfl λf cdv A outer s H E O hφ C=>⟨_,(zad (zan 2 (za5 zac)) (zad (zan 3 zae) (zad (zcz C (zcy (zjv (zab 0))) (zau (h:=1000) 4) (zad (zan 5 (zy2 C (zab 1) (zaa (zab 4) (zaa (zab 3) zac)))) (zad (s_if (t_lt (zab 5) zae) (zai (zao zcr)) zax) (zad (zlq 2 C (zab 5)) (zai (zan 3 (zas C (zab 5) zae))))))) (zai (z1d 2))))),λds Qr hn q=>?_⟩
 obtain⟨less,more,rfl,hs,hm,q0,q1⟩:=q
 have sz:=sizeLine_eq
 have hl:=hs.1
 have hl2:=hm.1
 refine⟨QH _,rfl,rfl,_,_,rfl,rfl,_,rfl,rfl,?_⟩
 refine zbk (λj ρ=>∃ (acc:List Nat) (start:Nat) (o4 o5:Option DV),ρ = [some (.im (tS less)),some (.im (tS more)),some (.own (acc.map λp => .int (p:Nat))),some (.im (.int (start:Nat))),o4,o5]/\plc less more 0 []=plc (less.drop j) more start acc/\acc.length<=j/\start<=more.length/\j<=less.length)
  ⟨[],0,none,none,rfl,rfl,Qo _,QH _,QH _⟩ (λρ ⟨acc,start0,o4,o5,e,h1,h2,h3,h4⟩=>?_) λj d ρ N hd hN ⟨acc,start0,o4,o5,e,h1,h2,h3,h4⟩=>?_
 ·subst e
  rw[zpk,Ys] at h1
  exact⟨_,rfl,q1 acc h1⟩
 ·subst e
  obtain⟨c,hc,rfl⟩:=zoy hd
  obtain⟨hlt,ec⟩:=Qs.mp hc
  rw[Zm hlt,ec] at h1
  refine⟨rfl,?_⟩
  refine⟨_,_,rfl,rfl,_,rfl,_,_,rfl,rfl,_,_,rfl,rfl,_,_,rfl,rfl,?_⟩
  rw[zxf h3]
  rw[show plc (c::less.drop (j+1)) more start0 acc=match zb0 c more start0 with|none=>none|some p=>plc (less.drop (j+1)) more (p+1) (acc ++ [p]) from rfl] at h1
  cases hf:zb0 c more start0 with
  | none =>
    rw[hf] at h1
    rw[show zh2 c more start0 = -1 by unfold zh2;rw[hf]]
    exact⟨_,_,rfl,rfl,_,rfl,_,rfl,q0 h1⟩
  | some p =>
    rw[hf] at h1
    rw[show zh2 c more start0=(p:Int) by unfold zh2;rw[hf]]
    obtain⟨_,b,_⟩:=ze4 hf
    obtain⟨b1,_⟩:=Qs.mp b
    refine⟨_,_,rfl,rfl,_,rfl,_,rfl,?_⟩
    rw[decide_eq_false (by omega)]
    refine iteF ⟨_,rfl,_,_,rfl,rfl,rfl,by rw[Qb];omega,_,_,rfl,rfl,_,rfl,rfl,hN _ ⟨acc ++ [p],p+1,some (.im (.str (sg c))),some (.im (.int (p:Nat))),?_,h1,by simp;omega,b1,hlt⟩⟩
    show[_,_,some (DV.own (acc.map (λp=>YM (p:Nat)) ++ [YM (p:Nat)])),some (DV.im (.int ((p:Int)+1))),_,_]=_
    rw[QR]
    rfl
end
section
variable {P : Program} {w : World} {K : Qa} {mg : Str → Option Value} {base : Heap} {k : Nat}
abbrev zga:Stmt:=top 12
theorem znz:FnScope ["less", "more"] ["less", "more"] (zah zga):=⟨rfl,rfl,rfl,by decide +kernel,rfl,by decide +kernel,by decide +kernel⟩
theorem zes(B:Blt mg)(zif:Def3 P w K mg base 1 "places" ["less", "more"] (spO K (λ_=>True) 2 zob))(T:Top3 K mg "lies_under" zga):Def3 P w K mg base 2 "lies_under" ["less", "more"] (spO K (λ_=>True) 2 zeg):=by
 refine mk_O T znz (λ_ _ _ _ _ _ us hl=>len2 hl λ_ _=>rfl) rfl λf cdv A outer s H E O hφ C=>⟨_,(zai (zao (zzl (zav C zif (λ_=>trivial) (zaa (zab 0) (zaa (zab 1) zac))) zcr))),λds Qr hn q=>?_⟩
 obtain⟨less,more,rfl,hs,hm,q⟩:=q
 rw[<- zq0] at q
 refine⟨_,_,rfl,rfl,_,_,rfl,rfl,rfl,less,more,rfl,hs,hm,λh=>⟨rfl,?_⟩,λps h=>⟨rfl,?_⟩⟩
 ·rw[h] at q;exact q
 ·rw[h] at q;exact q
end
section
variable {P : Program} {w : World} {K : Qa} {mg : Str → Option Value} {base : Heap} {k : Nat}
abbrev zik:Stmt:=top 14
theorem zqz:FnScope ["number", "count"] ["number", "count"] (zah zik):=⟨rfl,rfl,rfl,by decide +kernel,rfl,by decide +kernel,by decide +kernel⟩
theorem zgc(B:Blt mg)(T:Top3 K mg "is_there" zik):Def3 P w K mg base 1 "is_there" ["number", "count"] (spO K (λ_=>True) 2 zrp):=by
 refine mk_O T zqz (λ_ _ _ _ _ _ us hl=>len2 hl λ_ _=>rfl) rfl λf cdv A outer s H E O hφ C=>⟨_,(zai (zao (z4t zae (zab 0) (zab 1)))),λds Qr hn q=>?_⟩
 obtain⟨i,n,rfl,q⟩:=q
 refine⟨_,_,rfl,rfl,_,rfl,_,rfl,?_⟩
 by_cases h:(0:Int)<=i
 ·rw[decide_eq_true h] at q ⊢
  exact iteT ⟨_,_,rfl,rfl,_,rfl,q⟩
 ·rw[decide_eq_false h] at q ⊢
  exact iteF q
end
section
variable {P : Program} {w : World} {K : Qa} {mg : Str → Option Value} {base : Heap} {k : Nat}
abbrev zhc:Stmt:=top 15
theorem zqj:FnScope ["numbers", "counts"] ["numbers", "counts"] (zah zhc):=⟨rfl,rfl,rfl,by decide +kernel,rfl,by decide +kernel,by decide +kernel⟩
theorem zdy(B:Blt mg)(zgc:Def3 P w K mg base 1 "is_there" ["number", "count"] (spO K (λ_=>True) 2 zrp))(T:Top3 K mg "all_there" zhc):Def3 P w K mg base 2 "all_there" ["numbers", "counts"] (spO K (λ_=>True) 2 zsf):=by
 refine mk_O T zqj (λ_ _ _ _ _ _ us hl=>len2 hl λ_ _=>rfl) rfl λf cdv A outer s H E O hφ C=>⟨_,(zad (s_if (t_ne C (za9 C B (zaa (zab 0) zac)) (za9 C B (zaa (zab 1) zac))) (zai (zao e_bl)) zax) (zai (zao (ze8 C B (zaa (zaz 2 ["number", "count", "numbers", "counts"] C (λ_ => .of rfl (by kernel_rfl)) (z1l C B (zaa (zab 0) (zaa (zab 1) zac))) (zgg (C.comp _ _) (za1 0 (za1 1 zcj))) za6 (zav (C.comp _ _) zgc (λ_=>trivial) (zaa (zab 0) (zaa (zab 1) zac)))) zac))))),λds Qr hn q=>?_⟩
 obtain⟨is,ns,rfl,h1,h2,q⟩:=q
 have sz:=sizeLine_eq
 (repeat infer_instance)
 rw[Qb,Qb,zh0]
 unfold zbq at q
 refine iteB (λa=>?_) λa=>?_
 ·rw[show decide (is.length=ns.length)=false by simpa using a] at q
  exact q
 rw[show decide (is.length=ns.length)=true by simpa using a,QO] at q
 have lz:(is.zip ns).length<=1000:=by rw[jy];omega
 refine⟨_,_,rfl,rfl,_,_,rfl,rfl,_,_,rfl,zal (λ_=>rfl) _,zal (λ_=>rfl) _,?_⟩
 rw[zex]
 refine zf8 (α:=Int × Int) (enc:=λp => .tuple [iD p.1,iD p.2]) (e:=λp => .bool (thI p)) (λp hp P hP=>?_) zhp (by omega) ?_
 ·refine⟨_,rfl,iteT (B:=False) ?_⟩
  (repeat infer_instance)
  exact hP _ rfl
 refine⟨_,zeo _ thI,?_⟩
 rw[zet]
 exact q
end
section
variable {P : Program} {w : World} {K : Qa} {mg : Str → Option Value} {base : Heap} {k : Nat}
abbrev zff:Stmt:=top 16
theorem zl1:FnScope ["letters", "word"] ["letters", "word"] (zah zff):=⟨rfl,rfl,rfl,by decide +kernel,rfl,by decide +kernel,by decide +kernel⟩
theorem zd5(B:Blt mg)(T:Top3 K mg "has_letters" zff):Def3 P w K mg base 1 "has_letters" ["letters", "word"] (spO K (λ_=>True) 2 zw2):=by
 refine mk_O T zl1 (λ_ _ _ _ _ _ us hl=>len2 hl λ_ _=>rfl) rfl λf cdv A outer s H E O hφ C=>⟨_,(zai (zao (ze8 C B (zaa (zaz 1 ["letter", "letters", "word"] C (λ_ => .of rfl (by kernel_rfl)) (zjv (zab 1)) (zau 0) za6 (e_in (C.comp _ _) (zab 0) (zab 1))) zac)))),λds Qr hn q=>?_⟩
 obtain⟨ls,w,rfl,hw,q⟩:=q
 have sz:=sizeLine_eq
 have es:sgs (tx w)=w.map λc => .str (sg c):=by unfold sgs;rw[zbd]
 (repeat infer_instance)
 rw[es]
 refine zba (α:=Nat) (enc:=λc => .str (sg c)) (e:=λc => .bool (decide (c ∈ ls))) (λc hc P hP=>?_) (by omega) ?_
 ·exact⟨_,_,rfl,rfl,_,_,rfl,rfl,_,zrh ls c false,hP _ rfl⟩
 refine⟨_,zeo w _,?_⟩
 rw[zet]
 exact q
end
theorem rep2(n:Nat):(Qf n [YM 2]).flatten=(Qf n (2:Int)).map iD:=by
 induction n with
 | zero=>rfl
 | succ n ih=>rw[QV,QY,ih,QV];rfl
section
variable {P : Program} {w : World} {K : Qa} {mg : Str → Option Value} {base : Heap} {k : Nat}
abbrev zfg:Stmt:=top 17
theorem zmw:FnScope ["house", "standing", "rooms"] ["house", "standing"] (zah zfg):=⟨rfl,rfl,rfl,by decide +kernel,rfl,by decide +kernel,by decide +kernel⟩
theorem zbl(B:Blt mg)(zdy:Def3 P w K mg base 2 "all_there" ["numbers", "counts"] (spO K (λ_=>True) 2 zsf))(zd5:Def3 P w K mg base 1 "has_letters" ["letters", "word"] (spO K (λ_=>True) 2 zw2))(T:Top3 K mg "is_standing" zfg):Def3 P w K mg base 3 "is_standing" ["house", "standing"] (spO K (λ_=>True) 2 zhy):=by
 refine mk_O T zmw (λ_ _ _ _ _ _ us hl=>len2 hl λ_ _=>rfl) rfl λf cdv A outer s H E O hφ C=>⟨_,(zad (zji 2 1 ["hand", "house", "standing", "rooms"] C (λ_ => .of rfl (by kernel_rfl)) (zcg C (zaj C (zab 0) zae)) (zau 0) za6 (zaj (C.comp _ _) (zab 0) zae)) (zad (s_if (t_w (w_or (zc2 (zb8 (zav C zdy (λ_=>trivial) (zaa (zaj C (zab 1) zae) (zaa (zab 2) zac))))) (zcf (zc2 (zb8 (zav C zdy (λ_=>trivial) (zaa (zaj C (zab 1) zae) (zaa (zm0 C (za5 (zaa zae zac)) (zaj C (zab 0) zae)) zac)))))))) (zai (zao e_bl)) zax) (zai (zao (zea (e_eq C (za9 C B (zaa (zaj C (zab 1) zae) zac)) (zaj C (zab 0) zae)) (zf4 (ze8 C B (zaa (zaz 1 ["word", "house", "standing", "rooms"] C (λ_ => .of rfl (by kernel_rfl)) (zcg C (zaj C (zab 1) zae)) (zau 0) za6 (zav (C.comp _ _) zd5 (λ_=>trivial) (zaa (zaj (C.comp _ _) (zab 1) zae) (zaa (zab 0) zac)))) zac)))))))),λds Qr hn q=>?_⟩
 obtain⟨h,z,rfl,hh,z1,z2,z3,z4,_,q⟩:=q
 have sz:=sizeLine_eq
 have hm:=hh.many
 have hf:=hh.flags
 unfold zch at q
 (repeat infer_instance)
 refine zba (α:=Hnd) (as:=h.hands) (enc:=zb7) (e:=λx=>iD (x.n:Int)) (λx hx P hP=>?_) (by omega) ?_
 ·(repeat infer_instance)
  exact hP _ rfl
 rw[show h.hands.map (λx=>iD (x.n:Int))=(h.hands.map λx=>(x.n:Int)).map iD by rw[QB];rfl]
 refine⟨zal (λ_=>rfl) _,?_⟩
 (repeat infer_instance)
 refine⟨z1,by rw[Qb];omega,?_⟩
 (repeat infer_instance)
 refine iteB (λa1=>?_) λa1=>?_
 ·rw[zeb a1,Z5] at q
  (repeat infer_instance)
  exact q
 rw[zdg a1,QO] at q
 (repeat infer_instance)
 refine⟨by omega,by omega,(by show 1 * _<=_;omega),rfl,z.flags,Qf h.flags 2,?_,z2,by rw[QN];omega,?_⟩
 ·rw[<- rep2]
  rfl
 (repeat infer_instance)
 refine iteB (λa2=>?_) λa2=>?_
 ·rw[zeb a2,Z5] at q
  (repeat infer_instance)
  exact q
 rw[zdg a2,QO] at q
 (repeat infer_instance)
 rw[Qb,zh0]
 refine iteB (λa3=>?_) λa3=>?_
 rotate_left
 ·rw[a3,Z5] at q
  exact q
 rw[a3,QO] at q
 (repeat infer_instance)
 refine zba (α:=List Nat) (enc:=wD) (e:=λw => .bool (zhm h.ls w)) (λw hw P hP=>?_) (by omega) ?_
 ·(repeat infer_instance)
  exact⟨(z4 w hw).len,hP _ rfl⟩
 refine⟨_,zeo _ _,?_⟩
 rw[zet]
 exact q
end
section
variable {P : Program} {w : World} {K : Qa} {mg : Str → Option Value} {base : Heap} {k : Nat}
abbrev zir:Stmt:=top 18
theorem zr7:FnScope ["one", "other"] ["one", "other"] (zah zir):=⟨rfl,rfl,rfl,by decide +kernel,rfl,by decide +kernel,by decide +kernel⟩
theorem zfy(B:Blt mg)(zes:Def3 P w K mg base 2 "lies_under" ["less", "more"] (spO K (λ_=>True) 2 zeg))(T:Top3 K mg "is_above" zir):Def3 P w K mg base 3 "is_above" ["one", "other"] (spO K (λ_=>True) 2 abvF):=by
 refine mk_O T zr7 (λ_ _ _ _ _ _ us hl=>len2 hl λ_ _=>rfl) rfl λf cdv A outer s H E O hφ C=>⟨_,(zad (s_if (t_w (w_or (t_ne C (zay C (zab 0) za8 (za2 zae)) (zay C (zab 1) za8 (za2 zae))) (zcf (t_ne C (za9 C B (zaa (zaj C (zab 0) zae) zac)) (za9 C B (zaa (zaj C (zab 1) zae) zac)))))) (zai (zao e_bl)) zax) (zai (zao (ze8 C B (zaa (zaz 2 ["less", "more", "one", "other"] C (λ_ => .of rfl (by kernel_rfl)) (zlx C B (zaa (zaj C (zab 1) zae) (zaa (zaj C (zab 0) zae) zac))) (zgg (C.comp _ _) (za1 0 (za1 1 zcj))) za6 (zav (C.comp _ _) zes (λ_=>trivial) (zaa (zab 0) (zaa (zab 1) zac)))) zac))))),λds Qr hn q=>?_⟩
 obtain⟨a,b,rfl,ha,hb,hl,q⟩:=q
 have sz:=sizeLine_eq
 have l1:=ha.words
 (repeat first|refine⟨_,zhj a,?_⟩|refine⟨zhj a,?_⟩|refine⟨_,zhj b,?_⟩|refine⟨zhj b,?_⟩|refine⟨_,zsn a b,?_⟩|refine⟨zsn a b,?_⟩|infer_instance)
 rw[if_pos rfl]
 unfold abvB at q
 rw[<- Bool.and_assoc] at q
 refine iteB (λa1=>?_) λa1=>?_
 ·rw[zeb a1,Z5] at q
  exact iteT q
 rw[zdg a1,QO] at q
 (repeat infer_instance)
 rw[Qb,Qb,zh0,decide_eq_true hl]
 refine iteF ⟨_,_,rfl,rfl,_,rfl,_,_,rfl,rfl,_,rfl,_,_,rfl,zal (λ_=>rfl) _,zal (λ_=>rfl) _,?_⟩
 rw[zex]
 refine zf8 (α:=List Nat × List Nat) (enc:=λp => .tuple [wD p.1,wD p.2]) (e:=λp => .bool (L6.under p.1 p.2)) (λp hp P hP=>?_) zhp (by rw[jy];omega) ?_
 ·refine⟨_,rfl,iteT (B:=False) ?_⟩
  obtain⟨m1,m2⟩:=JC hp
  exact⟨_,_,rfl,rfl,_,_,rfl,rfl,rfl,p.1,p.2,rfl,hb.sml _ m1,ha.sml _ m2,hP _ rfl⟩
 refine⟨_,zeo _ _,?_⟩
 rw[zet]
 exact q
end
section
variable {P : Program} {w : World} {K : Qa} {mg : Str → Option Value} {base : Heap} {k : Nat}
abbrev zg0:Stmt:=top 20
theorem zpx:FnScope ["word", "figures"] ["word"] (zah zg0):=⟨rfl,rfl,rfl,by decide +kernel,rfl,by decide +kernel,by decide +kernel⟩
theorem zfb(B:Blt mg)(T:Top3 K mg "is_number" zg0):Def3 P w K mg base 1 "is_number" ["word"] (spO K (λ_=>True) 1 zl0):=by
 refine mk_O T zpx (λ_ _ _ _ _ _ us hl=>len1 hl λ_=>rfl) rfl λf cdv A outer s H E O hφ C=>⟨_,(zad (zan 1 (ze8 C B (zaa (zaz 1 ["sign", "word", "figures"] C (λ_ => .of rfl (by kernel_rfl)) (zjv (zab 0)) (zau 0) za6 (z4r zam (zab 0) zam)) zac))) (zai (zao (zea (zab 1) (zea (z5l zae (za9 C B (zaa (zab 0) zac)) zae) (zf4 (e_or (e_eq C (zab 0) zam) (zf4 (e_ne C (zaj C (zab 0) zae) zam))))))))),λds Qr hn q=>?_⟩
 obtain⟨v,rfl,hv,q⟩:=q
 have sz:=sizeLine_eq
 have hl:=hv.len
 have es:sgs (tx v)=v.map λc => .str (sg c):=by unfold sgs;rw[zbd]
 (repeat infer_instance)
 rw[es]
 refine zba (α:=Nat) (enc:=λc => .str (sg c)) (e:=λc => .bool (decide (48<=c) && decide (c<=57))) (λc hc P hP=>?_) (by omega) ?_
 ·exact z4v (lo:=48) (hi:=57) rfl (hP _ rfl)
 refine⟨_,zeo v _,?_⟩
 rw[zet]
 (repeat infer_instance)
 unfold zca at q
 refine iteB (λa1=>?_) λa1=>?_
 rotate_left
 ·rw[show digB v=false from a1] at q
  exact q
 rw[show digB v=true from a1,QO] at q
 (repeat first|refine⟨_,zoj hv,?_⟩|refine⟨zoj hv,?_⟩|infer_instance)
 refine iteB (λa2=>?_) λa2=>?_
 rotate_left
 ·rw[show decide (1<=v.length)=false from decide_eq_false (by have:=of_decide_eq_false a2;omega)] at q
  (repeat infer_instance)
  exact q
 rw[show decide (1<=v.length)=true from decide_eq_true (by have:=of_decide_eq_true a2;omega),QO] at q
 (repeat infer_instance)
 refine iteB (λa3=>?_) λa3=>?_
 rotate_left
 ·rw[show decide (v.length<=3)=false from decide_eq_false (by have:=of_decide_eq_false a3;omega)] at q
  (repeat infer_instance)
  exact q
 rw[show decide (v.length<=3)=true from decide_eq_true (by have:=of_decide_eq_true a3;omega),QO] at q
 have h0:0<v.length:=by have:=of_decide_eq_true a2;omega
 have e0:Qp "0" = tx [48]:=by decide +kernel
 have hx:idxF (.str (tx v)) (.int 0)=some (.o (.str (tx [v[0]]))):=zdc (k:=0) h0 (by omega)
 (repeat first|refine⟨_,zb3 e0 hv (lng1 48),?_⟩|refine⟨zb3 e0 hv (lng1 48),?_⟩|infer_instance)
 rw[if_neg Qn]
 refine iteB (λa4=>?_) λa4=>?_
 ·rw[a4,Bool.true_or] at q
  exact q
 rw[a4,jK] at q
 (repeat first|refine⟨_,hx,?_⟩|refine⟨hx,?_⟩|refine⟨_,zb3 e0 (lng1 v[0] (hv.sgn _ (QL h0))) (lng1 48),?_⟩|refine⟨zb3 e0 (lng1 v[0] (hv.sgn _ (QL h0))) (lng1 48),?_⟩|infer_instance)
 rw[if_pos rfl]
 have e5:decide ([v[0]] = [48])=decide (v.head? = some 48):=by
  rw[List.head?_eq_getElem?,Ql h0]
  exact decide_eq_decide.mpr (by simp)
 rw[e5]
 exact q
end
theorem zvm{p:Nat ⊕ List Nat}(h:zhb p):strF [zll p]=some (.o (.str (tx (zef p)))):=by
 cases p with
 | inl n=>exact zh3 h
 | inr w=>rfl
theorem zvd{p:Nat ⊕ List Nat}(h:zhb p):(zef p).length<=100000:=by
 cases p with
 | inl n=>exact Q4 (zr3 h).1 (by decide)
 | inr w=>exact h.len
section
variable {P : Program} {w : World} {K : Qa} {mg : Str → Option Value} {base : Heap} {k : Nat}
abbrev zid:Stmt:=top 21
theorem zqy:FnScope ["parts"] ["parts"] (zah zid):=⟨rfl,rfl,rfl,by decide +kernel,rfl,by decide +kernel,by decide +kernel⟩
theorem zf2(B:Blt mg)(T:Top3 K mg "show_row" zid):Def3 P w K mg base 1 "show_row" ["parts"] (spO K (λ_=>True) 1 zo5):=by
 refine mk_O T zqy (λ_ _ _ _ _ _ us hl=>len1 hl λ_=>rfl) rfl λf cdv A outer s H E O hφ C=>⟨_,(zai (zao (zfh C zam (zaz 1 ["part", "parts"] C (λ_ => .of rfl (by kernel_rfl)) (zdi C (zab 0)) (zau 0) za6 (zgz (C.comp _ _) B (zaa (zab 0) zac)))))),λds Qr hn q=>?_⟩
 obtain⟨ps,rfl,ok,hl,q⟩:=q
 have sz:=sizeLine_eq
 (repeat infer_instance)
 refine zba (α:=Nat ⊕ List Nat) (enc:=zll) (e:=λp => .str (tx (zef p))) (λp hp P hP=>?_) (by omega) ?_
 ·(repeat infer_instance)
  refine⟨_,zvm (ok p hp),hP _ rfl⟩
 rw[zez]
 have hb:∀ w ∈ ps.map zef,w.length<=100000:=λw hw=>by
  obtain⟨p,hp,rfl⟩:=Qu.mp hw
  exact zvd (ok p hp)
 have ht:=zxo hb
 rw[Qb] at ht
 have:=Yx (100000+1) hl
 obtain⟨ys,y1,y2,y3⟩:=zj6 (c:=32) (ws:=ps.map zef) (by omega)
 rw[show tsD (ps.map zef)=ps.map λp=>Z7 (tx (zef p)) from QB ..] at y1
 refine⟨ys,y1,y2,?_⟩
 rw[y3]
 exact q
end
section
variable {P : Program} {w : World} {K : Qa} {mg : Str → Option Value} {base : Heap} {k : Nat}
abbrev zd3:Stmt:=top 22
theorem zj4:FnScope ["standing", "words"] ["standing"] (zah zd3):=⟨rfl,rfl,rfl,by decide +kernel,rfl,by decide +kernel,by decide +kernel⟩
theorem zdd(B:Blt mg)(zfe:Def3 P w K mg base 1 "show_word" ["word"] (spO K (λ_=>True) 1 ztx))(zf2:Def3 P w K mg base 1 "show_row" ["parts"] (spO K (λ_=>True) 1 zo5))(T:Top3 K mg "show_standing" zd3):Def3 P w K mg base 2 "show_standing" ["standing"] (spO K (λ_=>True) 1 zel):=by
 refine mk_O T zj4 (λ_ _ _ _ _ _ us hl=>len1 hl λ_=>rfl) rfl λf cdv A outer s H E O hφ C=>⟨_,(zad (zji 1 1 ["word", "standing", "words"] C (λ_ => .of rfl (by kernel_rfl)) (zcg C (zaj C (zab 0) zae)) (zau 0) za6 (zav (C.comp _ _) zfe (λ_=>trivial) (zaa (zab 0) zac))) (zai (zao (zav C zf2 (λ_=>trivial) (zaa (zas C (zas C (zas C (zas C (zo9 C B (zaa (zaj C (zab 0) zae) zac)) (za5 (zaa zam zac))) (zo9 C B (zaa (zaj C (zab 0) zae) zac))) (za5 (zaa zam zac))) (zab 1)) zac))))),λds Qr hn q=>?_⟩
 obtain⟨s,rfl,ok,q⟩:=q
 have sz:=sizeLine_eq
 have r1:=ok.rooms
 have r2:=ok.flags
 have r3:=ok.words
 (repeat infer_instance)
 refine zba (α:=List Nat) (enc:=wD) (e:=λw=>wD (shW w)) (λw hw P hP=>?_) (by omega) ?_
 ·(repeat infer_instance)
  exact⟨ok.lng w hw,hP _ rfl⟩
 refine⟨zal (λ_=>rfl) _,?_⟩
 (repeat infer_instance)
 refine⟨_,zb6 (by show(s.rooms.map nD).length+1<=_;rw[Qb];omega),?_⟩
 (repeat infer_instance)
 refine⟨_,zb6 (by simp only[Qg,Qb,Qm,ZE];omega),?_⟩
 (repeat infer_instance)
 refine⟨_,zb6 (by simp only[Qg,Qb,Qm,ZE];omega),?_⟩
 (repeat infer_instance)
 refine⟨_,zb6 (by simp only[Qg,Qb,Qm,ZE];omega),?_⟩
 refine⟨rfl,stPs s,?_,(zgp ok).1,(zgp ok).2,?_⟩
 ·rw[<- zve]
  rfl
 ·rw[zlr]
  exact q
end
theorem zp9{ws:List (List Nat)}(h:(zbr 0 ws).length ≠ 2):zcw ws=none:=by
 unfold zcw
 split
 ·rename_i a b e;rw[e] at h;exact absurd rfl h
 ·rfl
section
variable {P : Program} {w : World} {K : Qa} {mg : Str → Option Value} {base : Heap} {k : Nat}
abbrev zfd:Stmt:=top 23
theorem znu:FnScope ["words", "bars", "rooms", "flags", "lines", "texts"] ["words"] (zah zfd):=⟨rfl,rfl,rfl,by decide +kernel,rfl,by decide +kernel,by decide +kernel⟩
theorem zd6(B:Blt mg)(zfb:Def3 P w K mg base 1 "is_number" ["word"] (spO K (λ_=>True) 1 zl0))(T:Top3 K mg "standing_of" zfd):Def3 P w K mg base 2 "standing_of" ["words"] (spO K (λ_=>True) 1 zmh):=by
 refine mk_O T znu (λ_ _ _ _ _ _ us hl=>len1 hl λ_=>rfl) rfl λf cdv A outer s H E O hφ C=>⟨_,(zad (zji 1 2 ["k", "word", "words", "bars", "rooms", "flags", "lines", "texts"] C (λ_ => .of rfl (by kernel_rfl)) (z2r C B (zab 0)) (zgg (C.comp _ _) (za1 0 (za1 1 zcj))) (zi6 (t_eq (C.comp _ _) (zab 1) zam)) (zab 0)) (zad (s_if (t_ne C (za9 C B (zaa (zab 1) zac)) zae) (zai (zao zcr)) zax) (zad (zan 2 (zay C (zab 0) za8 (za2 (zaj C (zab 1) zae)))) (zad (zan 3 (zay C (zab 0) (za2 (zas C (zaj C (zab 1) zae) zae)) (za2 (zaj C (zab 1) zae)))) (zad (zan 4 (zay C (zab 0) (za2 (zas C (zaj C (zab 1) zae) zae)) za8)) (zad (s_if (t_w (w_or (t_in C zam (zab 4)) (zcf (zc2 (zb8 (ze8 C B (zaa (zaz 1 ["word", "words", "bars", "rooms", "flags", "lines", "texts"] C (λ_ => .of rfl (by kernel_rfl)) (zdi C (zas C (zab 2) (zab 3))) (zau 0) za6 (zav (C.comp _ _) zfb (λ_=>trivial) (zaa (zab 0) zac))) zac))))))) (zai (zao zcr)) zax) (zad (zji 5 1 ["word", "words", "bars", "rooms", "flags", "lines", "texts"] C (λ_ => .of rfl (by kernel_rfl)) (zdi C (zab 4)) (zau 0) za6 (e_if (t_eq (C.comp _ _) (zab 0) zam) zam (zab 0))) (zai (zao (za0 (zaa (zbb C B (zaa (zaz 1 ["room", "words", "bars", "rooms", "flags", "lines", "texts"] C (λ_ => .of rfl (by kernel_rfl)) (zdi C (zab 2)) (zau 0) za6 (zdk (C.comp _ _) B (zaa (zab 0) zac))) zac)) (zaa (zbb C B (zaa (zaz 1 ["value", "words", "bars", "rooms", "flags", "lines", "texts"] C (λ_ => .of rfl (by kernel_rfl)) (zdi C (zab 3)) (zau 0) za6 (zdk (C.comp _ _) B (zaa (zab 0) zac))) zac)) (zaa (zbb C B (zaa (zab 5) zac)) zac))))))))))))),λds Qr hn q=>?_⟩
 obtain⟨ws,rfl,hw,q⟩:=q
 have sz:=sizeLine_eq
 obtain⟨w1,w2,w3⟩:=hw
 have bar:Qp "/" = tx [47]:=by decide +kernel
 (repeat infer_instance)
 rw[zt6]
 refine zs1 (α:=List Nat × Nat) (p:=λp=>decide (p.1 = [47])) (e:=λp => .int (p.2:Nat)) (λp hp Pn Py hPn hPy=>?_) (by rw[List.length_zipIdx];omega) ?_
 ·refine⟨_,rfl,?_⟩
  have lw:Lng p.1:=w3 _ (Zn (List.mem_zipIdx_iff_getElem?.mp hp))
  (repeat first|refine⟨_,zb3 bar lw (lng1 47),?_⟩|refine⟨zb3 bar lw (lng1 47),?_⟩|infer_instance)
  rw[if_neg Qn]
  by_cases e:p.1 = [47]
  ·rw[decide_eq_true e]
   exact iteT ⟨_,_,rfl,rfl,hPy (decide_eq_true e) _ rfl⟩
  ·rw[decide_eq_false e]
   exact iteF (hPn (decide_eq_false e))
 rw[show(ws.zipIdx.filter λp=>decide (p.1 = [47])).map (λp=>YM (p.2:Nat))=(zbr 0 ws).map nD by rw[<- zit,QB];rfl]
 refine⟨zal (λ_=>rfl) _,?_⟩
 (repeat infer_instance)
 rw[Qb]
 by_cases h2:(zbr 0 ws).length=2
 rotate_left
 ·rw[decide_eq_false (by omega)]
  rw[zp9 h2] at q
  exact q
 rw[decide_eq_true (by omega)]
 obtain⟨a,b,hab⟩:∃ a b,zbr 0 ws = [a,b]:=by
  match hb:zbr 0 ws,h2 with
  | [a,b],_=>exact⟨a,b,rfl⟩
 obtain⟨lb,q⟩:b<ws.length/\Qr (.o (optS (if(decide ([] ∈ ws.drop (b+1)) || !(ws.take a++(ws.take b).drop (a+1)).all zca)=true then none else some ⟨(ws.take a).map valW,((ws.take b).drop (a+1)).map valW,(ws.drop (b+1)).map unW⟩))):=by
  refine⟨?_,?_⟩
  ·obtain⟨x,y,e,hx,rfl,hr⟩:=zd0 hab
   obtain⟨y,z,e2,hy,rfl,hr⟩:=zd0 hr
   rw[e,e2]
   simp only[Qg,Qm]
   omega
  ·unfold zcw at q
   rw[hab] at q
   exact q
 rw[hab]
 refine iteF ?_
 (repeat first|refine⟨_,zfr ws none (some (a:Int)),?_⟩|refine⟨zfr ws none (some (a:Int)),?_⟩|infer_instance)
 refine⟨zal (λ_=>rfl) _,?_⟩
 (repeat first|refine⟨_,zfr ws (some ((a:Int)+1)) (some (b:Int)),?_⟩|refine⟨zfr ws (some ((a:Int)+1)) (some (b:Int)),?_⟩|infer_instance)
 refine⟨zal (λ_=>rfl) _,?_⟩
 (repeat first|refine⟨_,zfr ws (some ((b:Int)+1)) none,?_⟩|refine⟨zfr ws (some ((b:Int)+1)) none,?_⟩|infer_instance)
 refine⟨zal (λ_=>rfl) _,?_⟩
 rw[zcc,show(a:Int)+1=((a+1:Nat):Int) from rfl,show(b:Int)+1=((b+1:Nat):Int) from rfl,zod,zcm]
 have wl:∀ w ∈ ws.drop (b+1),Lng w:=λw hw=>w3 w (Zu hw)
 have wr:∀ w ∈ ws.take a,Lng w:=λw hw=>w3 w (Zv hw)
 have wf:∀ w ∈ (ws.take b).drop (a+1),Lng w:=λw hw=>w3 w (Zv (Zu hw))
 (repeat infer_instance)
 rw[zd2]
 refine⟨_,z4w lng0 wl,?_⟩
 rw[if_neg Qn]
 (repeat infer_instance)
 refine iteB (λa1=>?_) λa1=>?_
 ·rw[a1,Bool.true_or,if_pos rfl] at q
  exact iteT q
 rw[a1,jK] at q
 (repeat infer_instance)
 refine⟨_,zb6 (by simp only[Qb,QD,Qz];omega),?_⟩
 (repeat infer_instance)
 rw[<- QR]
 refine zba (α:=List Nat) (enc:=λw => .str (tx w)) (e:=λw => .bool (zca w)) (λw hw P hP=>?_) (by simp only[Qg,QD,Qz];omega) ?_
 ·(repeat infer_instance)
  exact⟨(Q6.mp hw).elim (wr w) (wf w),hP _ rfl⟩
 refine⟨_,zeo _ _,?_⟩
 rw[zet]
 (repeat infer_instance)
 refine iteB (λa2=>?_) λa2=>?_
 ·rw[a2,if_pos rfl] at q
  exact q
 rw[a2,if_neg Qn] at q
 have nums:=Q9.mp (zdg a2)
 (repeat infer_instance)
 refine zba (α:=List Nat) (enc:=λw => .str (tx w)) (e:=λw=>wD (unW w)) (λw hw P hP=>?_) (by rw[QD];omega) ?_
 ·(repeat first|refine⟨_,zb3 zgu (wl w hw) (lng1 46),?_⟩|refine⟨zb3 zgu (wl w hw) (lng1 46),?_⟩|infer_instance)
  rw[if_neg Qn]
  by_cases e:w = [46]
  ·rw[decide_eq_true e]
   refine iteT (hP _ ?_)
   show Z7 (Qp "")=wD (unW w)
   rw[zd2,e]
   rfl
  ·rw[decide_eq_false e]
   refine iteF ⟨_,_,rfl,rfl,hP _ ?_⟩
   show Z7 (tx w)=wD (unW w)
   unfold unW
   rw[if_neg e]
 refine⟨zal (λ_=>rfl) _,?_⟩
 (repeat infer_instance)
 refine zba (α:=List Nat) (enc:=λw => .str (tx w)) (e:=λw=>nD (valW w)) (λw hw P hP=>?_) (by rw[Qz];omega) ?_
 ·(repeat infer_instance)
  exact⟨_,zkg (nums w (Jm _ hw)),hP _ rfl⟩
 (repeat infer_instance)
 refine zba (α:=List Nat) (enc:=λw => .str (tx w)) (e:=λw=>nD (valW w)) (λw hw P hP=>?_) (by rw[QD,Qz];omega) ?_
 ·(repeat infer_instance)
  exact⟨_,zkg (nums w (Qw _ hw)),hP _ rfl⟩
 (repeat infer_instance)
 have q:Qr (.o (zaq ⟨(ws.take a).map valW,((ws.take b).drop (a+1)).map valW,(ws.drop (b+1)).map unW⟩)):=q
 unfold zaq at q
 simp only[QB] at q
 exact q
end
theorem z3u{t:List Nat}(ht:Lng t):WsOk (cutW 32 t):=⟨zim 32 t,Q4 (zfw 32 t) (by have:=ht.len;omega),λw hw=>zc3 ht hw⟩
theorem zz9(s:Sta):(wsS s).length=s.rooms.length+s.flags.length+s.words.length+2:=by
 unfold wsS
 simp only[Qg,Qm,Qb]
 omega
theorem ztb{w:List Nat}(h:Lng (shW w)):Lng w:=by
 unfold shW at h
 split at h
 ·rename_i e;rw[e];exact⟨by decide,by simp⟩
 ·exact h
theorem ztt(s:Sta):s.words.flatten.length<=totW (wsS s):=by
 have key:∀ ws:List (List Nat),ws.flatten.length<=totW (ws.map shW):=λws=>by
  induction ws with
  | nil=>exact QH _
  | cons w ws ih =>
    rw[QY,Qg,Q2,za4]
    have:w.length<=(shW w).length+1:=by unfold shW;split <;> simp_all
    omega
 unfold wsS
 rw[zcu,za4,zcu,za4]
 have:=key s.words
 omega
theorem zvk(s:Sta):flat (zaq s)=true:=zbh s
section
variable {P : Program} {w : World} {K : Qa} {mg : Str → Option Value} {base : Heap} {k : Nat}
abbrev zd4:Stmt:=top 24
theorem zjz:FnScope ["house", "text", "standing"] ["house", "text"] (zah zd4):=⟨rfl,rfl,rfl,by decide +kernel,rfl,by decide +kernel,by decide +kernel⟩
theorem zdh(B:Blt mg){ea:EA}(EC:ErrC K mg ea)(rNoText:zkc K ea)(zbl:Def3 P w K mg base 3 "is_standing" ["house", "standing"] (spO K (λ_=>True) 2 zhy))(zd6:Def3 P w K mg base 2 "standing_of" ["words"] (spO K (λ_=>True) 1 zmh))(T:Top3 K mg "read_standing" zd4):Def3x P w K mg base 4 "read_standing" ["house", "text"] (spX K mg (λ_=>True) 2 zou):=by
 obtain⟨fNoText,mNoText,iNoText⟩:=rNoText.init
 obtain⟨fdNoText,psNoText,FNoText,BNoText⟩:=zup (P:=P) (w:=w) (mg:=mg) (base:=base) iNoText
 refine z5h T zjz (λ_ _ _ _ _ _ us hl=>len2 hl λ_ _=>rfl) rfl λf cdv A outer s H E O hφ Bd C=>⟨_,(zpg (x_of (zan 2 (zav C zd6 (λ_=>trivial) (zaa (zj2 C (zab 1) zam) zac)))) (zpg (x_if (t_w (w_or (t_is (zab 2) zcr) (zcf (zc2 (zb8 (zav C zbl (λ_=>trivial) (zaa (zab 0) (zaa (zab 2) zac)))))))) (z1u (zzg Bd rfl rfl rfl rfl rfl rfl mNoText FNoText ((C.room ()).mono (by decide)) BNoText (by decide) EC.nt (zaa zae zac))) (zwl zax)) (zwl (zai (zao (zab 2)))))),λds Qr hn q=>?_⟩
 obtain⟨h,t,rfl,hh,ht,t9,q⟩:=q
 have sz:=sizeLine_eq
 have hl:=ht.len
 (repeat infer_instance)
 refine⟨by rw[zb4];omega,rfl,cutW 32 t,?_,z3u ht,?_⟩
 ·rw[zez,zgn]
  rfl
 unfold za7 at q
 cases hs:zcw (cutW 32 t) with
 | none =>
   rw[hs] at q
   (repeat infer_instance)
   exact q
 | some s =>
   rw[hs] at q
   obtain⟨w1,w2⟩:=zio hs
   have wl:=zfw 32 t
   rw[<- w1,zz9] at wl
   refine⟨zvk s,?_⟩
   (repeat infer_instance)
   refine⟨h,upZ s,by rw[<- zep];rfl,hh,?_,?_,?_,?_,?_,?_⟩
   ·show(s.rooms.map _).length<=_
    rw[Qb];omega
   ·show(s.flags.map _).length<=_
    rw[Qb];omega
   ·show s.words.length<=_
    omega
   ·intro w hw
    refine ztb (zc3 ht (c:=32) ?_)
    rw[<- w1]
    unfold wsS
    exact Qw _ (Qe _ (Qw _ (Qe _ (Qu.mpr ⟨w,hw,rfl⟩))))
   ·show s.words.flatten.length<=_
    have a:=ztt s
    have b:=zjx 32 t
    rw[<- w1] at b
    omega
   (repeat infer_instance)
   have q:Qr (zpi (if zch h (upZ s)=true then some s else none)):=q
   refine iteB (λa1=>?_) λa1=>?_
   ·rw[zeb a1,if_neg Qn] at q
    (repeat infer_instance)
    exact q
   ·rw[zdg a1,if_pos rfl] at q
    (repeat infer_instance)
    exact q
end
section
variable {P : Program} {w : World} {K : Qa} {mg : Str → Option Value} {base : Heap} {k : Nat}
abbrev zf0:Stmt:=top 27
theorem zny:FnScope ["_law_state", "_law_most", "_law_letters"] ["_law_state", "_law_most"] (zah zf0):=⟨rfl,rfl,rfl,by decide +kernel,rfl,by decide +kernel,by decide +kernel⟩
theorem zdn(B:Blt mg)(zag:zdx P w K mg base)(T:Top3 K mg "_law_alphabet" zf0):Def3 P w K mg base 2 "_law_alphabet" ["_law_state", "_law_most"] (spD K IsState 1 zo3):=by
 refine mk_D T zny (λ_ _ _ _ _ _ us hl=>len2 hl λ_ _=>rfl) rfl λf cdv A outer s H E O hφ C=>?_
 have hO:∀ j:Unit,IsState ((λ_:Unit=>O) j):=λ_=>hφ
 refine⟨_,(zad (zan 2 zam) (zai (zao (zfh C zam (zsq C B (zaz 1 ["_law_k", "_law_state", "_law_most", "_law_letters"] C (λ_ => .of rfl (by kernel_rfl)) (i_r1 C B (zaa (zas C zae (zak 0 C zag hO (zaa (zab 1) zac))) zac)) (zau 0) za6 (zaj (C.comp _ _) (zab 3) (zak 1 (C.comp _ _) zag (upS hO) (zaa zae zac))))))))),λds Qr hn q=>?_⟩
 obtain⟨n,rfl,n0,hn3,q⟩:=q
 have sz:=sizeLine_eq
 rw[ztd]
 refine⟨rfl,_,rfl,rfl,_,_,rfl,rfl,rfl,_,rfl,by omega,by omega,λk k0 k1=>?_⟩
 obtain⟨m,rfl⟩:=QP k0
 refine⟨_,rfl,_,rfl,by omega,by omega,?_⟩
 refine ze5 (enc2:=λc => .str (tx [c])) (good:=λc=>c ∈ abc) (λc hc Py hPy=>?_) (by rw[QZ];omega) λws hs hlp=>?_
 ·exact⟨_,_,rfl,rfl,zda rfl (by decide) (by decide) λk hk=>⟨_,zdc (ztm (by omega)) (by decide),hPy _ (QL _)⟩⟩
 ·rw[QZ] at hlp
  refine⟨ws.map λc=>tx [c],.inr (by rw[QB];rfl),by rw[Qb];omega,λzs nd hm so=>?_⟩
  obtain⟨ls,rfl,hls⟩:=zo7 (zs:=zs) (cs:=ws) λz hz=>by
   obtain⟨c,hc,e⟩:=Qu.mp ((hm z).mp hz)
   exact⟨c,hc,e.symm⟩
  have hl:=zof nd λk hk=>(hm k).mp hk
  rw[Qb,Qb] at hl
  obtain⟨ys,e1,e2,e3⟩:=zko ls (by omega)
  refine⟨ys,?_,e2,?_⟩
  ·rw[<- e1]
   show JI (Ym _ (Ym _ _))=_
   rw[QB]
   rfl
  ·rw[e3]
   refine q ls (λc hc=>zzw c (hs c (hls c hc))) (λe=>?_) (by omega) (zpz (w:=ls) so (List.Pairwise.of_map (λc=>tx [c]) (λa b h e=>h (by rw[e])) nd))
   subst e
   obtain⟨c,hc⟩:=Yy (l:=ws) (by omega)
   exact absurd ((hm (tx [c])).mpr (Qu.mpr ⟨c,hc,rfl⟩)) (by simp)
end
section
variable {P : Program} {w : World} {K : Qa} {mg : Str → Option Value} {base : Heap} {k : Nat}
abbrev znn:Stmt:=top 28
theorem zyu:FnScope ["_law_state", "_law_letters", "_law_lines", "_law_flags", "_law_form", "_law_line", "_law_x"] ["_law_state", "_law_letters", "_law_lines", "_law_flags"] (zah znn):=⟨rfl,rfl,rfl,by decide +kernel,rfl,by decide +kernel,by decide +kernel⟩
theorem zf6(B:Blt mg)(zag:zdx P w K mg base)(T:Top3 K mg "_law_deed" znn):Def3 P w K mg base 2 "_law_deed" ["_law_state", "_law_letters", "_law_lines", "_law_flags"] (spD K IsState 3 zv0):=by
 refine mk_D T zyu (λ_ _ _ _ _ _ us hl=>len4 hl λ_ _ _ _=>rfl) rfl λf cdv A outer s H E O hφ C=>?_
 have hO:∀ j:Unit,IsState ((λ_:Unit=>O) j):=λ_=>hφ
 refine⟨_,(zad (zan 4 (zak 0 C zag hO (zaa (zas C zae (zm0 C zae (zdk C B (zaa (e_gt (zab 3) zae) zac)))) zac))) (zad (zan 5 (zak 0 C zag hO (zaa (zab 2) zac))) (zad (zan 6 (zaj C (zab 1) (zak 0 C zag hO (zaa (za9 C B (zaa (zab 1) zac)) zac)))) (zad (s_if (t_eq C (zab 4) zae) (zai (zao (za0 (zaa zam zac)))) zax) (zad (s_if (t_lt (zab 4) zae) (zai (zao (za0 (zaa zam (zaa (zab 5) (zaa (zab 6) zac)))))) zax) (zad (s_if (t_lt (zab 4) zae) (zai (zao (za0 (zaa zam (zaa (zab 5) (zaa (zab 6) zac)))))) zax) (zad (s_if (t_eq C (zab 4) zae) (zai (zao (za0 (zaa zam (zaa (zab 5) zac))))) zax) (zai (zao (za0 (zaa (zaj C (za5 (zaa zam (zaa zam zac))) (zwg (zab 4) zae)) (zaa (zak 0 C zag hO (zaa (zab 3) zac)) (zaa (zak 0 C zag hO (zaa zae zac)) zac))))))))))))),λds Qr hn q=>?_⟩
 obtain⟨ls,l,f,rfl,hne,hl,l0,l1,f1,q⟩:=q
 have sz:=sizeLine_eq
 refine⟨rfl,_,_,rfl,rfl,_,rfl,_,rfl,?_⟩
 obtain⟨b,eb,b1,bf⟩:∃ b:Nat,(if decide ((0:Int)<(f:Nat))=true then(1:Int) else 0)=b/\b<=1/\(b=1->0<f):=by
  rcases Nat.eq_zero_or_pos f with h|h
  ·exact⟨0,by rw[h];rfl,by omega,by omega⟩
  ·exact⟨1,by rw[if_pos (decide_eq_true (by omega))];rfl,by omega,λ_=>h⟩
 dsimp only [R.d]
 rw[eb]
 refine⟨_,rfl,by omega,by omega,.inl ⟨by decide,by decide⟩,_,rfl,rfl,_,rfl,by omega,by omega,λk k0 k1=>⟨rfl,?_⟩⟩
 obtain⟨m,rfl⟩:=QP k0
 refine⟨rfl,_,_,rfl,rfl,rfl,_,rfl,by omega,by omega,λk2 k20 k21=>⟨rfl,?_⟩⟩
 obtain⟨m2,rfl⟩:=QP k20
 refine zk4 rfl rfl hne (by omega) λc hc=>⟨rfl,?_⟩
 have t3:3<=sizeLine:=by omega
 have hm2:m2<l:=by omega
 refine⟨_,_,rfl,rfl,_,ztc m 0,_,rfl,ite2 (λ_=>⟨Q4 (by decide) t3,q .go trivial⟩) λz1=>?_⟩
 refine⟨_,_,rfl,rfl,_,rfl,_,rfl,ite2 (λ_=>⟨_,_,rfl,rfl,_,_,rfl,rfl,t3,q (.send m2 c) ⟨hm2,hc⟩⟩) λz2=>?_⟩
 refine⟨_,_,rfl,rfl,_,rfl,_,rfl,ite2 (λ_=>⟨_,_,rfl,rfl,_,_,rfl,rfl,t3,q (.take m2 c) ⟨hm2,hc⟩⟩) λz3=>?_⟩
 refine⟨_,_,rfl,rfl,_,ztc m 5,_,rfl,ite2 (λ_=>⟨_,_,rfl,rfl,Q4 (show 2<=3 by decide) t3,q (.empty m2) hm2⟩) λz4=>?_⟩
 have n3:¬ ((m:Int)<5):=λh=>z3 (decide_eq_true h)
 have n4:¬ (m=5):=λh=>z4 (decide_eq_true h)
 have hf:=bf (by omega)
 refine⟨Q4 (by decide) t3,_,_,rfl,rfl,_,rfl,?_⟩
 rcases(by omega:m=6\/m=7) with rfl|rfl
 ·refine⟨_,rfl,rfl,_,_,rfl,rfl,rfl,_,rfl,by omega,by omega,λk3 k30 k31=>?_⟩
  obtain⟨m3,rfl⟩:=QP k30
  exact zda rfl (by decide) (by decide) λk4 hk4=>⟨t3,q (.put m3 k4) ⟨by omega,by omega⟩⟩
 ·refine⟨_,rfl,rfl,_,_,rfl,rfl,rfl,_,rfl,by omega,by omega,λk3 k30 k31=>?_⟩
  obtain⟨m3,rfl⟩:=QP k30
  exact zda rfl (by decide) (by decide) λk4 hk4=>⟨t3,q (.test m3 k4) ⟨by omega,by omega⟩⟩
end
section
variable {P : Program} {w : World} {K : Qa} {mg : Str → Option Value} {base : Heap} {k : Nat}
abbrev zka:Stmt:=top 29
theorem zu5:FnScope ["_law_state", "_law_most", "_law_letters", "_law_lines", "_law_flags", "_law_hands", "_law_k", "_law_rooms", "_law_rules", "_law_j", "_law_p", "_law_q"] ["_law_state", "_law_most"] (zah zka):=⟨rfl,rfl,rfl,by decide +kernel,rfl,by decide +kernel,by decide +kernel⟩
theorem zfc(B:Blt mg)(zag:zdx P w K mg base)(zdn:Def3 P w K mg base 2 "_law_alphabet" ["_law_state", "_law_most"] (spD K IsState 1 zo3))(zf6:Def3 P w K mg base 2 "_law_deed" ["_law_state", "_law_letters", "_law_lines", "_law_flags"] (spD K IsState 3 zv0))(T:Top3 K mg "_law_house" zka):Def3 P w K mg base 3 "_law_house" ["_law_state", "_law_most"] (spD K IsState 1 zn4):=by
 refine mk_D T zu5 (λ_ _ _ _ _ _ us hl=>len2 hl λ_ _=>rfl) rfl λf cdv A outer s H E O hφ C=>?_
 have hO:∀ j:Unit,IsState ((λ_:Unit=>O) j):=λ_=>hφ
 refine⟨_,(zad (zan 2 (zak 0 C zdn hO (zaa zae zac))) (zad (zan 3 (zas C zae (zak 0 C zag hO (zaa zae zac)))) (zad (zan 4 (zak 0 C zag hO (zaa zae zac))) (zad (zan 5 (za5 zac)) (zad (zcz C (zcy (i_r1 C B (zaa (zas C zae (zak 0 C zag hO (zaa zae zac))) zac))) (zau (h:=1000) 6) (zad (zan 7 (zas C zae (zak 0 C zag hO (zaa zae zac)))) (zad (zan 8 (za5 zac)) (zad (zcz C (zcy (i_r1 C B (zaa (zak 0 C zag hO (zaa (zas C (zab 1) zae) zac)) zac))) (zau (h:=1000) 9) (zad (z5n 10 11 C (zaa (zak 0 C zag hO (zaa (zab 7) zac)) (zaa (zak 0 C zag hO (zaa (zab 7) zac)) zac))) (zai (zlq 8 C (za0 (zaa (zab 10) (zaa (zak 0 C zf6 hO (zaa (zab 2) (zaa (zab 3) (zaa (zab 4) zac)))) (zaa (zab 11) zac)))))))) (zai (zlq 5 C (za0 (zaa (zab 7) (zaa (zbb C B (zaa (zab 8) zac)) zac))))))))) (zai (zao (za0 (zaa (zab 2) (zaa (zab 3) (zaa (zab 4) (zaa (zbb C B (zaa (zab 5) zac)) zac)))))))))))),λds Qr hn q=>?_⟩
 obtain⟨n,rfl,hn3,q⟩:=q
 have sz:=sizeLine_eq
 refine⟨rfl,rfl,3,rfl,by decide,by decide,λls hlow hne hls hri=>⟨rfl,?_⟩⟩
 refine zda rfl (by decide) (by decide) λk1 hk1=>⟨_,rfl,rfl,?_⟩
 refine zda rfl (by decide) (by decide) λk2 hk2=>⟨rfl,?_⟩
 refine⟨QH _,rfl,?_⟩
 refine zda rfl (by decide) (by decide) λk3 hk3=>⟨_,rfl,_,rfl,by omega,by omega,rfl,?_⟩
 refine zbk (λj ρ=>∃ (hs:List Hnd) (o6 o7 o8 o9 o10 o11:Option DV),ρ = [some .ob,some (.im (.int (n:Nat))),some (.im (.str (tx ls))),some (.im (.int (1+(k1:Nat)))),some (.im (.int (k2:Nat))),some (.own (hs.map zb7)),o6,o7,o8,o9,o10,o11]/\hs.length=j/\∀ x ∈ hs,HdOk ls (1+k1) k2 x/\1<=x.n/\x.n<=3/\x.rs.length<=5/\∀ r ∈ x.rs,r.p<x.n/\r.q<x.n) ⟨[],none,none,none,none,none,none,rfl,rfl,λx h=>(QG h).elim⟩ (λρ zz=>?_) λj d ρ N hd hN zz=>?_
 ·obtain⟨hs,o6,o7,o8,o9,o10,o11,e,h1,h2⟩:=zz
  subst e
  rw[zgx] at h1
  exact⟨_,_,rfl,rfl,_,_,rfl,rfl,_,_,rfl,rfl,_,_,rfl,rfl,_,rfl,(by show 4<=sizeLine;omega),q ⟨ls,1+k1,k2,hs⟩ ⟨⟨hlow,hne,by show ls.length<=100;omega,by show 1+k1<=100;omega,by show k2<=100;omega,by show hs.length<=100;omega,λx hx=>(h2 x hx).1.1,λx hx=>(h2 x hx).1.2⟩,hri,hls,by show 1<=1+k1;omega,by show 1+k1<=2;omega,by show k2<=2;omega,by show 1<=hs.length;omega,by show hs.length<=2;omega,λx hx=>(h2 x hx).2⟩⟩
 ·obtain⟨hs,o6,o7,o8,o9,o10,o11,e,h1,h2⟩:=zz
  subst e
  obtain⟨hj,rfl⟩:=zck hd
  refine⟨rfl,?_⟩
  refine zda rfl (by decide) (by decide) λk4 hk4=>⟨_,rfl,rfl,?_⟩
  refine⟨QH _,rfl,?_⟩
  refine⟨rfl,_,_,rfl,rfl,_,rfl,rfl,_,rfl,by omega,by omega,λk5 k50 k51=>⟨_,rfl,by omega,by omega,rfl,?_⟩⟩
  refine zbk (λi ρ=>∃ (rs:List Rul) (o9 o10 o11:Option DV),ρ = [some .ob,some (.im (.int (n:Nat))),some (.im (.str (tx ls))),some (.im (.int (1+(k1:Nat)))),some (.im (.int (k2:Nat))),some (.own (hs.map zb7)),some (.im (.int (0+(j:Nat)))),some (.im (.int (1+(k4:Nat)))),some (.own (rs.map zi9)),o9,o10,o11]/\rs.length<=i/\∀ r ∈ rs,RuOk ls (1+k1) k2 r/\r.p<1+k4/\r.q<1+k4) ⟨[],_,_,_,rfl,QH _,λx h=>(QG h).elim⟩ (λρ zz=>?_) λi d ρ N hd hN zz=>?_
  ·obtain⟨rs,o9,o10,o11,e,g1,g2⟩:=zz
   subst e
   rw[zgx] at g1
   refine⟨_,rfl,_,_,rfl,rfl,_,_,rfl,rfl,_,rfl,(by show 2<=sizeLine;omega),zhq ⟨1+k4,rs⟩,(by rw[Qb];omega),hN _ ⟨hs ++ [⟨1+k4,rs⟩],some (.im (.int (0+(j:Nat)))),some (.im (.int (1+(k4:Nat)))),some (.own (rs.map zi9)),o9,o10,o11,?_,?_,zly h2 ⟨⟨⟨by show 0<1+k4;omega,by show 1+k4<=100;omega⟩,by show rs.length<=100;omega,λr hr=>(g2 r hr).1⟩,by show 1<=1+k4;omega,by show 1+k4<=3;omega,by show rs.length<=5;omega,λr hr=>(g2 r hr).2⟩⟩⟩
   ·rw[QR]
    rfl
   ·rw[Qg,Zq]
    omega
  ·obtain⟨rs,o9,o10,o11,e,g1,g2⟩:=zz
   subst e
   obtain⟨hi,rfl⟩:=zck hd
   refine⟨rfl,?_⟩
   refine⟨rfl,_,_,rfl,rfl,rfl,_,rfl,by omega,by omega,λa a0 a1=>?_⟩
   refine⟨rfl,_,_,rfl,rfl,rfl,_,rfl,by omega,by omega,λb b0 b1=>⟨_,_,rfl,rfl,rfl,?_⟩⟩
   obtain⟨a,rfl⟩:=QP a0
   obtain⟨b,rfl⟩:=QP b0
   refine⟨_,rfl,_,_,rfl,rfl,rfl,_,_,rfl,rfl,_,_,rfl,rfl,_,_,rfl,rfl,rfl,ls,1+k1,k2,rfl,hne,by omega,by omega,by omega,by omega,λd hd=>?_⟩
   refine⟨_,_,rfl,rfl,(by show 3<=sizeLine;omega),zot ⟨a,d,b⟩,(by rw[Qb];omega),hN _ ⟨rs ++ [⟨a,d,b⟩],some (.im (.int (0+(i:Nat)))),some (.im (.int (a:Nat))),some (.im (.int (b:Nat))),?_,?_,zly g2 ⟨⟨hd,by show a<=100;omega,by show b<=100;omega⟩,by show a<1+k4;omega,by show b<1+k4;omega⟩⟩⟩
   ·rw[QR]
    rfl
   ·rw[Qg,Zq]
    omega
end
section
variable {P : Program} {w : World} {K : Qa} {mg : Str → Option Value} {base : Heap} {k : Nat}
abbrev zma:Stmt:=top 30
theorem zxu:FnScope ["_law_state", "_law_letters", "_law_most"] ["_law_state", "_law_letters", "_law_most"] (zah zma):=⟨rfl,rfl,rfl,by decide +kernel,rfl,by decide +kernel,by decide +kernel⟩
theorem zde(B:Blt mg)(zag:zdx P w K mg base)(T:Top3 K mg "_law_word" zma):Def3 P w K mg base 2 "_law_word" ["_law_state", "_law_letters", "_law_most"] (spD K IsState 2 zmz):=by
 refine mk_D T zxu (λ_ _ _ _ _ _ us hl=>len3 hl λ_ _ _=>rfl) rfl λf cdv A outer s H E O hφ C=>?_
 have hO:∀ j:Unit,IsState ((λ_:Unit=>O) j):=λ_=>hφ
 refine⟨_,(zai (zao (zfh C zam (zaz 1 ["_law_k", "_law_state", "_law_letters", "_law_most"] C (λ_ => .of rfl (by kernel_rfl)) (i_r1 C B (zaa (zak 0 C zag hO (zaa (zas C (zab 2) zae) zac)) zac)) (zau 0) za6 (zaj (C.comp _ _) (zab 2) (zak 1 (C.comp _ _) zag (upS hO) (zaa (za9 (C.comp _ _) B (zaa (zab 2) zac)) zac))))))),λds Qr hn q=>?_⟩
 obtain⟨ls,n,rfl,hne,hl,ln,q⟩:=q
 have sz:=sizeLine_eq
 refine⟨_,rfl,rfl,_,_,rfl,rfl,_,rfl,rfl,_,rfl,by omega,by omega,λk k0 k1=>?_⟩
 obtain⟨m,rfl⟩:=QP k0
 refine⟨_,rfl,by omega,by omega,?_⟩
 refine znr (enc2:=λc => .str (tx [c])) (good:=λc=>c ∈ ls) (λc hc Pn Py hPn hPy=>?_) (by rw[QZ];omega) λws hs hlp=>?_
 ·refine iteT (B:=Pn) (zk4 rfl rfl hne (by omega) λc hc=>hPy c hc)
 ·rw[QZ] at hlp
  obtain⟨ys,e1,e2,e3⟩:=zko ws (by omega)
  refine⟨ys,e1,e2,?_⟩
  rw[e3]
  exact q ws hs (by omega)
end
section
variable {P : Program} {w : World} {K : Qa} {mg : Str → Option Value} {base : Heap} {k : Nat}
abbrev zgd:Stmt:=top 31
theorem zn1:FnScope ["_law_state", "_law_house_here", "_law_rooms", "_law_flags"] ["_law_state", "_law_house_here"] (zah zgd):=⟨rfl,rfl,rfl,by decide +kernel,rfl,by decide +kernel,by decide +kernel⟩
theorem zby(B:Blt mg)(zag:zdx P w K mg base)(zde:Def3 P w K mg base 2 "_law_word" ["_law_state", "_law_letters", "_law_most"] (spD K IsState 2 zmz))(T:Top3 K mg "_law_standing" zgd):Def3 P w K mg base 3 "_law_standing" ["_law_state", "_law_house_here"] (spD K IsState 1 zj1):=by
 refine mk_D T zn1 (λ_ _ _ _ _ _ us hl=>len2 hl λ_ _=>rfl) rfl λf cdv A outer s H E O hφ C=>?_
 have hO:∀ j:Unit,IsState ((λ_:Unit=>O) j):=λ_=>hφ
 refine⟨_,(zad (zan 2 (zbb C B (zaa (zaz 1 ["_law_hand", "_law_state", "_law_house_here", "_law_rooms", "_law_flags"] C (λ_ => .of rfl (by kernel_rfl)) (zcg C (zaj C (zab 1) zae)) (zau 0) za6 (zak 1 (C.comp _ _) zag (upS hO) (zaa (zaj (C.comp _ _) (zab 0) zae) zac))) zac))) (zad (zan 3 (zbb C B (zaa (zaz 1 ["_law_k", "_law_state", "_law_house_here", "_law_rooms", "_law_flags"] C (λ_ => .of rfl (by kernel_rfl)) (i_r1 C B (zaa (zaj C (zab 1) zae) zac)) (zau 0) za6 (zak 1 (C.comp _ _) zag (upS hO) (zaa zae zac))) zac))) (zai (zao (za0 (zaa (zab 2) (zaa (zab 3) (zaa (zbb C B (zaa (zaz 1 ["_law_k", "_law_state", "_law_house_here", "_law_rooms", "_law_flags"] C (λ_ => .of rfl (by kernel_rfl)) (i_r1 C B (zaa (zaj C (zab 1) zae) zac)) (zau 0) za6 (zak 1 (C.comp _ _) zde (upS hO) (zaa (zaj (C.comp _ _) (zab 2) zae) (zaa zae zac)))) zac)) zac)))))))),λds Qr hn q=>?_⟩
 obtain⟨h,rfl,hh,q⟩:=q
 have sz:=sizeLine_eq
 have hm:=hh.many
 have hl:=hh.lines
 have hf:=hh.flags
 refine⟨_,_,rfl,rfl,_,rfl,_,rfl,?_⟩
 refine zu8 (λx hx Py hPy=>?_) (by omega) λrs hrs hrg=>?_
 ·have:=hh.pos x hx
  refine⟨rfl,_,_,rfl,rfl,_,rfl,rfl,_,rfl,by omega,by omega,λk k0 k1=>?_⟩
  obtain⟨m,rfl⟩:=QP k0
  exact hPy m (by omega)
 refine⟨_,rfl,zal (λ_=>rfl) _,?_⟩
 refine⟨_,_,rfl,rfl,_,rfl,_,rfl,by omega,by omega,?_⟩
 refine ze5 (enc2:=nD) (good:=λf=>f<2) (λx hx Py hPy=>?_) (by rw[QZ];omega) λfs hfg hfs=>?_
 ·exact zda rfl (by decide) (by decide) λk hk=>hPy k (by omega)
 rw[QZ] at hfs
 refine⟨_,rfl,zal (λ_=>rfl) _,?_⟩
 refine⟨_,_,rfl,rfl,_,_,rfl,rfl,_,_,rfl,rfl,_,rfl,_,rfl,by omega,by omega,?_⟩
 refine ze5 (enc2:=wD) (good:=λw=>(∀ c ∈ w,c ∈ h.ls)/\w.length<=4) (λx hx Py hPy=>?_) (by rw[QZ];omega) λws hs hws=>?_
 ·exact⟨rfl,_,_,rfl,rfl,_,rfl,rfl,h.ls,4,rfl,hh.ne,hh.short,by decide,λw h1 h2=>hPy w ⟨h1,h2⟩⟩
 rw[QZ] at hws
 refine⟨_,rfl,(by show 3<=sizeLine;omega),q ⟨rs,fs,ws⟩ ⟨?_,λw hw=>(hs w hw).2⟩⟩
 unfold zch upZ
 dsimp only
 have e2:fs.length=h.flags:=by omega
 have e3:ws.length=h.lines:=by omega
 rw[z5i hrs hrg,<- e2,z3d hfg,decide_eq_true e3,QO,QO,QO,Q9]
 intro w hw
 unfold zhm
 rw[Q9]
 exact λc hc=>decide_eq_true ((hs w hw).1 c hc)
end
theorem zl9:∀ ds:List PyData,zipD ds ds=ds.map λd => .tuple [d,d]
 | []=>rfl
 | d::ds=>by rw[zipD,zl9 ds];rfl
section
variable {P : Program} {w : World} {K : Qa} {mg : Str → Option Value} {base : Heap} {k : Nat}
abbrev zh1:Stmt:=top 32
theorem znd:FnScope ["_law_found", "_law_due"] ["_law_found", "_law_due"] (zah zh1):=⟨rfl,rfl,rfl,by decide +kernel,rfl,by decide +kernel,by decide +kernel⟩
theorem zg6(B:Blt mg)(T:Top3 K mg "_law_alike" zh1):∀ m,Def3 P w K mg base (1+m) "_law_alike" ["_law_found", "_law_due"] (spO K (λ_=>True) 2 (zln m))
 | 0=>by
   obtain⟨f,fd,Fu,m⟩:=T.ex
   refine⟨f,fd,Fu.ok znd (zn9 rfl) (λcdv A outer s H vs Q E hr h=>?_),m,Fu.kp,Fu.binds (λ_ _ _ _ _ _ us hl=>len2 hl λ_ _=>rfl)⟩
   obtain⟨O,ds,Qr,ok,hφ,p,hl,is,q,kk⟩:=h
   exact(zqd q).elim
 | m+1=>by
   have zbx:=zg6 B T m
   refine mk_O (k:=1+m) T znd (λ_ _ _ _ _ _ us hl=>len2 hl λ_ _=>rfl) rfl λf cdv A outer s H E O hφ C=>⟨_,(zad (s_if (zb8 (zd9 (T := "tuple") C B (zab 1) B.tuple)) (zad (s_if (t_w (w_or (zc2 (zb8 (zd9 (T := "tuple") C B (zab 0) B.tuple))) (zcf (t_ne C (za9 C B (zaa (zab 0) zac)) (za9 C B (zaa (zab 1) zac)))))) (zai (zao e_bl)) zax) (zai (zao (ze8 C B (zaa (zaz 2 ["_law_one", "_law_other", "_law_found", "_law_due"] C (λ_ => .of rfl (by kernel_rfl)) (zlx C B (zaa (zab 0) (zaa (zab 1) zac))) (zgg (C.comp _ _) (za1 0 (za1 1 zcj))) za6 (zav (C.comp _ _) zbx (hk:=Qo _) (λ_=>trivial) (zaa (zab 0) (zaa (zab 1) zac)))) zac))))) zax) (zad (s_if (zb8 (zd9 (T := "str") C B (zab 1) B.str)) (zai (zao (zea (zd9 (T := "str") C B (zab 0) B.str) (zf4 (e_eq C (zab 0) (zab 1)))))) zax) (zai (zao (zea (zd9 (T := "int") C B (zab 0) B.int) (zea (zw1 (zd9 (T := "bool") C B (zab 0) B.bool)) (zf4 (e_eq C (zab 0) (zab 1))))))))),λds Qr hn q=>?_⟩
   obtain⟨d,rfl,hd,q⟩:=q
   have sz:=sizeLine_eq
   cases d with
   | int i =>
     refine⟨_,_,rfl,rfl,_,rfl,_,rfl,iteF ⟨_,_,rfl,rfl,_,rfl,_,rfl,iteF ⟨_,_,rfl,rfl,_,rfl,_,rfl,iteT ⟨_,_,rfl,rfl,_,rfl,_,rfl,_,rfl,iteT ⟨_,_,rfl,rfl,_,_,rfl,rfl,_,zei,?_⟩⟩⟩⟩⟩
     rw[if_neg Qn,decide_eq_true rfl]
     exact q
   | str x =>
     refine⟨_,_,rfl,rfl,_,rfl,_,rfl,iteF ⟨_,_,rfl,rfl,_,rfl,_,rfl,iteT ⟨_,_,rfl,rfl,_,rfl,_,rfl,iteT ⟨_,_,rfl,rfl,_,_,rfl,rfl,_,zok hd hd,?_⟩⟩⟩⟩
     rw[if_neg Qn,beq_self_eq_true]
     exact q
   | tuple ds =>
     obtain⟨h1,h2,h3⟩:=hd
     refine⟨_,_,rfl,rfl,_,rfl,_,rfl,iteT ⟨_,_,rfl,rfl,_,rfl,_,rfl,iteF ⟨_,_,rfl,rfl,_,rfl,_,_,rfl,rfl,_,rfl,_,zei,_,rfl,?_⟩⟩⟩
     rw[if_pos rfl,decide_eq_true rfl]
     refine iteF ⟨_,_,rfl,rfl,_,_,rfl,rfl,_,_,rfl,h2,h2,?_⟩
     rw[zl9]
     refine zf8 (α:=PyData) (e:=λ_ => .bool true) (λd hd P hP=>?_) zhp (by omega) ?_
     ·exact⟨_,rfl,iteT (B:=False) ⟨_,_,rfl,rfl,_,_,rfl,rfl,rfl,d,rfl,h3 d hd,hP _ rfl⟩⟩
     ·refine⟨ds.map λ_=>true,by rw[QB];rfl,?_⟩
      have e:(ds.map λ_=>true).all id=true:=by simp
      rw[if_neg Qn,e]
      exact q
   | _=>exact hd.elim
theorem zbx(B:Blt mg)(T:Top3 K mg "_law_alike" zh1):Def3 P w K mg base 9 "_law_alike" ["_law_found", "_law_due"] (spO K (λ_=>True) 2 (zln 8)):=zg6 B T 8
end
section
variable {P : Program} {w : World} {K : Qa} {mg : Str → Option Value} {base : Heap} {k : Nat}
abbrev zfa:Stmt:=top 33
theorem zl2:FnScope ["_law_less", "_law_more", "_law_at", "_law_x"] ["_law_less", "_law_more"] (zah zfa):=⟨rfl,rfl,rfl,by decide +kernel,rfl,by decide +kernel,by decide +kernel⟩
theorem zc6(B:Blt mg)(T:Top3 K mg "_law_lies_under" zfa):Def3 P w K mg base 1 "_law_lies_under" ["_law_less", "_law_more"] (spO K (λ_=>True) 2 zeg):=by
 refine mk_O T zl2 (λ_ _ _ _ _ _ us hl=>len2 hl λ_ _=>rfl) rfl λf cdv A outer s H E O hφ C=>⟨_,(zad (zan 2 zae) (zad (zcz C (zcy (zjv (zab 1))) (zau (h:=1000) 3) (zai (s_if (t_w (zlm (t_lt (zab 2) (za9 C B (zaa (zab 0) zac))) (zjn (t_eq C (zaj C (zab 0) (zab 2)) (zab 3))))) (zai (zan 2 (zas C (zab 2) zae))) zax))) (zai (zao (e_eq C (zab 2) (za9 C B (zaa (zab 0) zac))))))),λds Qr hn q=>?_⟩
 obtain⟨less,more,rfl,hs,hm,q⟩:=q
 have sz:=sizeLine_eq
 have hl:=hs.1
 have hl2:=hm.1
 refine⟨rfl,_,_,rfl,rfl,_,rfl,rfl,?_⟩
 refine zbk (λj ρ=>∃ (at':Nat) (o3:Option DV),ρ = [some (.im (tS less)),some (.im (tS more)),some (.im (.int (at':Nat))),o3]/\eats (more.take j) less=less.drop at'/\at'<=less.length/\j<=more.length)
  ⟨0,none,rfl,rfl,QH _,QH _⟩ (λρ ⟨a,o3,e,h1,h2,h4⟩=>?_) λj d ρ N hd hN ⟨a,o3,e,h1,h2,h4⟩=>?_
 ·subst e
  rw[zpk,jg] at h1
  refine⟨_,_,rfl,rfl,_,_,rfl,rfl,_,zcx (by omega),_,zei,?_⟩
  rw[if_neg Qn]
  unfold L6.under at q
  rw[h1] at q
  have e:(less.drop a).isEmpty=decide ((a:Int)=(less.length:Nat)):=by
   by_cases z:a=less.length
   ·rw[z,Ys,decide_eq_true rfl];rfl
   ·rw[decide_eq_false (by omega)]
    have:0<(less.drop a).length:=by rw[QD];omega
    cases hz:less.drop a with
    | nil=>rw[hz] at this;cases this
    | cons _ _=>rfl
  rw[e] at q
  exact q
 ·subst e
  obtain⟨c,hc,rfl⟩:=zoy hd
  obtain⟨hlt,ec⟩:=Qs.mp hc
  have et:eats (more.take (j+1)) less=eat c (less.drop a):=by
   rw[List.take_succ_eq_append_getElem hlt,ec]
   unfold eats
   rw[List.foldl_append]
   show eat c (eats (more.take j) less)=_
   rw[h1]
  refine⟨rfl,?_⟩
  refine⟨_,_,rfl,rfl,_,_,rfl,rfl,_,zcx (by omega),_,rfl,_,rfl,?_⟩
  by_cases ha:a<less.length
  ·rw[decide_eq_true (by omega)]
   refine iteT ⟨_,_,rfl,rfl,_,_,rfl,rfl,_,zdc ha (by omega),_,_,rfl,rfl,_,zok (zrx ⟨by simp,λx hx=>by simp at hx;rw[hx];exact hs.2 _ (QL ha)⟩) (zrx (w := [c]) ⟨by simp,λx hx=>by simp at hx;rw[hx,<- ec];exact hm.2 _ (QL hlt)⟩),_,rfl,?_⟩
   rw[if_neg Qn,show sg c=tx [c] from rfl,z2t]
   rw[Zm ha] at et
   by_cases z:less[a]=c
   ·rw[decide_eq_true (by rw[z])]
    rw[show eat c (less[a]::less.drop (a+1))=less.drop (a+1) from if_pos z] at et
    exact iteT ⟨_,_,rfl,rfl,_,rfl,rfl,hN _ ⟨a+1,_,rfl,et,ha,hlt⟩⟩
   ·rw[decide_eq_false (by simpa using z)]
    rw[show eat c (less[a]::less.drop (a+1))=less[a]::less.drop (a+1) from if_neg z,<- Zm ha] at et
    exact iteF (hN _ ⟨a,_,rfl,et,h2,hlt⟩)
  ·rw[decide_eq_false (by omega)]
   have:less.drop a = []:=List.drop_eq_nil_iff.mpr (by omega)
   rw[this] at et
   exact iteF (iteF (hN _ ⟨a,_,rfl,by rw[et,this];rfl,h2,hlt⟩))
end
section
variable {P : Program} {w : World} {K : Qa} {mg : Str → Option Value} {base : Heap} {k : Nat}
abbrev zeu:Stmt:=top 34
theorem zlf:FnScope ["_law_house_here", "_law_some", "_law_rooms", "_law_flags", "_law_words", "_law_room", "_law_hand"] ["_law_house_here", "_law_some"] (zah zeu):=⟨rfl,rfl,rfl,by decide +kernel,rfl,by decide +kernel,by decide +kernel⟩
theorem zbj(B:Blt mg)(T:Top3 K mg "_law_is_standing" zeu):Def3 P w K mg base 1 "_law_is_standing" ["_law_house_here", "_law_some"] (spO K (λ_=>True) 2 zhy):=by
 refine mk_O T zlf (λ_ _ _ _ _ _ us hl=>len2 hl λ_ _=>rfl) rfl λf cdv A outer s H E O hφ C=>⟨_,(zad (zjp (h:=1000) C (zab 1) (za1 2 (za1 3 (za1 4 zcj)))) (zad (s_if (t_ne C (za5 (zaa (za9 C B (zaa (zab 2) zac)) (zaa (za9 C B (zaa (zab 3) zac)) (zaa (za9 C B (zaa (zab 4) zac)) zac)))) (za5 (zaa (za9 C B (zaa (zaj C (zab 0) zae) zac)) (zaa (zaj C (zab 0) zae) (zaa (zaj C (zab 0) zae) zac))))) (zai (zao e_bl)) zax) (zad (zcz C (zcy (zlx C B (zaa (zab 2) (zaa (zaj C (zab 0) zae) zac)))) (zgg (h:=1000) C (za1 5 (za1 6 zcj))) (zai (s_if (t_w (w_or (t_lt (zab 5) zae) (zcf (t_ge (zab 5) (zaj C (zab 6) zae))))) (zai (zao e_bl)) zax))) (zad (s_if (t_gt (za9 C B (zaa (zaz 1 ["_law_flag", "_law_house_here", "_law_some", "_law_rooms", "_law_flags", "_law_words", "_law_room", "_law_hand"] C (λ_ => .of rfl (by kernel_rfl)) (zcg C (zab 3)) (zau 0) (zi6 (t_w (zlm (t_ne (C.comp _ _) (zab 0) zae) (zjn (t_ne (C.comp _ _) (zab 0) zae))))) (zab 0)) zac)) zae) (zai (zao e_bl)) zax) (zai (zao (e_eq C (za9 C B (zaa (zaz 1 ["_law_x", "_law_house_here", "_law_some", "_law_rooms", "_law_flags", "_law_words", "_law_room", "_law_hand"] C (λ_ => .of rfl (by kernel_rfl)) (zjv (zkq C zam (zab 4))) (zau 0) (zi6 (zzh (C.comp _ _) (zab 0) (zaj (C.comp _ _) (zab 1) zae))) (zab 0)) zac)) zae))))))),λds Qr hn q=>?_⟩
 obtain⟨h,z,rfl,hh,z1,z2,z3,z4,z5,q⟩:=q
 have sz:=sizeLine_eq
 have hm:=hh.many
 have hf:=hh.flags
 have hl:=hh.lines
 rw[<- z0i] at q
 (repeat infer_instance)
 refine⟨zkl z,?_⟩
 (repeat first|refine⟨_,zvv _ _ _ _ _ _,?_⟩|refine⟨zvv _ _ _ _ _ _,?_⟩|infer_instance)
 rw[if_pos rfl,Qb,Qb,Qb,Qb]
 refine iteB (λa1=>?_) λa1=>?_
 ·rw[zeb a1,Z5] at q
  exact q
 rw[zdg a1,QO] at q
 have b1:=zdg a1
 simp only[Qv,decide_eq_true_eq] at b1
 refine⟨_,_,rfl,rfl,_,_,rfl,rfl,_,rfl,_,_,rfl,zal (λ_=>rfl) _,zal zhq _,?_⟩
 rw[zex]
 refine⟨rfl,?_⟩
 refine zbk (λj ρ=>∃ (o5 o6:Option DV),ρ = [some (.im (zbs h)),some (.im (zgf z)),some (.im (.tuple (z.rooms.map iD))),some (.im (.tuple (z.flags.map iD))),some (.im (.tuple (z.words.map wD))),o5,o6]/\((z.rooms.zip h.hands).take j).all (λp=>thI (p.1,(p.2.n:Int)))=true) ⟨none,none,rfl,rfl⟩ (λρ zz=>?_) λj d ρ N hd hN zz=>?_
 ·obtain⟨o5,o6,e,g⟩:=zz
  subst e
  rw[Qb,jg] at g
  rw[g,QO] at q
  (repeat infer_instance)
  refine zic (α:=Int) (enc:=iD) (p:=λf=>!decide (f=0) && !decide (f=1)) (e:=iD) (λf hf Pn Py hPn hPy=>?_) (by omega) ?_
  ·(repeat infer_instance)
   refine iteB (λb=>?_) λb=>?_
   rotate_left
   ·exact iteF (hPn (by rw[b];rfl))
   (repeat infer_instance)
   refine iteB (λb'=>?_) λb'=>?_
   ·exact⟨_,_,rfl,rfl,hPy (by rw[b,b'];rfl) _ rfl⟩
   ·exact hPn (by rw[b,b'];rfl)
  (repeat infer_instance)
  have e1:(z.flags.all λf=>decide (f=0) || decide (f=1)) = !decide ((0:Int)<(((z.flags.filter λf=>!decide (f=0) && !decide (f=1)).map iD).length:Nat)):=by
   rw[Qb,JW,Q9,JF,decide_eq_false_iff_not]
   constructor
   ·intro h0 h1
    obtain⟨f,hf⟩:=Yy (l:=z.flags.filter λf=>!decide (f=0) && !decide (f=1)) (by omega)
    have:=Yz.mp hf
    have h2:=h0 f this.1
    simp only[Qv,JF,decide_eq_false_iff_not,JY,decide_eq_true_eq] at this h2
    omega
   ·intro h0 f hf
    have:(z.flags.filter λf=>!decide (f=0) && !decide (f=1)) = []:=ZT (by omega)
    have:=Yn.mp this f hf
    simp only[Qv,JF,decide_eq_false_iff_not,JY,decide_eq_true_eq] at this ⊢
    omega
  rw[e1] at q
  refine iteB (λb=>?_) λb=>?_
  ·rw[b,Bool.not_true,Z5] at q
   exact q
  rw[b,Bool.not_false,QO] at q
  (repeat infer_instance)
  have fl:z.words.flatten.length<=1000000:=z5
  obtain⟨ys,y1,y2,y3⟩:=zil z.words (by omega)
  refine⟨ys,y1,y2,?_⟩
  rw[show J0 (Qp "") ys=tx z.words.flatten from y3]
  refine⟨_,rfl,?_⟩
  rw[show sgs (tx z.words.flatten)=z.words.flatten.map λc => .str (sg c) by unfold sgs;rw[zbd]]
  refine zic (α:=Nat) (enc:=λc => .str (sg c)) (p:=λc=>!decide (c ∈ h.ls)) (e:=λc => .str (sg c)) (λc hc Pn Py hPn hPy=>?_) (by omega) ?_
  ·refine⟨_,_,rfl,rfl,_,_,rfl,rfl,_,rfl,_,zrh h.ls c true,_,rfl,?_⟩
   rw[if_pos rfl]
   refine iteB (λb=>?_) λb=>?_
   ·exact⟨_,_,rfl,rfl,hPy b _ rfl⟩
   ·exact hPn b
  (repeat infer_instance)
  have e2:(z.words.flatten.all λc=>decide (c ∈ h.ls))=decide ((((z.words.flatten.filter λc=>!decide (c ∈ h.ls)).map λc=>Z7 (sg c)).length:Int)=0):=by
   rw[Qb,JW,Q9,decide_eq_true_eq]
   constructor
   ·intro h0
    have:(z.words.flatten.filter λc=>!decide (c ∈ h.ls)) = []:=Yn.mpr λc hc=>by have:=h0 c hc;simpa using this
    rw[this]
    rfl
   ·intro h0 c hc
    have:(z.words.flatten.filter λc=>!decide (c ∈ h.ls)) = []:=ZT (by omega)
    simpa using Yn.mp this c hc
  rw[e2] at q
  exact q
 ·obtain⟨o5,o6,e,g⟩:=zz
  subst e
  rw[Qy] at hd
  obtain⟨p,hp,rfl⟩:=QA.mp hd
  refine⟨by show(flat (iD p.1) && (flat (zb7 p.2) && true))=true;rw[zhq];rfl,_,rfl,?_⟩
  have tk:(z.rooms.zip h.hands).take (j+1)=(z.rooms.zip h.hands).take j ++ [p]:=by rw[List.take_succ,hp];rfl
  have al:thI (p.1,(p.2.n:Int))=false->(z.rooms.zip h.hands).all (λp=>thI (p.1,(p.2.n:Int)))=false:=λz0=>by
   rw[List.all_eq_false]
   exact⟨p,Zn hp,by rw[z0];exact Qn⟩
  (repeat infer_instance)
  refine iteB (λb=>?_) λb=>?_
  ·rw[al (by show(decide (0<=p.1) && _)=false;rw[decide_eq_false (by have:=of_decide_eq_true b;omega)];rfl),Z5] at q
   exact iteT q
  (repeat infer_instance)
  refine iteB (λb'=>?_) λb'=>?_
  ·rw[al (by show(_ && decide (p.1<(p.2.n:Int)))=false;rw[decide_eq_false (p:=p.1<(p.2.n:Int)) (by have:=of_decide_eq_true b';omega),qN]),Z5] at q
   exact q
  ·refine hN _ ⟨_,_,rfl,?_⟩
   rw[tk,List.all_append,g,QO,jL,List.all_nil,qY]
   unfold thI
   rw[decide_eq_true (by have:=of_decide_eq_false b;show 0<=p.1;omega),decide_eq_true (p:=p.1<(p.2.n:Int)) (by have:=of_decide_eq_false b';omega)]
   rfl
end
section
variable {P : Program} {w : World} {K : Qa} {mg : Str → Option Value} {base : Heap} {k : Nat}
abbrev zg4:Stmt:=top 35
theorem zpr:FnScope ["_law_one", "_law_other"] ["_law_one", "_law_other"] (zah zg4):=⟨rfl,rfl,rfl,by decide +kernel,rfl,by decide +kernel,by decide +kernel⟩
theorem zdp(B:Blt mg)(zc6:Def3 P w K mg base 1 "_law_lies_under" ["_law_less", "_law_more"] (spO K (λ_=>True) 2 zeg))(T:Top3 K mg "_law_is_above" zg4):Def3 P w K mg base 2 "_law_is_above" ["_law_one", "_law_other"] (spO K (λ_=>True) 2 abvF):=by
 refine mk_O T zpr (λ_ _ _ _ _ _ us hl=>len2 hl λ_ _=>rfl) rfl λf cdv A outer s H E O hφ C=>⟨_,(zad (s_if (t_w (w_or (t_ne C (zaj C (zab 0) zae) (zaj C (zab 1) zae)) (zcf (t_ne C (zaj C (zab 0) zae) (zaj C (zab 1) zae))))) (zai (zao e_bl)) zax) (zai (zao (ze8 C B (zaa (zaz 2 ["_law_less", "_law_more", "_law_one", "_law_other"] C (λ_ => .of rfl (by kernel_rfl)) (zlx C B (zaa (zaj C (zab 1) zae) (zaa (zaj C (zab 0) zae) zac))) (zgg (C.comp _ _) (za1 0 (za1 1 zcj))) za6 (zav (C.comp _ _) zc6 (λ_=>trivial) (zaa (zab 0) (zaa (zab 1) zac)))) zac))))),λds Qr hn q=>?_⟩
 obtain⟨a,b,rfl,ha,hb,hl,q⟩:=q
 have sz:=sizeLine_eq
 have l1:=ha.words
 unfold abvB at q
 (repeat infer_instance)
 refine⟨_,zpl _ _,?_⟩
 rw[if_pos rfl]
 (repeat infer_instance)
 refine iteB (λa1=>?_) λa1=>?_
 ·rw[zeb a1,Z5] at q
  exact iteT q
 rw[zdg a1,QO] at q
 (repeat infer_instance)
 refine⟨_,zpl _ _,?_⟩
 rw[if_pos rfl]
 (repeat infer_instance)
 refine iteB (λa2=>?_) λa2=>?_
 ·rw[zeb a2,Z5] at q
  exact q
 rw[zdg a2,QO] at q
 refine⟨_,_,rfl,rfl,_,rfl,_,_,rfl,rfl,_,rfl,_,_,rfl,zal (λ_=>rfl) _,zal (λ_=>rfl) _,?_⟩
 rw[zex]
 refine zf8 (α:=List Nat × List Nat) (enc:=λp => .tuple [wD p.1,wD p.2]) (e:=λp => .bool (L6.under p.1 p.2)) (λp hp P hP=>?_) zhp (by rw[jy];omega) ?_
 ·refine⟨_,rfl,iteT (B:=False) ?_⟩
  obtain⟨m1,m2⟩:=JC hp
  exact⟨_,_,rfl,rfl,_,_,rfl,rfl,rfl,p.1,p.2,rfl,hb.sml _ m1,ha.sml _ m2,hP _ rfl⟩
 refine⟨_,zeo _ _,?_⟩
 rw[zet]
 exact q
end
section
variable {P : Program} {w : World} {K : Qa} {mg : Str → Option Value} {base : Heap} {k : Nat}
abbrev zm5:Stmt:=top 36
theorem zz3:FnScope ["_law_state", "_law_house_here", "_law_standing_here", "_law_rooms", "_law_flags", "_law_words", "_law_other", "_law_found", "_law_word_here", "_law_k", "_law_at", "_law_x", "_law_form"] ["_law_state", "_law_house_here", "_law_standing_here"] (zah zm5):=⟨rfl,rfl,rfl,by decide +kernel,rfl,by decide +kernel,by decide +kernel⟩
theorem zf7(B:Blt mg)(zag:zdx P w K mg base)(zby:Def3 P w K mg base 3 "_law_standing" ["_law_state", "_law_house_here"] (spD K IsState 1 zj1))(T:Top3 K mg "_law_near" zm5):Def3 P w K mg base 4 "_law_near" ["_law_state", "_law_house_here", "_law_standing_here"] (spD K IsState 2 zsh):=by
 refine mk_D T zz3 (λ_ _ _ _ _ _ us hl=>len3 hl λ_ _ _=>rfl) rfl λf cdv A outer s H E O hφ C=>?_
 have hO:∀ j:Unit,IsState ((λ_:Unit=>O) j):=λ_=>hφ
 refine⟨_,(zad (zjp (h:=1000) C (zab 2) (za1 3 (za1 4 (za1 5 zcj)))) (zad (zan 6 (zak 0 C zby hO (zaa (zab 1) zac))) (zad (zan 7 (za5 zac)) (zad (zcz C (zcy (zcg C (zab 5))) (zau (h:=1000) 8) (zad (zcz C (zcy (i_r1 C B (zaa (zak 0 C zag hO (zaa zae zac)) zac))) (zau (h:=1000) 9) (zad (zan 10 (zak 0 C zag hO (zaa (zas C (za9 C B (zaa (zab 8) zac)) zae) zac))) (zad (zan 11 (zaj C (zaj C (zab 1) zae) (zak 0 C zag hO (zaa (za9 C B (zaa (zaj C (zab 1) zae) zac)) zac)))) (zai (zan 8 (zaj C (za5 (zaa (zas C (zas C (zay C (zab 8) za8 (za2 (zab 10))) (zab 11)) (zay C (zab 8) (za2 (zab 10)) za8)) (zaa (zas C (zay C (zab 8) za8 (za2 (zab 10))) (zay C (zab 8) (za2 (zas C (zab 10) zae)) za8)) zac))) (zak 0 C zag hO (zaa zae zac)))))))) (zai (zlq 7 C (zay C (zab 8) za8 (za2 zae)))))) (zad (zan 12 (zak 0 C zag hO (zaa zae zac))) (zai (zao (za0 (zaa (zaj C (za5 (zaa (zab 3) (zaa (zaj C (zab 6) zae) zac))) (zdk C B (zaa (e_eq C (zab 12) zae) zac))) (zaa (zaj C (za5 (zaa (zab 4) (zaa (zaj C (zab 6) zae) zac))) (zdk C B (zaa (e_eq C (zab 12) zae) zac))) (zaa (zbb C B (zaa (zab 7) zac)) zac))))))))))),λds Qr hn q=>?_⟩
 obtain⟨h,s,rfl,hh,hs,q⟩:=q
 have sz:=sizeLine_eq
 have I:=zcq hh hs.is
 have iw:=I.words
 have hl:=hh.lines
 have hls:=hh.short
 have hln:=Jw.mpr hh.ne
 (repeat infer_instance)
 refine⟨zbh s,?_⟩
 (repeat infer_instance)
 refine⟨hh,λs2 hs2=>⟨zbh s2,?_⟩⟩
 (repeat infer_instance)
 refine zbk (λj ρ=>∃ (fs:List (List Nat)) (o8 o9 o10 o11 o12:Option DV),ρ = [some .ob,some (.im (zbs h)),some (.im (zaq s)),some (.im (.tuple (s.rooms.map nD))),some (.im (.tuple (s.flags.map nD))),some (.im (.tuple (s.words.map wD))),some (.im (zaq s2)),some (.own (fs.map wD)),o8,o9,o10,o11,o12]/\fs.length=j/\∀ w ∈ fs,w.length<=4/\∀ c ∈ w,c ∈ h.ls) ⟨[],none,none,none,none,none,rfl,rfl,by simp⟩ (λρ zz=>?_) λj d ρ N hd hN zz=>?_
 ·obtain⟨fs,o8,o9,o10,o11,o12,e,g1,g2⟩:=zz
  subst e
  rw[Qb] at g1
  (repeat infer_instance)
  refine dr (by decide) (by decide) λk hk=>?_
  (repeat infer_instance)
  refine⟨_,zho,?_⟩
  (repeat infer_instance)
  refine⟨_,zho,?_⟩
  (repeat infer_instance)
  show Qr (.o (.tuple [if decide ((k:Int)=0)=true then .tuple (s2.rooms.map nD) else .tuple (s.rooms.map nD),if decide ((k:Int)=1)=true then .tuple (s2.flags.map nD) else .tuple (s.flags.map nD),.tuple (fs.map wD)]))
  rw[z2x]
  obtain⟨x1,x2,x3,x4⟩:=stB_iff.mp hs.is
  obtain⟨y1,y2,y3,y4⟩:=stB_iff.mp hs2.is
  refine q _ ⟨stB_iff.mpr ⟨?_,?_,by show fs.length=_;omega,λw hw=>(g2 w hw).2⟩,λw hw=>(g2 w hw).1⟩
  ·show zbq (Ym _ (if _ then _ else _)) _=true
   split
   ·exact y1
   ·exact x1
  ·show zbq (Ym _ (if _ then _ else _)) _=true
   split
   ·exact y2
   ·exact x2
 ·obtain⟨fs,o8,o9,o10,o11,o12,e,g1,g2⟩:=zz
  subst e
  rw[Qy] at hd
  obtain⟨w,hw,rfl⟩:=QA.mp hd
  have hwm:=Zn hw
  obtain⟨hj,_⟩:=Qs.mp hw
  refine⟨rfl,?_⟩
  (repeat infer_instance)
  refine dr (by decide) (by decide) λk hk=>?_
  refine⟨_,rfl,by omega,by omega,rfl,?_⟩
  refine zbk (λi ρ=>∃ (w':List Nat) (o9 o10 o11:Option DV),ρ = [some .ob,some (.im (zbs h)),some (.im (zaq s)),some (.im (.tuple (s.rooms.map nD))),some (.im (.tuple (s.flags.map nD))),some (.im (.tuple (s.words.map wD))),some (.im (zaq s2)),some (.own (fs.map wD)),some (.im (wD w')),o9,o10,o11,o12]/\w'.length<=4+i/\∀ c ∈ w',c ∈ h.ls) ⟨w,o9,o10,o11,rfl,hs.short w hwm,I.lets w hwm⟩ (λρ zz=>?_) λi d ρ N' hd' hN' zz=>?_
  ·obtain⟨w',o9,o10,o11,e,f1,f2⟩:=zz
   subst e
   rw[zgx] at f1
   (repeat first|refine⟨_,zbv (v:=w') (lo:=none) (hi:=some 4) (by omega),?_⟩|refine⟨zbv (v:=w') (lo:=none) (hi:=some 4) (by omega),?_⟩|infer_instance)
   refine⟨by rw[Qb];omega,hN _ ⟨fs ++ [w'.take 4],_,_,_,_,_,by rw[QR,show cutL w' none (some 4)=w'.take 4 from zcc w' 4];rfl,by rw[Qg,Zq];omega,λv hv=>?_⟩⟩
   rcases Q6.mp hv with hv|hv
   ·exact g2 v hv
   ·rw[Q3.mp hv]
    exact⟨by rw[Qz];omega,λc hc=>f2 c (Zv hc)⟩
  ·obtain⟨w',o9,o10,o11,e,f1,f2⟩:=zz
   subst e
   obtain⟨hi,rfl⟩:=zck hd'
   refine⟨rfl,?_⟩
   (repeat first|refine⟨_,zcx (w:=w') (by omega),?_⟩|refine⟨zcx (w:=w') (by omega),?_⟩|infer_instance)
   refine dr (by omega) (by omega) λa ha=>?_
   (repeat first|refine⟨_,zcx (w:=h.ls) (by omega),?_⟩|refine⟨zcx (w:=h.ls) (by omega),?_⟩|infer_instance)
   refine dr (by omega) (by omega) λb hb=>?_
   have hb:b<h.ls.length:=by omega
   have la:(cutL w' none (some (a:Int))).length<=w'.length:=zfk _ _ _
   have lb:(cutL w' (some (a:Int)) none).length<=w'.length:=zfk _ _ _
   have lc:(cutL w' (some ((a:Int)+1)) none).length<=w'.length:=zfk _ _ _
   have hx:h.ls[b] ∈ h.ls:=QL hb
   (repeat first|refine⟨_,zdc hb (by omega),?_⟩|refine⟨zdc hb (by omega),?_⟩|refine⟨_,zbv (v:=w') (lo:=none) (hi:=some (a:Int)) (by omega),?_⟩|refine⟨zbv (v:=w') (lo:=none) (hi:=some (a:Int)) (by omega),?_⟩|infer_instance)
   refine⟨_,zen (by show _+1<=_;omega),?_⟩
   (repeat first|refine⟨_,zbv (v:=w') (lo:=some (a:Int)) (hi:=none) (by omega),?_⟩|refine⟨zbv (v:=w') (lo:=some (a:Int)) (hi:=none) (by omega),?_⟩|infer_instance)
   refine⟨_,zen (by rw[Qg];show _+1+_<=_;omega),?_⟩
   (repeat first|refine⟨_,zbv (v:=w') (lo:=none) (hi:=some (a:Int)) (by omega),?_⟩|refine⟨zbv (v:=w') (lo:=none) (hi:=some (a:Int)) (by omega),?_⟩|refine⟨_,zbv (v:=w') (lo:=some ((a:Int)+1)) (hi:=none) (by omega),?_⟩|refine⟨zbv (v:=w') (lo:=some ((a:Int)+1)) (hi:=none) (by omega),?_⟩|infer_instance)
   refine⟨_,zen (by omega),?_⟩
   (repeat infer_instance)
   refine dr (by decide) (by decide) λm hm=>?_
   have m01:m=0\/m=1:=by omega
   have c1:∀ {lo hi:Option Int} {c:Nat},c ∈ cutL w' lo hi->c ∈ h.ls:=λhc=>f2 _ (zmp hc)
   rcases m01 with rfl|rfl
   ·refine⟨_,rfl,rfl,hN' _ ⟨cutL w' none (some (a:Int)) ++ [h.ls[b]]++cutL w' (some (a:Int)) none,_,_,_,rfl,?_,λc hc=>?_⟩⟩
    ·rw[zcc,zcm,Qg,Qg,Qz,QD]
     show _+1+_<=_
     omega
    ·rcases Q6.mp hc with hc|hc
     ·rcases Q6.mp hc with hc|hc
      ·exact c1 hc
      ·rw[Q3.mp hc];exact hx
     ·exact c1 hc
   ·refine⟨_,rfl,rfl,hN' _ ⟨cutL w' none (some (a:Int))++cutL w' (some ((a:Int)+1)) none,_,_,_,rfl,?_,λc hc=>?_⟩⟩
    ·rw[show(a:Int)+1=((a+1:Nat):Int) from rfl,zcc,zcm,Qg,Qz,QD]
     omega
    ·rcases Q6.mp hc with hc|hc <;> exact c1 hc
end
section
variable {P : Program} {w : World} {K : Qa} {mg : Str → Option Value} {base : Heap} {k : Nat}
abbrev zmk:Stmt:=top 37
theorem zxy:FnScope ["_law_state", "_law_some", "_law_others", "_law_at", "_law_other", "_law_after"] ["_law_state", "_law_some", "_law_others"] (zah zmk):=⟨rfl,rfl,rfl,by decide +kernel,rfl,by decide +kernel,by decide +kernel⟩
theorem zdf(B:Blt mg)(zag:zdx P w K mg base)(T:Top3 K mg "_law_bent" zmk):Def3 P w K mg base 2 "_law_bent" ["_law_state", "_law_some", "_law_others"] (spD K IsState 2 ztr):=by
 refine mk_D T zxy (λ_ _ _ _ _ _ us hl=>len3 hl λ_ _ _=>rfl) rfl λf cdv A outer s H E O hφ C=>?_
 have hO:∀ j:Unit,IsState ((λ_:Unit=>O) j):=λ_=>hφ
 refine⟨_,(zad (zan 3 (zak 0 C zag hO (zaa (zas C (za9 C B (zaa (zab 1) zac)) zae) zac))) (zad (zan 4 (zaj C (zab 2) (zak 0 C zag hO (zaa (za9 C B (zaa (zab 2) zac)) zac)))) (zad (zan 5 (zas C (zab 3) (zak 0 C zag hO (zaa zae zac)))) (zad (s_if (t_eq C (zak 0 C zag hO (zaa zae zac)) zae) (zai (zao (zas C (zay C (zab 1) za8 (za2 (zab 3))) (zay C (zab 1) (za2 (zas C (zab 3) zae)) za8)))) zax) (zai (zao (zas C (zas C (zay C (zab 1) za8 (za2 (zab 3))) (za0 (zaa (zab 4) zac))) (zay C (zab 1) (za2 (zab 5)) za8)))))))),λds Qr hn q=>?_⟩
 obtain⟨xs,os,rfl,f1,f2,hne,ho,hx,q⟩:=q
 have sz:=sizeLine_eq
 have l0:=Jw.mpr hne
 (repeat infer_instance)
 refine dr (by omega) (by omega) λa ha=>?_
 (repeat infer_instance)
 refine dr (by omega) (by omega) λk hk=>?_
 have hk:k<os.length:=by omega
 (repeat first|refine⟨_,zfj (Ql hk),?_⟩|refine⟨zfj (Ql hk),?_⟩|infer_instance)
 refine⟨zis f2 (Ql hk),?_⟩
 (repeat infer_instance)
 refine dr (by decide) (by decide) λb hb=>?_
 (repeat infer_instance)
 refine dr (by decide) (by decide) λc hc=>?_
 (repeat infer_instance)
 have m1:∀ (i:Nat) (z:PyData),z ∈ xs.take i->z ∈ xs:=λi z=>Zv
 have m2:∀ (i:Nat) (z:PyData),z ∈ xs.drop i->z ∈ xs:=λi z=>Zu
 refine iteB (λ_=>?_) λ_=>?_
 ·(repeat infer_instance)
  rw[zcc,show(a:Int)+1=((a+1:Nat):Int) from rfl,zcm]
  refine⟨_,zj0 (by rw[Qz,QD];omega),q _ (λz hz => .inl ?_) (by rw[Qg,Qz,QD];omega)⟩
  rcases Q6.mp hz with hz|hz
  ·exact m1 _ z hz
  ·exact m2 _ z hz
 ·(repeat infer_instance)
  rw[zcc]
  refine⟨_,zj0 (by rw[Qz];show _+1<=_;omega),?_⟩
  (repeat infer_instance)
  rw[show(a:Int)+(b:Int)=((a+b:Nat):Int) from rfl,zcm]
  have ll:(xs.take a ++ [os[k]]++xs.drop (a+b)).length<=xs.length+1:=by
   rw[Qg,Qg,Qz,QD]
   show _+1+_<=_
   omega
  refine⟨_,zj0 (by rw[Qg] at ll;exact Q4 ll (by omega)),q _ (λz hz=>?_) ll⟩
  rcases Q6.mp hz with hz|hz
  ·rcases Q6.mp hz with hz|hz
   ·exact .inl (m1 _ z hz)
   ·rw[Q3.mp hz]
    exact .inr (QL hk)
  ·exact .inl (m2 _ z hz)
end
theorem zms{ws:List (List Nat)}{k:Nat}(hk:k<=1)(h:∀ w ∈ ws,w.length<=4/\LowW w):(ws.take k).flatten.length<=4/\LowW (ws.take k).flatten:=by
 match k,hk with
 | 0,_=>exact⟨by simp,by intro c hc;simp at hc⟩
 | 1,_ =>
   cases ws with
   | nil=>exact⟨by simp,by intro c hc;simp at hc⟩
   | cons w ws =>
     have:=h w Qj
     rw[List.take_succ_cons,List.take_zero,QY,List.flatten_nil,Z8]
     exact this
section
variable {P : Program} {w : World} {K : Qa} {mg : Str → Option Value} {base : Heap} {k : Nat}
abbrev ze9:Stmt:=top 38
theorem znf:FnScope ["_law_state", "_law_standing_here", "_law_rooms", "_law_flags", "_law_words", "_law_form", "_law_letters", "_law_word_here", "_law_at"] ["_law_state", "_law_standing_here"] (zah ze9):=⟨rfl,rfl,rfl,by decide +kernel,rfl,by decide +kernel,by decide +kernel⟩
theorem zc9(B:Blt mg)(zag:zdx P w K mg base)(zdf:Def3 P w K mg base 2 "_law_bent" ["_law_state", "_law_some", "_law_others"] (spD K IsState 2 ztr))(T:Top3 K mg "_law_otherwise" ze9):Def3 P w K mg base 3 "_law_otherwise" ["_law_state", "_law_standing_here"] (spD K IsState 1 zoc):=by
 refine mk_D T znf (λ_ _ _ _ _ _ us hl=>len2 hl λ_ _=>rfl) rfl λf cdv A outer s H E O hφ C=>?_
 have hO:∀ j:Unit,IsState ((λ_:Unit=>O) j):=λ_=>hφ
 refine⟨_,(zad (zjp (h:=1000) C (zab 1) (za1 2 (za1 3 (za1 4 zcj)))) (zad (zan 5 (zak 0 C zag hO (zaa zae zac))) (zad (s_if (t_eq C (zab 5) zae) (zai (zao (za0 (zaa (zak 0 C zdf hO (zaa (zab 2) (zaa (za5 (zaa zw3 (zaa zae (zaa zae (zaa zae (zaa zae (zaa zae zac))))))) zac))) (zaa (zab 3) (zaa (zab 4) zac)))))) zax) (zad (s_if (t_eq C (zab 5) zae) (zai (zao (za0 (zaa (zab 2) (zaa (zak 0 C zdf hO (zaa (zab 3) (zaa (za5 (zaa zw3 (zaa zae (zaa zae (zaa zae zac))))) zac))) (zaa (zab 4) zac)))))) zax) (zad (zan 6 zam) (zad (zan 7 (zfh C zam (zaz 1 ["_law_k", "_law_state", "_law_standing_here", "_law_rooms", "_law_flags", "_law_words", "_law_form", "_law_letters", "_law_word_here", "_law_at"] C (λ_ => .of rfl (by kernel_rfl)) (i_r1 C B (zaa (zak 0 C zag hO (zaa zae zac)) zac)) (zau 0) za6 (zaj (C.comp _ _) (zab 7) (zak 1 (C.comp _ _) zag (upS hO) (zaa zae zac)))))) (zad (zan 8 (zak 0 C zag hO (zaa (zas C (za9 C B (zaa (zay C (zab 4) za8 (za2 zae)) zac)) zae) zac))) (zai (zao (za0 (zaa (zab 2) (zaa (zab 3) (zaa (zak 0 C zdf hO (zaa (zab 4) (zaa (za5 (zaa (zab 7) (zaa zam (zaa (zkq C zam (zay C (zab 4) za8 (za2 (zab 8)))) (zaa (zay C (zas C (zab 7) (zkq C zam (zay C (zab 4) za8 (za2 zae)))) za8 (za2 zae)) zac))))) zac))) zac))))))))))))),λds Qr hn q=>?_⟩
 obtain⟨n,z,rfl,hz,hn,q⟩:=q
 have sz:=sizeLine_eq
 have h1:=hz.rooms
 have h2:=hz.flags
 have h3:=hz.words
 (repeat infer_instance)
 refine⟨zkl z,?_⟩
 (repeat infer_instance)
 refine dr (by decide) (by decide) λk hk=>?_
 (repeat infer_instance)
 refine iteB (λa1=>?_) λa1=>?_
 ·(repeat infer_instance)
  refine⟨zal (λ_=>rfl) _,rfl,by simp,by show 6<=1000;decide,by rw[Qb];omega,λzs hzs hl=>?_⟩
  obtain⟨is,rfl⟩:=zne (f:=iD) λy hy=>by
   rcases hzs y hy with m|m
   ·obtain⟨i,_,e⟩:=Qu.mp m;exact⟨i,e.symm⟩
   ·simp only[Qt,QG,or_false] at m
    rcases m with e|e|e|e|e|e <;> exact⟨_,e⟩
  rw[Qb,Qb] at hl
  (repeat infer_instance)
  exact q ⟨is,z.flags,z.words⟩ ⟨by show is.length<=_;omega,by show z.flags.length<=_;omega,by show z.words.length<=_;omega,hz.sml⟩
 (repeat infer_instance)
 refine iteB (λa2=>?_) λa2=>?_
 ·(repeat infer_instance)
  refine⟨zal (λ_=>rfl) _,rfl,by simp,by show 4<=1000;decide,by rw[Qb];omega,λzs hzs hl=>?_⟩
  obtain⟨is,rfl⟩:=zne (f:=iD) λy hy=>by
   rcases hzs y hy with m|m
   ·obtain⟨i,_,e⟩:=Qu.mp m;exact⟨i,e.symm⟩
   ·simp only[Qt,QG,or_false] at m
    rcases m with e|e|e|e <;> exact⟨_,e⟩
  rw[Qb,Qb] at hl
  (repeat infer_instance)
  exact q ⟨z.rooms,is,z.words⟩ ⟨by show z.rooms.length<=_;omega,by show is.length<=_;omega,by show z.words.length<=_;omega,hz.sml⟩
 rw[ztd]
 (repeat infer_instance)
 refine dr (by decide) (by decide) λm hm=>?_
 refine⟨_,rfl,by omega,by omega,?_⟩
 refine znr (enc2:=λc => .str (tx [c])) (good:=λc=>c ∈ abc) (λc hc Pn Py hPn hPy=>?_) (by rw[QZ];omega) λws hs hlp=>?_
 ·exact iteT (B:=Pn) ⟨_,_,rfl,rfl,zda rfl (by decide) (by decide) λk hk=>⟨_,zdc (ztm (by omega)) (by decide),hPy _ (QL _)⟩⟩
 rw[QZ] at hlp
 obtain⟨ys,e1,e2,e3⟩:=zko ws (by omega)
 refine⟨ys,e1,e2,?_⟩
 rw[e3]
 have wl:ws.length<=2:=by omega
 have wlow:LowW ws:=λc hc=>zyv (hs c hc)
 have ct:∀ j:Nat,cutL (z.words.map wD) none (some (j:Int))=(z.words.take j).map wD:=λj=>by rw[zcc,qW]
 (repeat infer_instance)
 rw[show cutL (z.words.map wD) none (some 1)=(z.words.take 1).map wD from ct 1,Qb]
 have l1:(z.words.take 1).length<=1:=by rw[Qz];omega
 refine dr (by omega) (by omega) λp hp=>?_
 have hp:p<=1:=by omega
 obtain⟨u1,u2⟩:=zms hp hz.sml
 obtain⟨v1,v2⟩:=zms (Qo 1) hz.sml
 (repeat infer_instance)
 obtain⟨xs,x1,x2,x3⟩:=zil (z.words.take p) (by omega)
 refine⟨xs,(congrArg Yl (ct p)).trans x1,x2,?_⟩
 rw[show J0 (Qp "") xs=tx (z.words.take p).flatten from x3]
 (repeat infer_instance)
 obtain⟨xs,x1,x2,x3⟩:=zil (z.words.take 1) (by omega)
 refine⟨xs,(congrArg Yl (ct 1)).trans x1,x2,?_⟩
 rw[show J0 (Qp "") xs=tx (z.words.take 1).flatten from x3]
 refine⟨_,zen (by omega),?_⟩
 (repeat first|refine⟨_,zbv (v:=ws++(z.words.take 1).flatten) (lo:=none) (hi:=some 4) (by rw[Qg];omega),?_⟩|refine⟨zbv (v:=ws++(z.words.take 1).flatten) (lo:=none) (hi:=some 4) (by rw[Qg];omega),?_⟩|infer_instance)
 have c4:(cutL (ws++(z.words.take 1).flatten) none (some 4)).length<=4:=by rw[show cutL (ws++(z.words.take 1).flatten) none (some 4)=(ws++(z.words.take 1).flatten).take 4 from zcc _ 4,Qz];omega
 refine⟨zal zek _,rfl,by simp,by show 4<=1000;decide,by rw[Qb];omega,λzs hzs hl=>?_⟩
 obtain⟨vs,rfl,hv⟩:=zoq (f:=wD) (P:=λw=>w.length<=4/\LowW w) λy hy=>by
  rcases hzs y hy with m|m
  ·obtain⟨w,hw,e⟩:=Qu.mp m;exact⟨w,hz.sml w hw,e.symm⟩
  ·simp only[Qt,QG,or_false] at m
   rcases m with e|e|e|e
   ·exact⟨ws,⟨by omega,wlow⟩,e⟩
   ·exact⟨[],⟨by decide,by intro c hc;simp at hc⟩,by rw[e];show Z7 (Qp "")=_;rw[zd2]⟩
   ·exact⟨_,⟨u1,u2⟩,e⟩
   ·exact⟨_,⟨c4,λc hc=>(Q6.mp (zmp hc)).elim (wlow c) (v2 c)⟩,e⟩
 rw[Qb,Qb] at hl
 (repeat infer_instance)
 exact q ⟨z.rooms,z.flags,vs⟩ ⟨by show z.rooms.length<=_;omega,by show z.flags.length<=_;omega,by show vs.length<=_;omega,hv⟩
end
section
variable {P : Program} {w : World} {K : Qa} {mg : Str → Option Value} {base : Heap} {k : Nat}
abbrev zmb:Stmt:=top 39
theorem zxj:FnScope ["_law_standing_here", "_law_rooms", "_law_flags", "_law_words", "_law_found"] ["_law_standing_here"] (zah zmb):=⟨rfl,rfl,rfl,by decide +kernel,rfl,by decide +kernel,by decide +kernel⟩
theorem zb2(B:Blt mg)(T:Top3 K mg "_law_text" zmb):Def3 P w K mg base 1 "_law_text" ["_law_standing_here"] (spO K (λ_=>True) 1 zel):=by
 refine mk_O T zxj (λ_ _ _ _ _ _ us hl=>len1 hl λ_=>rfl) rfl λf cdv A outer s H E O hφ C=>⟨_,(zad (zjp (h:=1000) C (zab 0) (za1 1 (za1 2 (za1 3 zcj)))) (zad (zan 4 (zas C (zas C (zas C (zaz 1 ["_law_room", "_law_standing_here", "_law_rooms", "_law_flags", "_law_words", "_law_found"] C (λ_ => .of rfl (by kernel_rfl)) (zcg C (zab 1)) (zau 0) za6 (zgz (C.comp _ _) B (zaa (zab 0) zac))) (za5 (zaa zam zac))) (zaz 1 ["_law_flag", "_law_standing_here", "_law_rooms", "_law_flags", "_law_words", "_law_found"] C (λ_ => .of rfl (by kernel_rfl)) (zcg C (zab 2)) (zau 0) za6 (zgz (C.comp _ _) B (zaa (zab 0) zac)))) (za5 (zaa zam zac)))) (zai (zao (zfh C zam (zas C (zab 4) (zaz 1 ["_law_word_here", "_law_standing_here", "_law_rooms", "_law_flags", "_law_words", "_law_found"] C (λ_ => .of rfl (by kernel_rfl)) (zcg C (zab 3)) (zau 0) za6 (zaj (C.comp _ _) (za5 (zaa (zab 0) (zaa zam zac))) (zdk (C.comp _ _) B (zaa (e_eq (C.comp _ _) (zab 0) zam) zac)))))))))),λds Qr hn q=>?_⟩
 obtain⟨s,rfl,ok,q⟩:=q
 have sz:=sizeLine_eq
 have r1:=ok.rooms
 have r2:=ok.flags
 have r3:=ok.words
 (repeat infer_instance)
 refine⟨zbh s,?_⟩
 (repeat infer_instance)
 refine zba (α:=Nat) (enc:=nD) (e:=λn=>wD (numT n)) (λn hn P hP=>?_) (by omega) ?_
 ·(repeat infer_instance)
  exact⟨_,zh3 (ok.num.rooms n hn),hP _ rfl⟩
 (repeat infer_instance)
 refine⟨_,zb6 (by simp only[Qg,Qb,Qm,ZE];omega),?_⟩
 (repeat infer_instance)
 refine zba (α:=Nat) (enc:=nD) (e:=λn=>wD (numT n)) (λn hn P hP=>?_) (by omega) ?_
 ·(repeat infer_instance)
  exact⟨_,zh3 (ok.num.flags n hn),hP _ rfl⟩
 (repeat infer_instance)
 refine⟨_,zb6 (by simp only[Qg,Qb,Qm,ZE];omega),?_⟩
 (repeat infer_instance)
 refine⟨_,(zb6 (by simp only[Qg,Qb,Qm,ZE];omega)).trans (congrArg (λl=>some (R.n l)) (z0n s)),zal zek _,?_⟩
 (repeat infer_instance)
 refine zba (α:=List Nat) (enc:=wD) (e:=λw=>wD (shW w)) (λw hw P hP=>?_) (by omega) ?_
 ·(repeat first|refine⟨_,zb3 zd2 (ok.lng w hw) lng0,?_⟩|refine⟨zb3 zd2 (ok.lng w hw) lng0,?_⟩|infer_instance)
  rw[if_neg Qn]
  exact⟨_,zho,hP _ (z1v w)⟩
 have el:(wsR s).map wD++s.words.map (λw=>wD (shW w))=tsD (wsS s):=by
  rw[<- zz5]
  simp only[QR,QB]
  rfl
 have lr:(wsR s).length<=100:=by unfold wsR;simp only[Qg,Qb,Qm,ZE];omega
 refine⟨_,(zb6 (by rw[Qb,Qb];omega)).trans (congrArg (λl=>some (R.n l)) el),?_⟩
 obtain⟨ys,y1,y2,y3⟩:=zj6 (c:=32) (ws:=wsS s) (z0c ok)
 rw[zez]
 refine⟨ys,y1,y2,?_⟩
 rw[y3]
 exact q
end
section
variable {P : Program} {w : World} {K : Qa} {mg : Str → Option Value} {base : Heap} {k : Nat}
abbrev zmf:Stmt:=top 40
theorem zxg:FnScope ["_law_house_here", "_law_text_here", "_law_words", "_law_many", "_law_rooms", "_law_flags", "_law_found"] ["_law_house_here", "_law_text_here"] (zah zmf):=⟨rfl,rfl,rfl,by decide +kernel,rfl,by decide +kernel,by decide +kernel⟩
theorem zdl(B:Blt mg)(zbj:Def3 P w K mg base 1 "_law_is_standing" ["_law_house_here", "_law_some"] (spO K (λ_=>True) 2 zhy))(zb2:Def3 P w K mg base 1 "_law_text" ["_law_standing_here"] (spO K (λ_=>True) 1 zel))(T:Top3 K mg "_law_read" zmf):Def3 P w K mg base 2 "_law_read" ["_law_house_here", "_law_text_here"] (spO K (λ_=>True) 2 zmt):=by
 refine mk_O T zxg (λ_ _ _ _ _ _ us hl=>len2 hl λ_ _=>rfl) rfl λf cdv A outer s H E O hφ C=>⟨_,(zad (zan 2 (zj2 C (zab 1) zam)) (zad (zan 3 (za9 C B (zaa (zaj C (zab 0) zae) zac))) (zad (s_if (t_ne C (za9 C B (zaa (zab 2) zac)) (zas C (zas C (zas C (zab 3) (zaj C (zab 0) zae)) (zaj C (zab 0) zae)) zae)) (zai (zao zcr)) zax) (zad (zwa 2 (zja 4 (zbb C B (zaa (zaz 1 ["_law_word_here", "_law_house_here", "_law_text_here", "_law_words", "_law_many", "_law_rooms", "_law_flags", "_law_found"] C (λ_ => .of rfl (by kernel_rfl)) (zdi C (zay C (zab 2) za8 (za2 (zab 3)))) (zau 0) za6 (zaz 1 ["_law_k", "_law_word_here", "_law_house_here", "_law_text_here", "_law_words", "_law_many", "_law_rooms", "_law_flags", "_law_found"] (C.comp _ _) (λ_ => .of rfl (by kernel_rfl)) (i_r1 (C.comp _ _) B (zaa zae zac)) (zau 0) (zi6 (t_eq ((C.comp _ _).comp _ _) (zgz ((C.comp _ _).comp _ _) B (zaa (zab 0) zac)) (zab 1))) (zab 0))) zac)))) (zad (zja 5 (zbb C B (zaa (zaz 1 ["_law_word_here", "_law_house_here", "_law_text_here", "_law_words", "_law_many", "_law_rooms", "_law_flags", "_law_found"] C (λ_ => .of rfl (by kernel_rfl)) (zdi C (zay C (zab 2) (za2 (zas C (zab 3) zae)) (za2 (zas C (zas C (zab 3) zae) (zaj C (zab 0) zae))))) (zau 0) za6 (zaz 1 ["_law_k", "_law_word_here", "_law_house_here", "_law_text_here", "_law_words", "_law_many", "_law_rooms", "_law_flags", "_law_found"] (C.comp _ _) (λ_ => .of rfl (by kernel_rfl)) (i_r1 (C.comp _ _) B (zaa zae zac)) (zau 0) (zi6 (t_eq ((C.comp _ _).comp _ _) (zgz ((C.comp _ _).comp _ _) B (zaa (zab 0) zac)) (zab 1))) (zab 0))) zac))) (zad (s_if (t_w (w_or (t_in C (za5 zac) (zab 4)) (zcf (t_in C (za5 zac) (zab 5))))) (zai (zao zcr)) zax) (zad (zan 6 (za0 (zaa (zbb C B (zaa (zaz 1 ["_law_room", "_law_house_here", "_law_text_here", "_law_words", "_law_many", "_law_rooms", "_law_flags", "_law_found"] C (λ_ => .of rfl (by kernel_rfl)) (zcg C (zab 4)) (zau 0) za6 (zaj (C.comp _ _) (zab 0) zae)) zac)) (zaa (zbb C B (zaa (zaz 1 ["_law_flag", "_law_house_here", "_law_text_here", "_law_words", "_law_many", "_law_rooms", "_law_flags", "_law_found"] C (λ_ => .of rfl (by kernel_rfl)) (zcg C (zab 5)) (zau 0) za6 (zaj (C.comp _ _) (zab 0) zae)) zac)) (zaa (zbb C B (zaa (zaz 1 ["_law_word_here", "_law_house_here", "_law_text_here", "_law_words", "_law_many", "_law_rooms", "_law_flags", "_law_found"] C (λ_ => .of rfl (by kernel_rfl)) (zdi C (zay C (zab 2) (za2 (zas C (zas C (zab 3) zae) (zaj C (zab 0) zae))) za8)) (zau 0) za6 (zaj (C.comp _ _) (za5 (zaa (zab 0) (zaa zam zac))) (zdk (C.comp _ _) B (zaa (e_eq (C.comp _ _) (zab 0) zam) zac)))) zac)) zac))))) (zad (s_if (t_w (w_or (zc2 (zb8 (zav C zbj (λ_=>trivial) (zaa (zab 0) (zaa (zab 6) zac))))) (zcf (t_ne C (zav C zb2 (λ_=>trivial) (zaa (zab 6) zac)) (zab 1))))) (zai (zao zcr)) zax) (zai (zao (zab 6))))))))))),λds Qr hn q=>?_⟩
 obtain⟨h,t,rfl,hh,hm,hf,hl,h3,ht,t9,q⟩:=q
 have sz:=sizeLine_eq
 have hlt:=ht.len
 have cl:=zfw 32 t
 have cp:=zim 32 t
 have wl:=λw (hw:w ∈ cutW 32 t)=>zc3 ht hw
 (repeat infer_instance)
 refine⟨by rw[zb4];omega,?_⟩
 rw[zez,zgn]
 refine⟨zal zek _,?_⟩
 (repeat infer_instance)
 rw[Qb,Qb]
 have none_of:(∀ s,za7 h t=some s->False)->Qr (.o .none):=λhn=>by
  cases e:za7 h t with
  | none=>rw[e] at q;exact q
  | some s=>exact(hn s e).elim
 by_cases hL:(cutW 32 t).length=h.hands.length+h.flags+h.lines+2
 rotate_left
 ·rw[decide_eq_false (by omega)]
  exact none_of λs e=>hL (zey hh h3 e).1
 rw[decide_eq_true (by omega)]
 refine iteF ?_
 refine .inr ⟨_,rfl,zfs ⟨rfl,rfl,rfl,rfl,rfl,rfl,rfl,trivial⟩,?_⟩
 have inner:∀ (m:Nat),m<=3->∀ (w:List Nat) (ρ:DSt) (P:R->Prop),Lng w->ρ[0]? = some (some (.im (wD w)))->(∀ r:R,r.d=rdD m w->P r)->za3 1 (gN 0) (bD (opDE (fn2 (eqF false)) (zcb (fn1 strF) (ze6 (vD 0) aNil)) (vD 1))) (vD 0) ρ (λes=>P (.n es)) (zdv 0 m) []:=by
  intro m hm3 w ρ P hw hρ hP
  rw[z2w]
  obtain⟨ρ',rfl⟩:∃ ρ',ρ=some (.im (wD w))::ρ':=by
   cases ρ with
   | nil=>simp at hρ
   | cons a ρ'=>simp at hρ;exact⟨ρ',by rw[hρ]⟩
  refine zic (α:=Nat) (as:=Jb m) (enc:=nD) (p:=λk=>decide (numT k=w)) (e:=nD) (λk hk Pn Py hPn hPy=>?_) (by rw[QZ];omega) (hP _ rfl)
  have hk:=Jx.mp hk
  refine⟨_,_,rfl,rfl,_,zh3 (by omega),_,_,rfl,rfl,_,zlt ⟨Q4 (zbz k (by omega)).2.1 (by decide),λc hc=>by have:=(zbz k (by omega)).2.2 c hc;omega⟩ hw,_,rfl,?_⟩
  rw[if_neg Qn]
  refine iteB (λb=>?_) λb=>?_
  ·exact⟨_,_,rfl,rfl,hPy b _ rfl⟩
  ·exact hPn b
 (repeat infer_instance)
 rw[zdr,zcc]
 refine zba (α:=List Nat) (enc:=λw => .str (tx w)) (e:=rdD 3) (λw hw P hP=>?_) (by rw[Qz];omega) ?_
 ·exact⟨_,rfl,by decide,by decide,inner 3 (by decide) w _ P (wl w (Zv hw)) rfl hP⟩
 (repeat infer_instance)
 refine⟨zfs ⟨rfl,rfl,rfl,rfl,rfl,rfl,rfl,trivial⟩,?_⟩
 (repeat infer_instance)
 rw[zdr,show(h.hands.length:Int)+1+(h.flags:Int)=((h.hands.length+1+h.flags:Nat):Int) from rfl,show(h.hands.length:Int)+1=((h.hands.length+1:Nat):Int) from rfl,zod,YS,Jz]
 refine zba (α:=List Nat) (enc:=λw => .str (tx w)) (e:=rdD 2) (λw hw P hP=>?_) (by rw[Qz];omega) ?_
 ·exact⟨_,rfl,by decide,by decide,inner 2 (by decide) w _ P (wl w (Zu (Zv hw))) rfl hP⟩
 (repeat first|refine⟨_,zlu 3 _,?_⟩|refine⟨zlu 3 _,?_⟩|infer_instance)
 refine iteB (λa1=>?_) λa1=>?_
 ·obtain⟨w,hw,e⟩:=of_decide_eq_true a1
  exact iteT (none_of λs es=>(zey hh h3 es).2.1 w hw e)
 (repeat first|refine⟨_,zlu 2 _,?_⟩|refine⟨zlu 2 _,?_⟩|infer_instance)
 refine iteB (λa2=>?_) λa2=>?_
 ·obtain⟨w,hw,e⟩:=of_decide_eq_true a2
  exact none_of λs es=>(zey hh h3 es).2.2.1 w hw e
 have g1:∀ w ∈ (cutW 32 t).take h.hands.length,rdK 3 w ≠ []:=λw hw e=>of_decide_eq_false a1 ⟨w,hw,e⟩
 have g2:∀ w ∈ ((cutW 32 t).drop (h.hands.length+1)).take h.flags,rdK 2 w ≠ []:=λw hw e=>of_decide_eq_false a2 ⟨w,hw,e⟩
 obtain⟨T,tot⟩:=zzp hm hf hl ht t9 hL g1 g2
 (repeat infer_instance)
 refine zba (α:=List Nat) (enc:=rdD 3) (e:=λw=>nD ((rdK 3 w).headD 0)) (λw hw P hP=>?_) (by rw[Qz];omega) ?_
 ·(repeat infer_instance)
  exact⟨_,zry (g1 w hw),hP _ rfl⟩
 (repeat infer_instance)
 refine zba (α:=List Nat) (enc:=rdD 2) (e:=λw=>nD ((rdK 2 w).headD 0)) (λw hw P hP=>?_) (by rw[Qz];omega) ?_
 ·(repeat infer_instance)
  exact⟨_,zry (g2 w hw),hP _ rfl⟩
 (repeat infer_instance)
 rw[zdr,show(h.hands.length:Int)+2+(h.flags:Int)=((h.hands.length+2+h.flags:Nat):Int) from rfl,zcm]
 refine zba (α:=List Nat) (enc:=λw => .str (tx w)) (e:=λw=>wD (unW w)) (λw hw P hP=>?_) (by rw[QD];omega) ?_
 ·(repeat first|refine⟨_,zb3 zgu (wl w (Zu hw)) (lng1 46),?_⟩|refine⟨zb3 zgu (wl w (Zu hw)) (lng1 46),?_⟩|infer_instance)
  rw[if_neg Qn]
  exact⟨_,zho,hP _ (z5a w)⟩
 (repeat infer_instance)
 refine⟨zwx (zal (λ_=>rfl) _) (zal (λ_=>rfl) _) (zal (λ_=>rfl) _),?_⟩
 have ef:=zzi h (cutW 32 t)
 have T1:=T.rooms
 have T2:=T.flags
 have T3:=T.words
 (repeat infer_instance)
 refine⟨h,upZ (zc1 h (cutW 32 t)),congrArg (λd => [zbs h,d]) (ef.trans (zep _)),hh,?_,?_,?_,T.lng,?_,?_⟩
 ·show(Ym _ _).length<=_
  rw[Qb];omega
 ·show(Ym _ _).length<=_
  rw[Qb];omega
 ·show(zc1 h (cutW 32 t)).words.length<=_
  omega
 ·show(zc1 h (cutW 32 t)).words.flatten.length<=_
  have:=zig (zc1 h (cutW 32 t)).words
  omega
 (repeat infer_instance)
 refine iteB (λa3=>?_) λa3=>?_
 ·refine iteT (none_of λs es=>?_)
  have e4:=(zey hh h3 es).2.2.2
  have b:=((zci hh).mp es).1
  rw[<- e4,zeb a3] at b
  cases b
 (repeat infer_instance)
 refine⟨zc1 h (cutW 32 t),congrArg (λd => [d]) ef,T,?_⟩
 (repeat first|refine⟨_,zlt (zhf T (by omega)).1 ht,?_⟩|refine⟨zlt (zhf T (by omega)).1 ht,?_⟩|infer_instance)
 rw[if_pos rfl]
 refine iteB (λa4=>?_) λa4=>?_
 ·refine none_of λs es=>?_
  have e4:=(zey hh h3 es).2.2.2
  have b:=((zci hh).mp es).2
  rw[<- e4] at b
  exact of_decide_eq_false (zeb a4) b
 have es:=(zci hh).mpr ⟨zdg a3,of_decide_eq_true (zdg a4)⟩
 rw[es] at q
 have q:Qr (.o (zaq (zc1 h (cutW 32 t)))):=q
 rw[<- ef] at q
 (repeat infer_instance)
 exact q
end
section
variable {P : Program} {w : World} {K : Qa} {mg : Str → Option Value} {base : Heap} {k : Nat}
abbrev zie:Stmt:=top 41
theorem zra:FnScope ["_law_state", "_law_text_here", "_law_words", "_law_form", "_law_at", "_law_some", "_law_more", "_law_signs", "_law_x"] ["_law_state", "_law_text_here"] (zah zie):=⟨rfl,rfl,rfl,by decide +kernel,rfl,by decide +kernel,by decide +kernel⟩
theorem zem(B:Blt mg)(zag:zdx P w K mg base)(T:Top3 K mg "_law_spoilt" zie):Def3 P w K mg base 2 "_law_spoilt" ["_law_state", "_law_text_here"] (spD K IsState 1 zl7):=by
 refine mk_D T zra (λ_ _ _ _ _ _ us hl=>len2 hl λ_ _=>rfl) rfl λf cdv A outer s H E O hφ C=>?_
 have hO:∀ j:Unit,IsState ((λ_:Unit=>O) j):=λ_=>hφ
 refine⟨_,(zad (zan 2 (zj2 C (zab 1) zam)) (zad (zan 3 (zak 0 C zag hO (zaa zae zac))) (zad (zan 4 (zak 0 C zag hO (zaa (za9 C B (zaa (zab 2) zac)) zac))) (zad (zwa 2 (zja 5 (za5 (zaa zam (zaa zam (zaa zam (zaa zam (zaa zam (zaa zam (zaa zam (zaa zam (zaa zam (zaa zam (zaa zam (zaa zam (zaa zam (zaa zam (zaa zam (zaa zam zac))))))))))))))))))) (zad (s_if (t_lt (zab 3) zae) (zad (zja 6 (zaj C (za5 (zaa (za5 zac) (zaa (zm0 C (za5 (zaa (zaj C (zab 2) (zab 4)) zac)) zae) (zaa (za5 (zaa (zaj C (zab 5) (zak 0 C zag hO (zaa zae zac))) zac)) zac)))) (zab 3))) (zai (zao (zfh C zam (zas C (zas C (zay C (zab 2) za8 (za2 (zab 4))) (zab 6)) (zay C (zab 2) (za2 (zas C (zab 4) zae)) za8)))))) zax) (zad (zan 4 (zak 0 C zag hO (zaa (zas C (za9 C B (zaa (zab 1) zac)) zae) zac))) (zad (zan 7 zam) (zad (zan 8 (zaj C (zab 7) (zak 0 C zag hO (zaa (za9 C B (zaa (zab 7) zac)) zac)))) (zai (zao (zas C (zas C (zay C (zab 1) za8 (za2 (zab 4))) (zaj C (za5 (zaa zam (zaa (zab 8) (zaa (zas C (zay C (zab 1) (za2 (zab 4)) (za2 (zas C (zab 4) zae))) (zab 8)) zac)))) (zwg (zab 3) zae))) (zay C (zab 1) (za2 (zas C (zab 4) zae)) za8)))))))))))),λds Qr hn q=>?_⟩
 obtain⟨t,rfl,ht,t4,q⟩:=q
 have sz:=sizeLine_eq
 have hl:=ht.len
 have cl:=zfw 32 t
 have wl:=λw (hw:w ∈ cutW 32 t)=>zc3 ht hw
 have cp:=zim 32 t
 (repeat infer_instance)
 refine⟨by rw[zb4];omega,?_⟩
 rw[zez,zgn]
 refine⟨zal zek _,?_⟩
 (repeat infer_instance)
 refine dr (by decide) (by decide) λk hk=>?_
 (repeat first|refine⟨_,zsz _,?_⟩|refine⟨zsz _,?_⟩|infer_instance)
 refine dr (by omega) (by omega) λa ha=>?_
 (repeat infer_instance)
 refine .inr ⟨_,rfl,zfs ⟨rfl,rfl,rfl,rfl,rfl,rfl,rfl,rfl,rfl,trivial⟩,?_⟩
 have ha:a<(cutW 32 t).length:=by omega
 (repeat infer_instance)
 refine iteB (λa1=>?_) λa1=>?_
 ·have k3:k<3:=by have:=of_decide_eq_true a1;omega
  refine⟨zfs ⟨rfl,rfl,rfl,rfl,rfl,rfl,rfl,rfl,rfl,trivial⟩,?_⟩
  (repeat first|refine⟨_,ztq ha,?_⟩|refine⟨ztq ha,?_⟩|infer_instance)
  refine⟨by decide,by decide,by show 1 * 2<=_;omega,?_⟩
  (repeat infer_instance)
  refine dr (by decide) (by decide) λm hm=>?_
  obtain⟨x,ex,xl,xc⟩:=z0q (ss := ["0", "1", "2", "3", "/", ".", "", "00", "01", "-1", "+1", "a", "1_0", "..", "//", "A"]) (k:=m) (m:=3) (by show m<16;omega) (by decide +kernel)
  refine⟨_,ex,?_⟩
  (repeat infer_instance)
  have wa:=wl _ (zt5 (z := []) ha)
  have hm3:∃ ms:List (List Nat),idxF (.list [.list [],.list [.str (tx ((cutW 32 t).getD a [])),.str (tx ((cutW 32 t).getD a []))],.list [.str (tx x)]]) (.int (k:Nat))=some (.o (.list (tsD ms)))/\(∀ w ∈ ms,Lng w)/\totW ms<=2 * (((cutW 32 t).getD a []).length+1)+4/\ms.length<=2:=by
   have k012:k=0\/k=1\/k=2:=by omega
   rcases k012 with rfl|rfl|rfl
   ·exact⟨[],rfl,by simp,by simp[totW],by decide⟩
   ·refine⟨[(cutW 32 t).getD a [],(cutW 32 t).getD a []],rfl,λw hw=>?_,?_,Qo _⟩
    ·simp only[Qt,QG,or_false,or_self] at hw
     rw[hw];exact wa
    ·rw[za4,zkf];omega
   ·refine⟨[x],rfl,λw hw=>?_,?_,?_⟩
    ·rw[Q3.mp hw];exact⟨by omega,xc⟩
    ·rw[zkf];omega
    ·exact ZZ 1
  obtain⟨ms,m1,m2,m3,m4⟩:=hm3
  refine⟨_,m1,?_⟩
  have tt:=zjx 32 t
  have t1:=znw ha
  have lt:∀ (i:Nat) (w:List Nat),w ∈ (cutW 32 t).take i->Lng w:=λi w hw=>wl w (Zv hw)
  have ld:∀ (i:Nat) (w:List Nat),w ∈ (cutW 32 t).drop i->Lng w:=λi w hw=>wl w (Zu hw)
  (repeat infer_instance)
  rw[zdr,zcc]
  refine⟨_,zb6 (by rw[Qb,Qb,Qz];omega),?_⟩
  (repeat infer_instance)
  rw[zdr,show(a:Int)+1=((a+1:Nat):Int) from rfl,zcm]
  have el:((cutW 32 t).take a).map (λw=>Z7 (tx w))++tsD ms++((cutW 32 t).drop (a+1)).map (λw=>Z7 (tx w))=tsD ((cutW 32 t).take a++ms++(cutW 32 t).drop (a+1)):=by
   rw[<- QR,<- QR]
  refine⟨_,(zb6 (by rw[Qg,Qb,Qb,Qb,Qz,QD];omega)).trans (congrArg (λl=>some (R.n l)) el),?_⟩
  have tot:totW ((cutW 32 t).take a++ms++(cutW 32 t).drop (a+1))<=900:=by
   rw[zcu,zcu]
   omega
  obtain⟨ys,y1,y2,y3⟩:=zj6 (c:=32) (ws:=(cutW 32 t).take a++ms++(cutW 32 t).drop (a+1)) (by omega)
  refine⟨ys,y1,y2,?_⟩
  rw[y3]
  refine q _ (zno (by decide) (by omega) λw hw=>?_) (Q4 (zih _) tot)
  rcases Q6.mp hw with hw|hw
  ·rcases Q6.mp hw with hw|hw
   ·exact(lt a w hw).sgn
   ·exact(m2 w hw).sgn
  ·exact(ld _ w hw).sgn
 (repeat first|refine⟨_,zcx (w:=t) (by omega),?_⟩|refine⟨zcx (w:=t) (by omega),?_⟩|infer_instance)
 refine dr (by omega) (by omega) λp hp=>?_
 have k345:k=3\/k=4\/k=5:=by have:=of_decide_eq_false a1;omega
 obtain⟨sg,eg,lg,cg⟩:∃ sg:List Nat,Qp " 012/./.\nabcdefghijklmnopqrstuvwxyzA_+-'" = tx sg/\sg.length=40/\∀ c ∈ sg,c<128:=⟨cds _,zqx _,by decide +kernel,zl4 (by decide +kernel)⟩
 (repeat infer_instance)
 rw[eg,zb4,lg]
 refine dr (by decide) (by decide) λm hm=>?_
 have hm:m<sg.length:=by omega
 have la:(cutL t none (some (p:Int))).length<=t.length:=zfk _ _ _
 have lb:(cutL t (some (p:Int)) (some ((p:Int)+1))).length<=t.length:=zfk _ _ _
 have lc:(cutL t (some ((p:Int)+1)) none).length<=t.length:=zfk _ _ _
 have c1:∀ {lo hi:Option Int} {c:Nat},c ∈ cutL t lo hi->c<128:=λhc=>ht.sgn _ (zmp hc)
 have cx:sg[m]<128:=cg _ (QL hm)
 (repeat first|refine⟨_,zdc hm (by omega),?_⟩|refine⟨zdc hm (by omega),?_⟩|refine⟨_,zbv (v:=t) (lo:=none) (hi:=some (p:Int)) (by omega),?_⟩|refine⟨zbv (v:=t) (lo:=none) (hi:=some (p:Int)) (by omega),?_⟩|refine⟨_,zbv (v:=t) (lo:=some (p:Int)) (hi:=some ((p:Int)+1)) (by omega),?_⟩|refine⟨zbv (v:=t) (lo:=some (p:Int)) (hi:=some ((p:Int)+1)) (by omega),?_⟩|infer_instance)
 refine⟨_,zen (by show _+1<=_;omega),?_⟩
 (repeat infer_instance)
 have mid:∃ v:List Nat,idxF (.list [.str (Qp ""),.str (tx [sg[m]]),.str (tx (cutL t (some (p:Int)) (some ((p:Int)+1)) ++ [sg[m]]))]) (.int ((k:Int) - 3))=some (.o (.str (tx v)))/\v.length<=t.length+1/\∀ c ∈ v,c<128:=by
  rcases k345 with rfl|rfl|rfl
  ·exact⟨[],by rw[zd2];rfl,by simp,by simp⟩
  ·exact⟨[sg[m]],rfl,by show 1<=_;omega,λc hc=>by rw[Q3.mp hc];exact cx⟩
  ·refine⟨_,rfl,by rw[Qg];show _+1<=_;omega,λc hc=>?_⟩
   rcases Q6.mp hc with hc|hc
   ·exact c1 hc
   ·rw[Q3.mp hc];exact cx
 obtain⟨v,v1,v2,v3⟩:=mid
 refine⟨_,v1,_,zen (by omega),?_⟩
 (repeat first|refine⟨_,zbv (v:=t) (lo:=some ((p:Int)+1)) (hi:=none) (by omega),?_⟩|refine⟨zbv (v:=t) (lo:=some ((p:Int)+1)) (hi:=none) (by omega),?_⟩|infer_instance)
 have cp1:(cutL t none (some (p:Int))).length+(cutL t (some ((p:Int)+1)) none).length<=t.length:=by
  rw[show(p:Int)+1=((p+1:Nat):Int) from rfl,zcc,zcm,Qz,QD]
  omega
 refine⟨_,zen (by rw[Qg];omega),q _ ⟨by rw[Qg,Qg];omega,λc hc=>?_⟩ (by rw[Qg,Qg];omega)⟩
 rcases Q6.mp hc with hc|hc
 ·rcases Q6.mp hc with hc|hc
  ·exact c1 hc
  ·exact v3 c hc
 ·exact c1 hc
end
section
variable {P : Program} {w : World} {K : Qa} {mg : Str → Option Value} {base : Heap} {k : Nat}
abbrev znp:Stmt:=top 42
theorem zyo:FnScope ["_law_house_here", "_law_text_here", "_law_found", "_law_caught", "e", "_law_good"] ["_law_house_here", "_law_text_here"] (zah znp):=⟨rfl,rfl,rfl,by decide +kernel,rfl,by decide +kernel,by decide +kernel⟩
theorem zbw(B:Blt mg){ea:EA}(EC:ErrC K mg ea)(rNoText:zkc K ea)(zdh:Def3x P w K mg base 4 "read_standing" ["house", "text"] (spX K mg (λ_=>True) 2 zou))(T:Top3 K mg "_law_told" znp):Def3 P w K mg base 5 "_law_told" ["_law_house_here", "_law_text_here"] (spO K (λ_=>True) 2 zm9):=by
 refine mk_O T zyo (λ_ _ _ _ _ _ us hl=>len2 hl λ_ _=>rfl) rfl λf cdv A outer s H E O hφ C=>⟨_,(zad (zan 2 zcr) (zad (zan 3 zcr) (zad (z5d 4 C EC.le EC.cc (z2y 2 (zyn C zdh (λ_=>trivial) (zaa (zab 0) (zaa (zab 1) zac)))) (zai (z3w 3 4))) (zad (s_if (z3s 3) (zai (zao (za0 (zaa zam (zaa (zab 2) zac))))) zax) (zad (s_if (t_w (w_or (zb8 (z3o 3 C B (zdu C EC.ng (zdu C EC.nh (zdu C EC.np (zdu C EC.nr (zdu C EC.ns (zdu C EC.tm zzb)))))))) (zcf (zc2 (zb8 (z0v (cv := .type "ValueError") 3 C B EC.vb)))))) (zai (zao (za0 (zaa zam zac)))) zax) (zad (zan 5 (zea (z2u 3 C B EC.nt) (zea (zw1 (zd9 (T := "bool") C B (ztw 3 C) B.bool)) (zf4 (e_eq C (ztw 3 C) zae))))) (zai (zao (zaj C (za5 (zaa (za0 (zaa zam zac)) (zaa (za0 (zaa zam zac)) zac))) (zdk C B (zaa (zab 5) zac))))))))))),λds Qr hn q=>?_⟩
 obtain⟨h,t,rfl,hh,ht,t9,q⟩:=q
 have sz:=sizeLine_eq
 have t2:2<=sizeLine:=by omega
 have t1:1<=sizeLine:=by omega
 (repeat infer_instance)
 refine⟨hh,ht,t9,?_⟩
 cases hd:za7 h t with
 | some s =>
   rw[hd] at q
   refine⟨zbh s,?_⟩
   (repeat infer_instance)
   exact q
 | none =>
   rw[hd] at q
   refine⟨"NoText", ["at"],[.int 0],ea.nt,rfl,EC.nt,rNoText.lost,rfl,?_⟩
   (repeat infer_instance)
   refine .inr ⟨_,_,_,rfl,_,rfl,iteF ?_⟩
   refine⟨_,_,_,false,rfl,rNoText.get,(by show 6<=sizeLine;omega),zor rNoText.oth,_,rfl,iteF ?_⟩
   refine⟨_,_,_,true,rfl,rNoText.get,rNoText.val,_,rfl,iteF ?_⟩
   refine⟨_,_,_,true,rfl,rNoText.get,zuf,?_⟩
   (repeat infer_instance)
   refine⟨_,_,_,.int 0,rfl,rNoText.get,rNoText.nof,rfl,rfl,?_⟩
   (repeat infer_instance)
   refine⟨_,_,_,.int 0,rfl,rNoText.get,rNoText.nof,rfl,rfl,?_⟩
   (repeat infer_instance)
   exact q
end
section
variable {P : Program} {w : World} {K : Qa} {mg : Str → Option Value} {base : Heap} {k : Nat}
abbrev zer:Stmt:=top 43
theorem zli:FnScope ["_law_state", "_law_house_here", "_law_standing_here", "_law_text_here", "_law_good", "_law_k", "_law_other", "_law_due"] ["_law_state", "_law_house_here", "_law_standing_here"] (zah zer):=⟨rfl,rfl,rfl,by decide +kernel,rfl,by decide +kernel,by decide +kernel⟩
theorem zcv(B:Blt mg)(zdd:Def3 P w K mg base 2 "show_standing" ["standing"] (spO K (λ_=>True) 1 zel))(zbx:Def3 P w K mg base 9 "_law_alike" ["_law_found", "_law_due"] (spO K (λ_=>True) 2 (zln 8)))(zb2:Def3 P w K mg base 1 "_law_text" ["_law_standing_here"] (spO K (λ_=>True) 1 zel))(zdl:Def3 P w K mg base 2 "_law_read" ["_law_house_here", "_law_text_here"] (spO K (λ_=>True) 2 zmt))(zem:Def3 P w K mg base 2 "_law_spoilt" ["_law_state", "_law_text_here"] (spD K IsState 1 zl7))(zbw:Def3 P w K mg base 5 "_law_told" ["_law_house_here", "_law_text_here"] (spO K (λ_=>True) 2 zm9))(T:Top3 K mg "_law_texts_right" zer):Def3 P w K mg base 10 "_law_texts_right" ["_law_state", "_law_house_here", "_law_standing_here"] (spD K IsState 2 zov):=by
 refine mk_D T zli (λ_ _ _ _ _ _ us hl=>len3 hl λ_ _ _=>rfl) rfl λf cdv A outer s H E O hφ C=>?_
 have hO:∀ j:Unit,IsState ((λ_:Unit=>O) j):=λ_=>hφ
 refine⟨_,(zad (zan 3 (zav C zb2 (λ_=>trivial) (zaa (zab 2) zac))) (zad (zan 4 (za0 (zaa zam (zaa (zab 2) zac)))) (zad (s_if (t_w (w_or (zc2 (zb8 (zav C zbx (λ_=>trivial) (zaa (zav C zbw (λ_=>trivial) (zaa (zab 1) (zaa (zab 3) zac))) (zaa (zab 4) zac))))) (zcf (zc2 (zb8 (zav C zbx (λ_=>trivial) (zaa (zav C zdd (λ_=>trivial) (zaa (zab 2) zac)) (zaa (zab 3) zac)))))))) (zai (zao e_bl)) zax) (zad (zcz C (zcy (i_r1 C B (zaa zae zac))) (zau (h:=1000) 5) (zad (zan 6 (zak 0 C zem hO (zaa (zab 3) zac))) (zad (zan 7 (zav C zdl (λ_=>trivial) (zaa (zab 1) (zaa (zab 6) zac)))) (zad (s_if (t_w (zlm (t_is (zab 7) zcr) (zjn (t_ne C (zav C zbw (λ_=>trivial) (zaa (zab 1) (zaa (zab 6) zac))) (za0 (zaa zam zac)))))) (zai (zao e_bl)) zax) (zai (s_if (t_w (zlm (zyc (zab 7) zcr) (zjn (zc2 (zb8 (zav C zbx (λ_=>trivial) (zaa (zav C zbw (λ_=>trivial) (zaa (zab 1) (zaa (zab 6) zac))) (zaa (za0 (zaa zam (zaa (zab 7) zac))) zac)))))))) (zai (zao e_bl)) zax)))))) (zai (zao (zea (e_eq C (zav C zbw (λ_=>trivial) (zaa (zab 1) (zaa zam zac))) (za0 (zaa zam zac))) (zf4 (zav C zbx (λ_=>trivial) (zaa (zav C zbw (λ_=>trivial) (zaa (zab 1) (zaa (zab 3) zac))) (zaa (zab 4) zac))))))))))),λds Qr hn q=>?_⟩
 obtain⟨h,s,rfl,hh,hs,q⟩:=q
 have sz:=sizeLine_eq
 have hk:=hh.ok
 obtain⟨T,tot,_⟩:=zev hh hs (by decide)
 obtain⟨L1,L2⟩:=zhf T (by omega)
 have rd:za7 h (stT s)=some s:=(zci hk).mpr ⟨hs.is,rfl⟩
 have tt:Al 8 (.tuple [.str (Qp "told"),zaq s]):=zo2 T
 have sT:∀ t s',Lng t->t.length<=900->za7 h t=some s'->StT s':=λt s' ht h9 e=>by
  obtain⟨b,e'⟩:=(zci hk).mp e
  have I:=zcq hk b
  have a1:=hh.hands
  have a2:=hh.flags
  have a3:=hh.lines
  refine⟨by rw[I.rooms];omega,by rw[I.flags];omega,by rw[I.words];omega,λw hw=>ztb (zc3 ht (c:=32) ?_),I.num⟩
  rw[zii hk e]
  unfold wsS
  exact Qw _ (Qe _ (Qw _ (Qe _ (Qu.mpr ⟨w,hw,rfl⟩))))
 (repeat infer_instance)
 refine⟨T,rfl,?_⟩
 (repeat infer_instance)
 refine⟨by show(true && (flat (zaq s) && true))=true;rw[show flat (zaq s)=true from zbh s];rfl,?_⟩
 (repeat infer_instance)
 refine⟨hk,L1,by omega,?_⟩
 rw[rd]
 (repeat infer_instance)
 refine⟨tt,?_⟩
 (repeat infer_instance)
 refine⟨T,?_⟩
 (repeat infer_instance)
 refine⟨L1.ok,?_⟩
 (repeat infer_instance)
 refine⟨by decide,by decide,rfl,?_⟩
 refine zbk (λj ρ=>∃ (o5 o6 o7:Option DV),ρ = [some .ob,some (.im (zbs h)),some (.im (zaq s)),some (.im (.str (tx (stT s)))),some (.im (.tuple [.str (Qp "told"),zaq s])),o5,o6,o7]) ⟨none,none,none,rfl⟩ (λρ zz=>?_) λj d ρ N hd hN zz=>?_
 ·obtain⟨o5,o6,o7,e⟩:=zz
  subst e
  rw[zd2]
  (repeat infer_instance)
  refine⟨hk,lng0,by decide,?_⟩
  rw[zu6 hk]
  (repeat first|refine⟨_,zft (o:=none) (by simp),?_⟩|refine⟨zft (o:=none) (by simp),?_⟩|infer_instance)
  refine⟨hk,L1,by omega,?_⟩
  rw[rd]
  (repeat infer_instance)
  exact⟨tt,q⟩
 ·obtain⟨o5,o6,o7,e⟩:=zz
  subst e
  obtain⟨hj,rfl⟩:=zck hd
  refine⟨rfl,?_⟩
  (repeat infer_instance)
  refine⟨L1,by omega,λt' lt l9=>⟨rfl,?_⟩⟩
  (repeat infer_instance)
  refine⟨hk,hh.hands,hh.flags,Q4 hh.lines (by decide),hh.n3,lt,l9,?_⟩
  cases er:za7 h t' with
  | none =>
    (repeat infer_instance)
    refine⟨hk,lt,l9,?_⟩
    rw[er]
    (repeat first|refine⟨_,zft (o:=none) (by simp),?_⟩|refine⟨zft (o:=none) (by simp),?_⟩|infer_instance)
    exact hN _ ⟨_,_,_,rfl⟩
  | some s' =>
    refine⟨zbh s',?_⟩
    (repeat infer_instance)
    refine⟨hk,lt,l9,?_⟩
    rw[er]
    (repeat infer_instance)
    refine⟨zo2 (sT t' s' lt l9 er),?_⟩
    (repeat infer_instance)
    exact hN _ ⟨_,_,_,rfl⟩
end
section
variable {P : Program} {w : World} {K : Qa} {mg : Str → Option Value} {base : Heap} {k : Nat}
abbrev sLaw:Stmt:=top 44
theorem z4k:FnScope ["_law_script", "_law_state", "_law_house_here", "_law_one", "_law_other", "_law_most", "_law_long", "_law_first", "_law_second", "_law_found", "_law_k", "_law_some", "_law_turn", "_law_small", "_law_due"] ["_law_script"] (zah sLaw):=⟨rfl,rfl,rfl,by decide +kernel,rfl,by decide +kernel,by decide +kernel⟩
theorem z0a(B:Blt mg)(zbl:Def3 P w K mg base 3 "is_standing" ["house", "standing"] (spO K (λ_=>True) 2 zhy))(zfy:Def3 P w K mg base 3 "is_above" ["one", "other"] (spO K (λ_=>True) 2 abvF))(zag:zdx P w K mg base)(zfc:Def3 P w K mg base 3 "_law_house" ["_law_state", "_law_most"] (spD K IsState 1 zn4))(zde:Def3 P w K mg base 2 "_law_word" ["_law_state", "_law_letters", "_law_most"] (spD K IsState 2 zmz))(zby:Def3 P w K mg base 3 "_law_standing" ["_law_state", "_law_house_here"] (spD K IsState 1 zj1))(zbj:Def3 P w K mg base 1 "_law_is_standing" ["_law_house_here", "_law_some"] (spO K (λ_=>True) 2 zhy))(zdp:Def3 P w K mg base 2 "_law_is_above" ["_law_one", "_law_other"] (spO K (λ_=>True) 2 abvF))(zf7:Def3 P w K mg base 4 "_law_near" ["_law_state", "_law_house_here", "_law_standing_here"] (spD K IsState 2 zsh))(zc9:Def3 P w K mg base 3 "_law_otherwise" ["_law_state", "_law_standing_here"] (spD K IsState 1 zoc))(zb2:Def3 P w K mg base 1 "_law_text" ["_law_standing_here"] (spO K (λ_=>True) 1 zel))(zdl:Def3 P w K mg base 2 "_law_read" ["_law_house_here", "_law_text_here"] (spO K (λ_=>True) 2 zmt))(zbw:Def3 P w K mg base 5 "_law_told" ["_law_house_here", "_law_text_here"] (spO K (λ_=>True) 2 zm9))(zcv:Def3 P w K mg base 10 "_law_texts_right" ["_law_state", "_law_house_here", "_law_standing_here"] (spD K IsState 2 zov)){f₁:Addr}{fd₁:FuncData}(Fu:Fun K "law" "law" sLaw f₁ fd₁):FnOk P w K mg base CX0 11 f₁ fd₁ ["_law_script"] (zi2 K):=by
 refine zz4 (k:=10) Fu z4k rfl (λf cdv A outer s H E C=>?_) (λf cdv A outer s H E C=>?_)
 ·exact zcn (i:=1) (of_decide_eq_true (by kernel_rfl)) rfl (by first|exact Or.inl rfl|exact Or.inr rfl) (zta (zbo (zk0 zg1 rfl B.list zox (zbo (zap (i:=0) rfl (by first|exact Or.inl rfl|exact Or.inr (Or.inl rfl)|exact Or.inr (Or.inr rfl))) zcl)) (zbo zat (zbo zat (zbo zat zcl)))))
 ·have hO:∀ j:Addr × Addr,IsState ((λj:Addr × Addr=>stOb j.1 j.2) j):=λj=>zzm _ _
  refine⟨_,(zad (zan 2 (zak 1 C zfc hO (zaa zae zac))) (zad (zan 3 (zak 1 C zby hO (zaa (zab 2) zac))) (zad (zan 4 (zak 1 C zby hO (zaa (zab 2) zac))) (zad (s_if (t_eq C (zak 1 C zag hO (zaa zae zac)) zae) (zai (zan 4 (zak 1 C zf7 hO (zaa (zab 2) (zaa (zab 3) zac))))) zax) (zad (zan 5 (zaj C (za5 (zaa zae (zaa zae (zaa zae (zaa zae (zaa zae (zaa zae zac))))))) (zak 1 C zag hO (zaa zae zac)))) (zad (zan 6 (za0 (zaa (zaj C (zab 3) zae) (zaa (zaj C (zab 3) zae) (zaa (zbb C B (zaa (zaz 1 ["_law_word_here", "_law_script", "_law_state", "_law_house_here", "_law_one", "_law_other", "_law_most", "_law_long", "_law_first", "_law_second", "_law_found", "_law_k", "_law_some", "_law_turn", "_law_small", "_law_due"] C (λ_ => .of rfl (by kernel_rfl)) (zcg C (zaj C (zab 3) zae)) (zau 0) za6 (zak 2 (C.comp _ _) zde (upS hO) (zaa (zaj (C.comp _ _) (zab 3) zae) (zaa (zab 6) zac)))) zac)) zac))))) (zad (zcz C (zcy (zdi C (za5 (zaa (za0 (zaa (zab 3) (zaa (zab 4) zac))) (zaa (za0 (zaa (zab 4) (zaa (zab 3) zac))) (zaa (za0 (zaa (zab 3) (zaa (zab 3) zac))) (zaa (za0 (zaa (zab 6) (zaa (zab 3) zac))) (zaa (za0 (zaa (zab 3) (zaa (zab 6) zac))) (zaa (za0 (zaa (zab 6) (zaa (zab 6) zac))) zac))))))))) (zgg (h:=1000) C (za1 7 (za1 8 zcj))) (zad (zan 9 (zav C zfy (λ_=>trivial) (zaa (zab 7) (zaa (zab 8) zac)))) (zai (s_if (t_w (w_or (zc2 (zb8 (zd9 (T := "bool") C B (zab 9) B.bool))) (zcf (t_ne C (zab 9) (zav C zdp (λ_=>trivial) (zaa (zab 7) (zaa (zab 8) zac))))))) (zai (zao e_bl)) zax)))) (zad (zcz C (zcy (i_r1 C B (zaa zae zac))) (zau (h:=1000) 10) (zad (zan 11 (zab 3)) (zad (zcz C (zcy (i_r1 C B (zaa (zas C zae (zak 1 C zag hO (zaa zae zac))) zac))) (zau (h:=1000) 12) (zai (zan 11 (zak 1 C zc9 hO (zaa (zab 11) zac))))) (zad (zan 9 (zav C zbl (λ_=>trivial) (zaa (zab 2) (zaa (zab 11) zac)))) (zai (s_if (t_w (w_or (zc2 (zb8 (zd9 (T := "bool") C B (zab 9) B.bool))) (zcf (t_ne C (zab 9) (zav C zbj (λ_=>trivial) (zaa (zab 2) (zaa (zab 11) zac))))))) (zai (zao e_bl)) zax)))))) (zad (zan 13 (za0 (zaa (zay C (zaj C (zab 2) zae) za8 (za2 zae)) (zaa (zaj C (zab 2) zae) (zaa (zaj C (zab 2) zae) (zaa (zbb C B (zaa (zaz 1 ["_law_hand", "_law_script", "_law_state", "_law_house_here", "_law_one", "_law_other", "_law_most", "_law_long", "_law_first", "_law_second", "_law_found", "_law_k", "_law_some", "_law_turn", "_law_small", "_law_due"] C (λ_ => .of rfl (by kernel_rfl)) (zcg C (zaj C (zab 2) zae)) (zau 0) za6 (za0 (zaa zae (zaa (za0 zac) zac)))) zac)) zac)))))) (zad (zcz C (zcy (zcg C (za0 (zaa (zab 3) (zaa (zab 6) zac))))) (zau (h:=1000) 11) (zad (zan 14 (zav C zdl (λ_=>trivial) (zaa (zab 13) (zaa (zav C zb2 (λ_=>trivial) (zaa (zab 11) zac)) zac)))) (zad (s_if (t_ne C (zav C zbl (λ_=>trivial) (zaa (zab 13) (zaa (zab 3) zac))) (zav C zbj (λ_=>trivial) (zaa (zab 13) (zaa (zab 3) zac)))) (zai (zao e_bl)) zax) (zai (s_if (t_ne C (zav C zbw (λ_=>trivial) (zaa (zab 13) (zaa (zav C zb2 (λ_=>trivial) (zaa (zab 11) zac)) zac))) (zaj C (za5 (zaa (za0 (zaa zam (zaa (zab 14) zac))) (zaa (za0 (zaa zam zac)) zac))) (zdk C B (zaa (e_is (zab 14) zcr) zac)))) (zai (zao e_bl)) zax))))) (zad (s_if (t_w (w_or (zre (zav C zbl (λ_=>trivial) (zaa (zab 2) (zaa (zab 3) zac))) e_bl) (zcf (zre (zav C zbl (λ_=>trivial) (zaa (zab 2) (zaa (zab 6) zac))) e_bl)))) (zai (zao e_bl)) zax) (zai (zao (zak 1 C zcv hO (zaa (zab 2) (zaa (zab 6) zac)))))))))))))))),?_⟩
  have sz:=sizeLine_eq
  have sz:=sizeLine_eq
  (repeat infer_instance)
  refine⟨by decide,λh g=>⟨zo4 h,?_⟩⟩
  have hk:=g.ok
  have hS:HoS h:=⟨hk,by have:=g.hands;omega,by have:=g.flags;omega,by have:=g.lines;omega,λx hx=>(g.rooms x hx).2.1⟩
  (repeat infer_instance)
  refine⟨hk,λs hs=>⟨zbh s,?_⟩⟩
  (repeat infer_instance)
  refine⟨hk,λs2 hs2=>⟨zbh s2,?_⟩⟩
  dsimp only
  refine zx3 (g:=ifS _ _ _) (λρ'=>∃ s2,StG h 4 s2/\ρ' = [none,some .ob,some (.im (zbs h)),some (.im (zaq s)),some (.im (zaq s2)),none,none,none,none,none,none,none,none,none,none]) (λN hN=>?_) λρ' hρ=>?_
  ·(repeat infer_instance)
   refine dr (by decide) (by decide) λk hk=>?_
   (repeat infer_instance)
   refine iteB (λ_=>?_) λ_=>?_
   ·(repeat infer_instance)
    exact⟨g.ok,hs,λs3 hs3=>⟨zbh s3,hN _ ⟨s3,hs3,rfl⟩⟩⟩
   ·exact hN _ ⟨s2,hs2,rfl⟩
  obtain⟨s2,hs2,e⟩:=hρ
  subst e
  (repeat infer_instance)
  refine dr (by decide) (by decide) λm hm=>?_
  obtain⟨mo,mo1,mo2⟩:∃ mo:Nat,idxF (.list [.int 6,.int 6,.int 6,.int 6,.int 6,.int 40]) (.int (m:Nat))=some (.o (.int (mo:Nat)))/\mo<=40:=by
   have m6:m=0\/m=1\/m=2\/m=3\/m=4\/m=5:=by omega
   rcases m6 with rfl|rfl|rfl|rfl|rfl|rfl
   ·exact⟨6,rfl,by decide⟩
   ·exact⟨6,rfl,by decide⟩
   ·exact⟨6,rfl,by decide⟩
   ·exact⟨6,rfl,by decide⟩
   ·exact⟨6,rfl,by decide⟩
   ·exact⟨40,rfl,by decide⟩
  refine⟨_,mo1,rfl,?_⟩
  (repeat infer_instance)
  have I:=zcq hk hs.is
  have hli:=hk.lines
  have iw:=I.words
  refine ze5 (as:=s.words) (enc:=wD) (enc2:=wD) (good:=λw=>(∀ c ∈ w,c ∈ h.ls)/\w.length<=40) (λx hx Py hPy=>?_) (by omega) λws hw hwl=>?_
  ·(repeat infer_instance)
   exact⟨hk.ne,hk.short,by omega,λw h1 h2=>hPy w ⟨h1,by omega⟩⟩
  have hL:StG h 40 ⟨s.rooms,s.flags,ws⟩:=by
   obtain⟨x1,x2,x3,x4⟩:=stB_iff.mp hs.is
   exact⟨stB_iff.mpr ⟨x1,x2,by show ws.length=_;omega,λw h'=>(hw w h').1⟩,λw h'=>(hw w h').2⟩
  (repeat infer_instance)
  refine⟨zwx (zal (λ_=>rfl) _) (zal (λ_=>rfl) _) (zal (λ_=>rfl) _),?_⟩
  obtain⟨w1,v1⟩:=zni hS hs (by decide)
  obtain⟨w2,v2⟩:=zni hS hs2 (by decide)
  obtain⟨w3,v3⟩:=zni hS hL (by decide)
  have t2:2<=sizeLine:=by omega
  refine⟨_,_,rfl,rfl,_,_,rfl,rfl,t2,_,_,rfl,rfl,_,_,rfl,rfl,t2,_,_,rfl,rfl,_,_,rfl,rfl,t2,_,_,rfl,rfl,_,_,rfl,rfl,t2,_,_,rfl,rfl,_,_,rfl,rfl,t2,_,_,rfl,rfl,_,_,rfl,rfl,t2,(by show 6<=sizeLine;omega),_,rfl,rfl,?_⟩
  refine zbk (λj ρ=>∃ (o7 o8 o9:Option DV),ρ = [none,some .ob,some (.im (zbs h)),some (.im (zaq s)),some (.im (zaq s2)),some (.im (.int (mo:Nat))),some (.im (zaq ⟨s.rooms,s.flags,ws⟩)),o7,o8,o9,none,none,none,none,none]) ⟨none,none,none,rfl⟩ (λρ ⟨o7,o8,o9,e⟩=>?_) λj d ρ N hd hN ⟨o7,o8,o9,e⟩=>?_
  rotate_left
  ·subst e
   obtain⟨a,b,ea,wa,wb,ha,hb⟩:∃ a b:Sta,d = .tuple [zaq a,zaq b]/\StW a/\StW b/\a.words.length=h.lines/\b.words.length=h.lines:=by
    have m:=Zn hd
    simp only[Qt,QG,or_false] at m
    rcases m with e|e|e|e|e|e
    ·exact⟨s,s2,e,w1,w2,v1,v2⟩
    ·exact⟨s2,s,e,w2,w1,v2,v1⟩
    ·exact⟨s,s,e,w1,w1,v1,v1⟩
    ·exact⟨⟨s.rooms,s.flags,ws⟩,s,e,w3,w1,v3,v1⟩
    ·exact⟨s,⟨s.rooms,s.flags,ws⟩,e,w1,w3,v1,v3⟩
    ·exact⟨⟨s.rooms,s.flags,ws⟩,⟨s.rooms,s.flags,ws⟩,e,w3,w3,v3,v3⟩
   subst ea
   refine⟨by show(flat (zaq a) && (flat (zaq b) && true))=true;rw[show flat (zaq a)=true from zbh a,show flat (zaq b)=true from zbh b];rfl,_,rfl,?_⟩
   (repeat infer_instance)
   refine⟨wa,wb,by omega,rfl,?_⟩
   (repeat infer_instance)
   refine⟨wa,wb,by omega,?_⟩
   (repeat first|refine⟨_,zdo,?_⟩|refine⟨zdo,?_⟩|infer_instance)
   rw[if_pos rfl,beq_self_eq_true]
   exact hN _ ⟨_,_,_,rfl⟩
  subst e
  (repeat infer_instance)
  refine⟨by decide,by decide,rfl,?_⟩
  refine zbk (λj ρ=>∃ (o7 o8 o9 o10 o11 o12:Option DV),ρ = [none,some .ob,some (.im (zbs h)),some (.im (zaq s)),some (.im (zaq s2)),some (.im (.int (mo:Nat))),some (.im (zaq ⟨s.rooms,s.flags,ws⟩)),o7,o8,o9,o10,o11,o12,none,none]) ⟨o7,o8,o9,none,none,none,rfl⟩ (λρ ⟨o7,o8,o9,o10,o11,o12,e⟩=>?_) λj d ρ N hd hN ⟨o7,o8,o9,o10,o11,o12,e⟩=>?_
  rotate_left
  ·subst e
   obtain⟨hj,rfl⟩:=zck hd
   refine⟨rfl,?_⟩
   (repeat infer_instance)
   refine⟨zbh s,?_⟩
   (repeat infer_instance)
   refine dr (by decide) (by decide) λk hk2=>?_
   refine⟨_,rfl,_,rfl,by omega,by omega,rfl,?_⟩
   refine zbk (λi ρ=>∃ (z:Stz) (o12:Option DV),ρ = [none,some .ob,some (.im (zbs h)),some (.im (zaq s)),some (.im (zaq s2)),some (.im (.int (mo:Nat))),some (.im (zaq ⟨s.rooms,s.flags,ws⟩)),o7,o8,o9,some (.im (.int (0+(j:Nat)))),some (.im (zgf z)),o12,none,none]/\SzW (10+i) z/\i<=80) ⟨upZ s,o12,by rw[<- zep];rfl,z0u hS hs,by decide⟩ (λρ zz=>?_) λi d ρ N' hd' hN' zz=>?_
   ·obtain⟨z,o12,e,f1,f2⟩:=zz
    subst e
    obtain⟨y1,y2,y3,y4,y5⟩:=z1t f1 (by omega)
    (repeat infer_instance)
    refine⟨hk,y1,y2,y3,y4,y5,rfl,?_⟩
    (repeat infer_instance)
    refine⟨hk,y1,y2,y3,y4,y5,?_⟩
    (repeat first|refine⟨_,zdo,?_⟩|refine⟨zdo,?_⟩|infer_instance)
    rw[if_pos rfl,beq_self_eq_true]
    exact hN _ ⟨_,_,_,_,_,_,rfl⟩
   ·obtain⟨z,o12,e,f1,f2⟩:=zz
    subst e
    obtain⟨hi,rfl⟩:=zck hd'
    refine⟨rfl,?_⟩
    (repeat infer_instance)
    refine⟨10+i,z,rfl,f1,by omega,λz' hz'=>⟨zkl z',hN' _ ⟨z',_,rfl,hz',by omega⟩⟩⟩
  subst e
  have hls:=hk.short
  have hmm:=hk.many
  have S1:slcF none (some 1) (.str (tx h.ls))=some (.o (.str (tx (h.ls.take 1)))):=(zbv (by omega)).trans (by rw[show cutL h.ls none (some 1)=h.ls.take 1 from zcc _ 1])
  (repeat first|refine⟨_,S1,?_⟩|refine⟨S1,?_⟩|infer_instance)
  refine zba (α:=Hnd) (as:=h.hands) (enc:=zb7) (e:=λ_=>zb7 ⟨1,[]⟩) (λx hx P hP=>?_) (by omega) ?_
  ·(repeat infer_instance)
   exact hP _ rfl
  rw[show h.hands.map (λ_=>zb7 ⟨1,[]⟩)=(h.hands.map λ_=>(⟨1,[]⟩:Hnd)).map zb7 by rw[QB];rfl]
  have sS:=z1s hS
  have sk:=sS.ok
  (repeat infer_instance)
  refine⟨zo4 (smH h),?_⟩
  refine⟨_,_,rfl,rfl,_,_,rfl,rfl,t2,_,rfl,rfl,?_⟩
  refine zbk (λj ρ=>∃ (o7 o8 o9 o10 o11 o12 o14:Option DV),ρ = [none,some .ob,some (.im (zbs h)),some (.im (zaq s)),some (.im (zaq s2)),some (.im (.int (mo:Nat))),some (.im (zaq ⟨s.rooms,s.flags,ws⟩)),o7,o8,o9,o10,o11,o12,some (.im (zbs (smH h))),o14]) ⟨o7,o8,o9,o10,o11,o12,none,rfl⟩ (λρ ⟨o7,o8,o9,o10,o11,o12,o14,e⟩=>?_) λj d ρ N hd hN ⟨o7,o8,o9,o10,o11,o12,o14,e⟩=>?_
  rotate_left
  ·subst e
   obtain⟨a,ea,Ta,ta⟩:∃ a:Sta,d=zaq a/\StT a/\totW a.words<=3 * 41:=by
    have m:=Zn hd
    simp only[Qt,QG,or_false] at m
    rcases m with e|e
    ·obtain⟨x,y,_⟩:=zev hS hs (by decide)
     exact⟨s,e,x,by omega⟩
    ·obtain⟨x,y,_⟩:=zev hS hL (by decide)
     exact⟨⟨s.rooms,s.flags,ws⟩,e,x,by omega⟩
   subst ea
   obtain⟨L1,L2⟩:=zhf Ta (by omega)
   obtain⟨T1,tt1,_⟩:=zev hS hs (by decide)
   obtain⟨y1,y2,y3,y4,y5⟩:=zm3 T1 (by omega)
   refine⟨zbh a,?_⟩
   (repeat infer_instance)
   refine⟨Ta,?_⟩
   (repeat infer_instance)
   refine⟨sk,sS.hands,sS.flags,Q4 sS.lines (by decide),sS.n3,L1,by omega,?_⟩
   have flo:flat (optS (za7 (smH h) (stT a)))=true:=by
    cases za7 (smH h) (stT a) with
    | none=>rfl
    | some x=>exact zbh x
   refine⟨flo,?_⟩
   (repeat infer_instance)
   refine⟨smH h,upZ s,by rw[<- zep];rfl,sk,y1,y2,y3,y4,y5,?_⟩
   (repeat infer_instance)
   refine⟨smH h,upZ s,by rw[<- zep];rfl,sk,y1,y2,y3,y4,y5,?_⟩
   (repeat first|refine⟨_,zdo,?_⟩|refine⟨zdo,?_⟩|infer_instance)
   rw[if_pos rfl,beq_self_eq_true]
   refine iteF ?_
   (repeat infer_instance)
   refine⟨Ta,?_⟩
   (repeat infer_instance)
   refine⟨sk,L1,by omega,?_⟩
   have tp:=zsa (za7 (smH h) (stT a))
   have ts:=ztl (o:=za7 (smH h) (stT a)) λx ex=>zu9 sS L1 ex
   cases er:za7 (smH h) (stT a) with
   | none =>
     rw[er] at ts
     (repeat first|refine⟨_,ts,?_⟩|refine⟨ts,?_⟩|infer_instance)
     exact hN _ ⟨_,_,_,_,_,_,_,rfl⟩
   | some x =>
     rw[er] at ts
     (repeat first|refine⟨_,ts,?_⟩|refine⟨ts,?_⟩|infer_instance)
     exact hN _ ⟨_,_,_,_,_,_,_,rfl⟩
  subst e
  obtain⟨T1,tt1,_⟩:=zev hS hs (by decide)
  obtain⟨T3,tt3,_⟩:=zev hS hL (by decide)
  obtain⟨y1,y2,y3,y4,y5⟩:=zm3 T1 (by omega)
  obtain⟨x1,x2,x3,x4,x5⟩:=zm3 T3 (by omega)
  (repeat infer_instance)
  refine⟨h,upZ s,by rw[<- zep];rfl,hk,y1,y2,y3,y4,y5,?_⟩
  rw[hs.is]
  (repeat infer_instance)
  refine⟨h,upZ ⟨s.rooms,s.flags,ws⟩,by rw[<- zep];rfl,hk,x1,x2,x3,x4,x5,?_⟩
  rw[hL.is]
  (repeat infer_instance)
  exact⟨hS,hL,rfl⟩
end
def DIn(K:Qa)(x:Str)(st:Stmt):Prop:=∃ (f:Addr) (od an:Option Addr) (sl:Array (Option Value)) (oc kV dc pm cd ct:Value),Q0 K mainGlobals x=some (some (.ref f))/\K.lookup f=some ⟨oc,od,.func (Zx x x (zce st) (zbn st) (zah st) .none kV dc pm an cd ct),sl⟩/\Jy K cd x=true/\ZB K (.ref f)=true
theorem din_mk{K:Qa}{x:Str}{st:Stmt}{f:Addr}{od an:Option Addr}{sl:Array (Option Value)}{oc kV dc pm cd ct:Value}(a:Q0 K mainGlobals x=some (some (.ref f)))(l:K.lookup f=some ⟨oc,od,.func (Zx x x (zce st) (zbn st) (zah st) .none kV dc pm an cd ct),sl⟩)(c:Jy K cd x=true)(k:ZB K (.ref f)=true):DIn K x st:=⟨f,od,an,sl,oc,kV,dc,pm,cd,ct,a,l,c,k⟩
theorem zaw{K:Qa}{x:Str}{st:Stmt}{h:Heap}{mg:Str->Option Value}(X:K.In h)(G:h.Ns mainGlobals mg)(D:DIn K x st):Top3 K mg x st:=by obtain⟨f,_,_,_,_,_,_,_,_,_,a,l,c,k⟩:=D;exact⟨f,_,zrc (st:=st) l c k,ZR X G a⟩
theorem all_mk{l:jv}{w:World}{K:Qa}{h:Heap}{mg:Str->Option Value}{fa:Addr}{ea:EA}(X:K.In h)(G:h.Ns mainGlobals mg)(hfa:mg "law" = some (.ref fa))
 (D1:DIn K "show_word" zgt)
 (D2:DIn K "places" zjy)
 (D3:DIn K "lies_under" zga)
 (D4:DIn K "is_there" zik)
 (D5:DIn K "all_there" zhc)
 (D6:DIn K "has_letters" zff)
 (D7:DIn K "is_standing" zfg)
 (D8:DIn K "is_above" zir)
 (D9:DIn K "is_number" zg0)
 (D10:DIn K "show_row" zid)
 (D11:DIn K "show_standing" zd3)
 (D12:DIn K "standing_of" zfd)
 (D13:DIn K "read_standing" zd4)
 (D14:DIn K "_law_draw" zp0)
 (D15:DIn K "_law_alphabet" zf0)
 (D16:DIn K "_law_deed" znn)
 (D17:DIn K "_law_house" zka)
 (D18:DIn K "_law_word" zma)
 (D19:DIn K "_law_standing" zgd)
 (D20:DIn K "_law_alike" zh1)
 (D21:DIn K "_law_lies_under" zfa)
 (D22:DIn K "_law_is_standing" zeu)
 (D23:DIn K "_law_is_above" zg4)
 (D24:DIn K "_law_near" zm5)
 (D25:DIn K "_law_bent" zmk)
 (D26:DIn K "_law_otherwise" ze9)
 (D27:DIn K "_law_text" zmb)
 (D28:DIn K "_law_read" zmf)
 (D29:DIn K "_law_spoilt" zie)
 (D30:DIn K "_law_told" znp)
 (D31:DIn K "_law_texts_right" zer)
 (D32:DIn K "law" sLaw)
 (z1:Q0 K mainGlobals "len" = some none)
 (z2:Q0 K mainGlobals "all" = some none)
 (z3:Q0 K mainGlobals "any" = some none)
 (z4:Q0 K mainGlobals "sorted" = some none)
 (z5:Q0 K mainGlobals "min" = some none)
 (z6:Q0 K mainGlobals "max" = some none)
 (z7:Q0 K mainGlobals "repr" = some none)
 (z8:Q0 K mainGlobals "int" = some none)
 (z9:Q0 K mainGlobals "list" = some none)
 (z10:Q0 K mainGlobals "tuple" = some none)
 (z11:Q0 K mainGlobals "range" = some none)
 (z12:Q0 K mainGlobals "set" = some none)
 (z13:Q0 K mainGlobals "isinstance" = some none)
 (z14:Q0 K mainGlobals "enumerate" = some none)
 (z15:Q0 K mainGlobals "zip" = some none)
 (z16:Q0 K mainGlobals "reversed" = some none)
 (z17:Q0 K mainGlobals "str" = some none)
 (z18:Q0 K mainGlobals "sum" = some none)
 (z19:Q0 K mainGlobals "dict" = some none)
 (z20:Q0 K mainGlobals "bool" = some none)
 (XE:ErrIn K ea) (rNoText:zkc K ea)
 : ∃ fd:FuncData,(∀ (s:Shared) (v:Value),BindsTo s fd ⟨[v],[]⟩ [("_law_script", v)])/\∀ base:Heap,K.In base->base.Ns mainGlobals mg->FnOk l.prog w K mg base CX0 11 fa fd ["_law_script"] (zi2 K):=by
 have T1:=zaw X G D1
 have T2:=zaw X G D2
 have T3:=zaw X G D3
 have T4:=zaw X G D4
 have T5:=zaw X G D5
 have T6:=zaw X G D6
 have T7:=zaw X G D7
 have T8:=zaw X G D8
 have T9:=zaw X G D9
 have T10:=zaw X G D10
 have T11:=zaw X G D11
 have T12:=zaw X G D12
 have T13:=zaw X G D13
 have T14:=zaw X G D14
 have T15:=zaw X G D15
 have T16:=zaw X G D16
 have T17:=zaw X G D17
 have T18:=zaw X G D18
 have T19:=zaw X G D19
 have T20:=zaw X G D20
 have T21:=zaw X G D21
 have T22:=zaw X G D22
 have T23:=zaw X G D23
 have T24:=zaw X G D24
 have T25:=zaw X G D25
 have T26:=zaw X G D26
 have T27:=zaw X G D27
 have T28:=zaw X G D28
 have T29:=zaw X G D29
 have T30:=zaw X G D30
 have T31:=zaw X G D31
 have T32:=zaw X G D32
 have B:Blt mg:=⟨Q7 X G z1,Q7 X G z2,Q7 X G z3,Q7 X G z4,Q7 X G z5,Q7 X G z6,Q7 X G z7,Q7 X G z8,Q7 X G z9,Q7 X G z10,Q7 X G z11,Q7 X G z12,Q7 X G z13,Q7 X G z14,Q7 X G z15,Q7 X G z16,Q7 X G z17,Q7 X G z18,Q7 X G z19,Q7 X G z20⟩
 have EC:=XE.errC X G
 obtain⟨f32,od32,an32,sl32,oc32,kV32,dc32,pm32,cd32,ct32,a32,l32,c32,k32⟩:=D32
 have e:=hfa.symm.trans (ZR X G a32)
 cases e
 refine⟨Zx "law" "law" (zce sLaw) (zbn sLaw) (zah sLaw) .none kV32 dc32 pm32 an32 cd32 ct32,λs v => .of_eq rfl,λbase _ _=>?_⟩
 have e1:=zfe (P:=l.prog) (w:=w) (base:=base) B T1
 have e2:=zif (P:=l.prog) (w:=w) (base:=base) B T2
 have e3:=zes B e2 T3
 have e4:=zgc (P:=l.prog) (w:=w) (base:=base) B T4
 have e5:=zdy B e4 T5
 have e6:=zd5 (P:=l.prog) (w:=w) (base:=base) B T6
 have e7:=zbl B e5 e6 T7
 have e8:=zfy B e3 T8
 have e9:=zfb (P:=l.prog) (w:=w) (base:=base) B T9
 have e10:=zf2 (P:=l.prog) (w:=w) (base:=base) B T10
 have e11:=zdd B e1 e10 T11
 have e12:=zd6 B e9 T12
 have e13:=zdh B EC rNoText e7 e12 T13
 have e14:=zag (P:=l.prog) (w:=w) (base:=base) B T14
 have e15:=zdn B e14 T15
 have e16:=zf6 B e14 T16
 have e17:=zfc B e14 e15 e16 T17
 have e18:=zde B e14 T18
 have e19:=zby B e14 e18 T19
 have e20:=zbx (P:=l.prog) (w:=w) (base:=base) B T20
 have e21:=zc6 (P:=l.prog) (w:=w) (base:=base) B T21
 have e22:=zbj (P:=l.prog) (w:=w) (base:=base) B T22
 have e23:=zdp B e21 T23
 have e24:=zf7 B e14 e19 T24
 have e25:=zdf B e14 T25
 have e26:=zc9 B e14 e25 T26
 have e27:=zb2 (P:=l.prog) (w:=w) (base:=base) B T27
 have e28:=zdl B e22 e27 T28
 have e29:=zem B e14 T29
 have e30:=zbw B EC rNoText e13 T30
 have e31:=zcv B e11 e20 e27 e28 e29 e30 T31
 exact z0a B e7 e8 e14 e17 e18 e19 e22 e23 e24 e26 e27 e28 e30 e31 (zrc (st:=sLaw) l32 c32 k32)
theorem walk{l:jv}{q:Program}{loose:List Str}{XP:(Str->Option Value)->Heap->Prop}{YP:World->Heap->Prop}{d:DefRec}{K:Params->Qa}(hn:l.most=some 63)(hdf:d.params.defaults = [])
 (hY:∀ (w:World) (h:Heap),YP w h->(K w.params).In h)
 (F:∀ (w:World) (mg:Str->Option Value) (fa:Addr) (h:Heap),(K w.params).In h->h.Ns mainGlobals mg->mg d.name=some (.ref fa) ->
  ∃ fd:FuncData,(∀ (s:Shared) (u:Value),BindsTo s fd ⟨[u],[]⟩ [("_law_script", u)])/\∀ base:Heap,(K w.params).In base->base.Ns mainGlobals mg->FnOk l.prog w (K w.params) mg base CX0 11 fa fd ["_law_script"] (zi2 (K w.params))) :
 qU q loose XP YP l.row.toRowW d [] (λf vs=>qL f vs) :=
 L2.walk_of (n:=63) (k:=11) (x := "_law_script") (CX:=λ_=>CX0) (sp:=λw=>zi2 (K w.params)) hn (by decide) hdf ⟨rfl,by decide,by decide,rfl⟩ hY F (λ_ _ a ns hl _ hS=>⟨a,ns,rfl,hS,hl,λ_=>rfl⟩) λ_ _ _ _ _ z=>z
end L33
theorem PySem.W.Fast.tw15248688992564324117 : True := trivial
theorem PySem.W.Fast.tw11380186461987288862 : True := trivial
theorem PySem.W.Fast.tw12930883228283813193 : True := trivial
theorem PySem.W.Fast.tw11017300189679506614 : True := trivial
theorem PySem.W.Fast.tw12431482044165498449 : True := trivial
theorem PySem.W.Fast.tw10698859983001388992 : True := trivial
theorem PySem.W.Fast.tw11926650477701659936 : True := trivial
theorem PySem.W.Fast.tw15303833138823878657 : True := trivial
theorem PySem.W.Fast.tw9997332098482281171 : True := trivial
theorem PySem.W.Fast.tw4498224013169720563 : True := trivial
theorem PySem.W.Fast.tw14408514395534188086 : True := trivial
theorem PySem.W.Fast.tw6826919097233695223 : True := trivial
theorem PySem.W.Fast.tw11645840548569725866 : True := trivial
theorem PySem.W.Fast.tw4435257195920029184 : True := trivial
theorem PySem.W.Fast.tw15821636555201374739 : True := trivial
theorem PySem.W.Fast.tw2559184337974002489 : True := trivial
theorem PySem.W.Fast.tw15515648738312496000 : True := trivial
theorem PySem.W.Fast.tw6084196535142363365 : True := trivial
theorem PySem.W.Fast.tw7189122889051228410 : True := trivial
theorem PySem.W.Fast.tw14875537865566524892 : True := trivial
theorem PySem.W.Fast.tw6446814611777275748 : True := trivial
theorem PySem.W.Fast.tw17241721717345536181 : True := trivial
theorem PySem.W.Fast.tw10847106631891303968 : True := trivial
theorem PySem.W.Fast.tw14021812160531417590 : True := trivial
theorem PySem.W.Fast.tw10747207279789235296 : True := trivial
theorem PySem.W.Fast.tw18152948404096466046 : True := trivial
theorem PySem.W.Fast.tw10982839649772781833 : True := trivial
theorem PySem.W.Fast.tw13728130692144904050 : True := trivial
open PySem PySem.W PyProof.Rows
set_option maxRecDepth 100000 in
set_option maxHeartbeats 0 in
theorem PySem.Challenge.cw_lostpost_k33_standings_told_holds : PySem.Challenge.rw_lostpost_k33_standings_told.Holds := by
 w_on;o_law;k_head; (case hw=>w_witness2)
 k_fill
 refine L33.walk (l:=PySem.Challenge.rw_lostpost_k33_standings_told) rfl rfl (λw h Y=>PySem.W.kIn_of Y) ?F
 case F =>
  intro w mg fa h KX G hmg
  refine' L33.all_mk KX G hmg (L33.din_mk ?a1 ?l1 ?c1 ?k1) (L33.din_mk ?a2 ?l2 ?c2 ?k2) (L33.din_mk ?a3 ?l3 ?c3 ?k3) (L33.din_mk ?a4 ?l4 ?c4 ?k4) (L33.din_mk ?a5 ?l5 ?c5 ?k5) (L33.din_mk ?a6 ?l6 ?c6 ?k6) (L33.din_mk ?a7 ?l7 ?c7 ?k7) (L33.din_mk ?a8 ?l8 ?c8 ?k8) (L33.din_mk ?a9 ?l9 ?c9 ?k9) (L33.din_mk ?a10 ?l10 ?c10 ?k10) (L33.din_mk ?a11 ?l11 ?c11 ?k11) (L33.din_mk ?a12 ?l12 ?c12 ?k12) (L33.din_mk ?a13 ?l13 ?c13 ?k13) (L33.din_mk ?a14 ?l14 ?c14 ?k14) (L33.din_mk ?a15 ?l15 ?c15 ?k15) (L33.din_mk ?a16 ?l16 ?c16 ?k16) (L33.din_mk ?a17 ?l17 ?c17 ?k17) (L33.din_mk ?a18 ?l18 ?c18 ?k18) (L33.din_mk ?a19 ?l19 ?c19 ?k19) (L33.din_mk ?a20 ?l20 ?c20 ?k20) (L33.din_mk ?a21 ?l21 ?c21 ?k21) (L33.din_mk ?a22 ?l22 ?c22 ?k22) (L33.din_mk ?a23 ?l23 ?c23 ?k23) (L33.din_mk ?a24 ?l24 ?c24 ?k24) (L33.din_mk ?a25 ?l25 ?c25 ?k25) (L33.din_mk ?a26 ?l26 ?c26 ?k26) (L33.din_mk ?a27 ?l27 ?c27 ?k27) (L33.din_mk ?a28 ?l28 ?c28 ?k28) (L33.din_mk ?a29 ?l29 ?c29 ?k29) (L33.din_mk ?a30 ?l30 ?c30 ?k30) (L33.din_mk ?a31 ?l31 ?c31 ?k31) (L33.din_mk ?a32 ?l32 ?c32 ?k32) ?z1 ?z2 ?z3 ?z4 ?z5 ?z6 ?z7 ?z8 ?z9 ?z10 ?z11 ?z12 ?z13 ?z14 ?z15 ?z16 ?z17 ?z18 ?z19 ?z20 (L3.errIn_mk ?xe1 ?xe2 ?xe3 ?xe4 ?xe5 ?xe6 ?xe7 ?xe8 ?xe9 ?xe10 ?xe11 ?xe12) (L3.raise1_mk ?xNoTexth1 ?xNoTexth2 ?xNoTexth3 ?xNoTexth4 ?xNoTexth5 ?xNoTexth6 ?xNoTexth7 ?xNoTexth8 ?xNoTexth9 ?xNoTexth10 ?xNoTexth11 ?xNoTexth12 ?xNoTexth13 ?xNoTexth14 ?xNoTexth15 ?xNoTexth16 ?xNoTexth17 ?xNoTexth18 ?xNoTexth19 ?xNoTexth20 (L3.no_cons ?xNoTextn0a ?xNoTextn0b ?xNoTextn0c ?xNoTextn0d (L3.no_cons ?xNoTextn1a ?xNoTextn1b ?xNoTextn1c ?xNoTextn1d (L3.no_cons ?xNoTextn2a ?xNoTextn2b ?xNoTextn2c ?xNoTextn2d (L3.no_cons ?xNoTextn3a ?xNoTextn3b ?xNoTextn3c ?xNoTextn3d (L3.no_cons ?xNoTextn4a ?xNoTextn4b ?xNoTextn4c ?xNoTextn4d (L3.no_cons ?xNoTextn5a ?xNoTextn5b ?xNoTextn5c ?xNoTextn5d L3.no_nil)))))) (L3.init1_mk ?xNoTexti1 ?xNoTexti2 ?xNoTexti3 ?xNoTexti4 ?xNoTexti5 ?xNoTexti6))
  (case a1=>k_is); (case l1=>k_is); (case c1=>k_is); (case k1=>k_is)
  (case a2=>k_is); (case l2=>k_is); (case c2=>k_is); (case k2=>k_is)
  (case a3=>k_is); (case l3=>k_is); (case c3=>k_is); (case k3=>k_is)
  (case a4=>k_is); (case l4=>k_is); (case c4=>k_is); (case k4=>k_is)
  (case a5=>k_is); (case l5=>k_is); (case c5=>k_is); (case k5=>k_is)
  (case a6=>k_is); (case l6=>k_is); (case c6=>k_is); (case k6=>k_is)
  (case a7=>k_is); (case l7=>k_is); (case c7=>k_is); (case k7=>k_is)
  (case a8=>k_is); (case l8=>k_is); (case c8=>k_is); (case k8=>k_is)
  (case a9=>k_is); (case l9=>k_is); (case c9=>k_is); (case k9=>k_is)
  (case a10=>k_is); (case l10=>k_is); (case c10=>k_is); (case k10=>k_is)
  (case a11=>k_is); (case l11=>k_is); (case c11=>k_is); (case k11=>k_is)
  (case a12=>k_is); (case l12=>k_is); (case c12=>k_is); (case k12=>k_is)
  (case a13=>k_is); (case l13=>k_is); (case c13=>k_is); (case k13=>k_is)
  (case a14=>k_is); (case l14=>k_is); (case c14=>k_is); (case k14=>k_is)
  (case a15=>k_is); (case l15=>k_is); (case c15=>k_is); (case k15=>k_is)
  (case a16=>k_is); (case l16=>k_is); (case c16=>k_is); (case k16=>k_is)
  (case a17=>k_is); (case l17=>k_is); (case c17=>k_is); (case k17=>k_is)
  (case a18=>k_is); (case l18=>k_is); (case c18=>k_is); (case k18=>k_is)
  (case a19=>k_is); (case l19=>k_is); (case c19=>k_is); (case k19=>k_is)
  (case a20=>k_is); (case l20=>k_is); (case c20=>k_is); (case k20=>k_is)
  (case a21=>k_is); (case l21=>k_is); (case c21=>k_is); (case k21=>k_is)
  (case a22=>k_is); (case l22=>k_is); (case c22=>k_is); (case k22=>k_is)
  (case a23=>k_is); (case l23=>k_is); (case c23=>k_is); (case k23=>k_is)
  (case a24=>k_is); (case l24=>k_is); (case c24=>k_is); (case k24=>k_is)
  (case a25=>k_is); (case l25=>k_is); (case c25=>k_is); (case k25=>k_is)
  (case a26=>k_is); (case l26=>k_is); (case c26=>k_is); (case k26=>k_is)
  (case a27=>k_is); (case l27=>k_is); (case c27=>k_is); (case k27=>k_is)
  (case a28=>k_is); (case l28=>k_is); (case c28=>k_is); (case k28=>k_is)
  (case a29=>k_is); (case l29=>k_is); (case c29=>k_is); (case k29=>k_is)
  (case a30=>k_is); (case l30=>k_is); (case c30=>k_is); (case k30=>k_is)
  (case a31=>k_is); (case l31=>k_is); (case c31=>k_is); (case k31=>k_is)
  (case a32=>k_is); (case l32=>k_is); (case c32=>k_is); (case k32=>k_is)
  (case z1=>k_is)
  (case z2=>k_is)
  (case z3=>k_is)
  (case z4=>k_is)
  (case z5=>k_is)
  (case z6=>k_is)
  (case z7=>k_is)
  (case z8=>k_is)
  (case z9=>k_is)
  (case z10=>k_is)
  (case z11=>k_is)
  (case z12=>k_is)
  (case z13=>k_is)
  (case z14=>k_is)
  (case z15=>k_is)
  (case z16=>k_is)
  (case z17=>k_is)
  (case z18=>k_is)
  (case z19=>k_is)
  (case z20=>k_is)
  (case xe1=>k_is)
  (case xe2=>k_is)
  (case xe3=>k_is)
  (case xe4=>k_is)
  (case xe5=>k_is)
  (case xe6=>k_is)
  (case xe7=>k_is)
  (case xe8=>k_is)
  (case xe9=>k_is)
  (case xe10=>k_is)
  (case xe11=>k_is)
  (case xe12=>k_is)
  (case xNoTexth1=>k_is)
  (case xNoTexth2=>k_is)
  (case xNoTexth3=>k_is)
  (case xNoTexth4=>k_is)
  (case xNoTexth5=>k_is)
  (case xNoTexth6=>k_is)
  (case xNoTexth7=>k_is)
  (case xNoTexth8=>k_is)
  (case xNoTexth9=>k_is)
  (case xNoTexth10=>k_is)
  (case xNoTexth11=>k_is)
  (case xNoTexth12=>k_is)
  (case xNoTexth13=>k_is)
  (case xNoTexth14=>k_is)
  (case xNoTexth15=>exact L3.strKeys_of (by kernel_rfl))
  (case xNoTexth16=>kernel_rfl)
  (case xNoTexth17=>k_is)
  (case xNoTexth18=>k_is)
  (case xNoTexth19=>k_is)
  (case xNoTexth20=>k_is)
  (case xNoTextn0a=>decide +kernel); (case xNoTextn0b=>k_is); (case xNoTextn0c=>k_is); (case xNoTextn0d=>k_is)
  (case xNoTextn1a=>decide +kernel); (case xNoTextn1b=>k_is); (case xNoTextn1c=>k_is); (case xNoTextn1d=>k_is)
  (case xNoTextn2a=>decide +kernel); (case xNoTextn2b=>k_is); (case xNoTextn2c=>k_is); (case xNoTextn2d=>k_is)
  (case xNoTextn3a=>decide +kernel); (case xNoTextn3b=>k_is); (case xNoTextn3c=>k_is); (case xNoTextn3d=>k_is)
  (case xNoTextn4a=>decide +kernel); (case xNoTextn4b=>k_is); (case xNoTextn4c=>k_is); (case xNoTextn4d=>k_is)
  (case xNoTextn5a=>decide +kernel); (case xNoTextn5b=>k_is); (case xNoTextn5c=>k_is); (case xNoTextn5d=>k_is)
  (case xNoTexti1=>k_is); (case xNoTexti2=>k_is); (case xNoTexti3=>exact⟨rfl,rfl,rfl,by decide +kernel,rfl,by decide +kernel,by decide +kernel⟩); (case xNoTexti4=>exact⟨Or.inl rfl,Or.inl rfl⟩); (case xNoTexti5=>decide +kernel); (case xNoTexti6=>exact λus hl=>L3.len2 hl λ_ _=>rfl)

