import PyProof.Rows.All
import Wide.All
import OpenK.AllK
import Wide.FinOn
import Lean
import PyProof.EqAt
import PyProof.EqKinds
import PyProof.TupleCall
import PyProof.StationsW
import PyProof.ExcClass2
import PyProof.ExcBaseAll.ValueError
import PyProof.InstStoreFacts
import PyProof.RulesAs
import PyProof.NsDelKeeps
import PyProof.P3Eq
import PyProof.P3In
import PyProof.ReprRoads
import PyProof.StrWalks
import PyProof.ListRange
import PyProof.ListStr
import PyProof.ConsumeWalk
import PyProof.MinMaxWalk
import PyProof.NeData
import PyProof.SliceStr2
import PyProof.Rows.SortStr
import PyProof.Rows.StrJoin2
import PyProof.Rows.SeqMore
import PyProof.SeqI3
import PyProof.StrLawsIn
import PySem.Challenge.RW_lostpost_k31_houses_as_texts
import PyProof.ReprBulk
import PyProof.ListMulRoad
import PyProof.StrOps2
import PyProof.Rows.SortShellK
import KE.KSortTup
import PyProof.Rows.SetFrom
import PyProof.CollectIter
import PyProof.CollectStr
import PyProof.FactsAll.set
import PyProof.ExcAttrAll.ValueError
import PyProof.ExcArgs
import KE.KIsAll
import PySem.SetTable
import PyProof.SetScanFacts
import PyProof.TupleKey
import PyProof.IsRules
import KE.KDictOf
import PyProof.AttrMissHeap
import PyProof.DictWalks
import KE.KDictLaws
import PyProof.Draws
import KE.KRevIter
import PyProof.EnumStmt
import PyProof.JoinWalk
import KE.BitLaws
import PyProof.TupleOfSeq
import PyProof.StrCalls6
import PyProof.StrLawsReplace
import PyProof.DictRoadsH
import PyProof.ZipIter
import KE.KItemsList
set_option Elab.async false
set_option linter.all false
set_option maxRecDepth 100000
namespace L2
open PySem PySem.Spec PyProof.Rows
abbrev Key:=Sum Int Str
def keyIs:Key->Value->Bool
 | .inl k,v=>Value.isInt k v
 | .inr x,v=>Value.isStrOf x v
def keyH (w:World):Key->Int
 | .inl k=>hashInt k
 | .inr x=>hashStr w x
theorem keyIs_shape:∀ {k:Key} {v:Value},keyIs k v=true->(∃ i t,k=Sum.inl i/\v=Value.int i t)\/(∃ x t,k=Sum.inr x/\v=Value.str x t)
 | .inl i,v,h=>by
   obtain ⟨t,e⟩:=Value.isInt_shape (k:=i) (v:=v) h
   exact .inl ⟨i,t,rfl,e⟩
 | .inr x,v,h=>by
   obtain ⟨t,e⟩:=Value.isStrOf_shape (x:=x) (v:=v) h
   exact .inr ⟨x,t,rfl,e⟩
theorem keyIs_int (i:Int) (t:Tok):keyIs (.inl i) (.int i t)=true:=by simp [keyIs,Value.isInt]
theorem keyIs_str (x:Str) (t:Tok):keyIs (.inr x) (.str x t)=true:=by simp [keyIs,Value.isStrOf]
theorem key_ll (a b:Int):decide ((Sum.inl a:Key)=Sum.inl b)=(a == b):=by
 by_cases e:a=b
 ·subst e;simp
 ·have h:¬ (Sum.inl a:Key)=Sum.inl b:=fun q=>e (Sum.inl.inj q)
  rw [decide_eq_false h]
  exact (beq_eq_false_iff_ne.mpr e).symm
theorem key_rr (a b:Str):decide ((Sum.inr a:Key)=Sum.inr b)=decide (a=b):=by
 by_cases e:a=b
 ·subst e;simp
 ·have h:¬ (Sum.inr a:Key)=Sum.inr b:=fun q=>e (Sum.inr.inj q)
  rw [decide_eq_false h,decide_eq_false e]
theorem key_lr (a:Int) (b:Str):decide ((Sum.inl a:Key)=Sum.inr b)=false:=decide_eq_false (fun q=>nomatch q)
theorem key_rl (a:Str) (b:Int):decide ((Sum.inr a:Key)=Sum.inl b)=false:=decide_eq_false (fun q=>nomatch q)
def mixKind (prog:Program) (w:World):PySem.KeyKind prog w Key where
 is:=keyIs
 hash:=keyH w
 inj:=fun v a b ha hb=>by
  rcases keyIs_shape ha with ⟨i,t,rfl,rfl⟩ | ⟨x,t,rfl,rfl⟩
  ·rcases keyIs_shape hb with ⟨j,u,rfl,e⟩ | ⟨y,u,rfl,e⟩
   ·injection e with e1 _;rw [e1]
   ·exact nomatch e
  ·rcases keyIs_shape hb with ⟨j,u,rfl,e⟩ | ⟨y,u,rfl,e⟩
   ·exact nomatch e
   ·injection e with e1 _;rw [e1]
 byValue:=fun k v h=>by
  rcases keyIs_shape h with ⟨i,t,rfl,rfl⟩ | ⟨x,t,rfl,rfl⟩ <;> rfl
 pyHash:=fun hv h=>by
  rcases keyIs_shape hv with ⟨i,t,rfl,rfl⟩ | ⟨x,t,rfl,rfl⟩
  ·exact wpAny_pyHash_int h
  ·exact wpAny_pyHash_str h
 eqBool:=fun hu hv h=>by
  rcases keyIs_shape hu with ⟨i,t,rfl,rfl⟩ | ⟨x,t,rfl,rfl⟩
  ·rcases keyIs_shape hv with ⟨j,u,rfl,rfl⟩ | ⟨y,u,rfl,rfl⟩
   ·rw [key_ll] at h;exact wpAny_eqBool_int h
   ·rw [key_lr] at h;exact SeqAt.EqAt.int_str i t y u _ _ _ _ h
  ·rcases keyIs_shape hv with ⟨j,u,rfl,rfl⟩ | ⟨y,u,rfl,rfl⟩
   ·rw [key_rl] at h;exact SeqAt.EqAt.str_int x t j u _ _ _ _ h
   ·rw [key_rr] at h;exact wpAny_eqBool_str h
 «strs»:=fun k x t v h=>by
  rcases keyIs_shape h with ⟨i,u,rfl,e⟩ | ⟨y,u,rfl,e⟩
  ·exact nomatch e
  ·injection e with e1 _
   subst e1
   cases v <;> rfl
theorem mixKind_int (prog:Program) (w:World) (i:Int) (t:Tok):(mixKind prog w).is (.inl i) (.int i t)=true:=keyIs_int i t
theorem mixKind_str (prog:Program) (w:World) (x:Str) (t:Tok):(mixKind prog w).is (.inr x) (.str x t)=true:=keyIs_str x t
end L2
namespace L2
open PySem PySem.Spec PyProof.Rows
inductive V where
 | non | bl (b:Bool) | int (i:Int) | str (x:Str) | byt (b:Array UInt8) | flt (b:UInt64) | ref (a:Addr) | ty (n:String)
 deriving DecidableEq
def RelV:V->Value->Prop
 | .non,u=>u=Value.none
 | .bl b,u=>u=Value.bool b
 | .int i,u=>∃ t,u=Value.int i t
 | .str x,u=>∃ t,u=Value.str x t
 | .byt b,u=>∃ t,u=Value.bytes b t
 | .flt b,u=>∃ t,u=Value.float b t
 | .ref a,u=>u=Value.ref a
 | .ty n,u=>u=Value.type n
abbrev Vals:List V->List Value->Prop:=Paired RelV
theorem Vals.length {xs:List V} {us:List Value} (r:Vals xs us):xs.length=us.length:=Paired.length r
theorem Vals.get:∀ {xs:List V} {us:List Value} {i:Nat} {x:V},Vals xs us->xs[i]? = some x->∃ u,us[i]? = some u/\RelV x u
 | _,_,_,_,.nil,e=>by simp at e
 | _,_,0,_,.cons r _,e=>by simp at e;subst e;exact ⟨_,rfl,r⟩
 | _,_,i+1,x,.cons _ t,e=>by
   obtain ⟨u,h1,h2⟩:=Vals.get (i:=i) (x:=x) t (by simpa using e)
   exact ⟨u,by simpa using h1,h2⟩
theorem Vals.set {x:V} {u:Value} (r:RelV x u):∀ {xs:List V} {us:List Value} (i:Nat),Vals xs us->Vals (xs.set i x) (us.set i u)
 | _,_,_,.nil => .nil
 | _,_,0,.cons _ t => .cons r t
 | _,_,i+1,.cons q t => .cons q (Vals.set r i t)
theorem Vals.append:∀ {xs ys:List V} {us ws:List Value},Vals xs us->Vals ys ws->Vals (xs++ys) (us++ws)
 | _,_,_,_,.nil,s=>s
 | _,_,_,_,.cons r t,s => .cons r (Vals.append t s)
theorem Vals.take:∀ {xs:List V} {us:List Value} (n:Nat),Vals xs us->Vals (xs.take n) (us.take n)
 | _,_,0,_ => .nil
 | _,_,_+1,.nil => .nil
 | _,_,n+1,.cons r t => .cons r (Vals.take n t)
theorem Vals.drop:∀ {xs:List V} {us:List Value} (n:Nat),Vals xs us->Vals (xs.drop n) (us.drop n)
 | _,_,0,r=>r
 | _,_,_+1,.nil => .nil
 | _,_,n+1,.cons _ t=>Vals.drop n t
def RelO:Option V->Option Value->Prop
 | some v,some u=>RelV v u
 | none,none=>True
 | _,_=>False
def KV {κ:Type}:List (κ × V)->List (κ × Value)->Prop:=Paired fun (p:κ × V) (q:κ × Value)=>p.1=q.1/\RelV p.2 q.2
def kV:Key->V
 | .inl i => .int i
 | .inr x => .str x
inductive HO where
 | lst (xs:List V)
 | tup (xs:List V)
 | dK (kvs:List (Key × V)) | dT (kvs:List (List Key × V))
 | set (S:Int->Bool) (n:Nat)
 | ins (C dx:Addr) (fs:List (Str × V))
 | own (x:Addr)
 | xd (fs:List (Str × V))
 | met (f x:Addr)
 | rng (lo hi:Int)
 | frz (o:Obj) (u:HO)
 | tbl (ps:Array Value)
 | ext (φ:Heap->Prop)
abbrev Hp:=Addr->Option HO
def upd (H:Hp) (a:Addr) (o:HO):Hp:=fun b=>if b=a then some o else H b
theorem upd_same {H:Hp} {a:Addr} {o:HO}:upd H a o a=some o:=by unfold upd;rw [if_pos rfl]
theorem upd_ne {H:Hp} {a b:Addr} {o:HO} (h:b ≠ a):upd H a o b=H b:=by unfold upd;rw [if_neg h]
theorem ne_of_none {H:Hp} {a b:Addr} {o:HO} (h:H a=some o) (h':H b=none):a ≠ b:=by
 intro e;subst e;rw [h] at h';cases h'
section
variable (P : Program) (w : World)
def ObjOk (H:Hp) (h:Heap) (a:Addr):HO->Prop
 | .lst xs=>xs.length<=sizeLine/\∃ (its:List Value) (n:Nat),Vals xs its/\h.get? a=some { cls := .type "list", data := .seq its.toArray n }
 | .tup xs=>xs.length<=sizeLine/\∃ its:List Value,Vals xs its/\IsTup h a its.toArray
 | .dK kvs=>kvs.length<=sizeLine/\(a == sysModules)=false/\∃ vs,KV kvs vs/\h.DictOf (mixKind P w) a vs
 | .dT kvs=>kvs.length<=sizeLine/\(a == sysModules)=false/\∃ xs:List (List Key × Addr × Value),
  Paired (fun (p:List Key × V) (q:List Key × Addr × Value)=>p.1=q.1/\H q.2.1=some (.tup (p.1.map kV))/\RelV p.2 q.2.2) kvs xs /\
  ∃ o es ep,h.get? a=some o/\o.ExactDict/\o.data = .dict es ep/\es.toList=xs.map (entryOfKey (tupleKind (mixKind P w)))/\(xs.map (·.1)).Nodup
 | .set S n=>h.SetOf (intKind P w) a S n
 | .ins C dx fs=>H dx=some (.own a)/\fs.length<=1000/\dx ≠ a/\h.get? a=some (PySem.W.instObj C dx) /\
  ∃ mA,h.Ns1 dx mA/\(∀ f,RelO (fs.lookup f) (mA f))/\PySem.Within mA (fs.map (·.1))
 | .own _=>∃ o,h.get? a=some o
 | .xd fs=>∃ mA,h.Ns1 a mA/\∀ f,RelO (fs.lookup f) (mA f)
 | .rng lo hi=>∃ t u v,h.get? a=some { cls := .type "range", data := .fields #[.int lo t,.int hi u,.int 1 v] }
 | .frz o u=>h.get? a=some o/\ObjOk H h a u
 | .tbl ps=>h.get? a=some { cls := .none,data := .fields ps }
 | .met f x=>h.get? a=some (PySem.W.methodObj (.ref f) (.ref x))
 | .ext φ=>φ h/\(∃ o,h.get? a=some o)/\∀ h1 h2:Heap,φ h1->(∀ o,h1.get? a=some o->h2.get? a=some o)->φ h2
def HOk (H:Hp) (h:Heap):Prop:=∀ a o,H a=some o->ObjOk P w H h a o
end
section
variable {P : Program} {w : World} {H H' : Hp} {h h' : Heap} {a : Addr} {o : HO}
theorem ObjOk.lt (x:ObjOk P w H h a o):a<h.objs.size:=by
 cases o with
 | lst xs=>obtain ⟨_,_,_,_,e⟩:=x;exact Heap.lt_size e
 | tup xs=>obtain ⟨_,_,_,p⟩:=x;exact p.lt
 | dK kvs=>obtain ⟨_,_,_,_,o,_,_,e,_⟩:=x;exact Heap.lt_size e
 | dT kvs=>obtain ⟨_,_,_,_,o,_,_,e,_⟩:=x;exact Heap.lt_size e
 | set S n=>obtain ⟨o,_,_,_,e,_⟩:=x;exact Heap.lt_size e
 | ins C dx fs=>obtain ⟨_,_,_,e,_⟩:=x;exact Heap.lt_size e
 | own y=>obtain ⟨_,e⟩:=x;exact Heap.lt_size e
 | xd fs=>obtain ⟨_,⟨_,_,_,e,_⟩,_⟩:=x;exact Heap.lt_size e
 | rng lo hi=>obtain ⟨_,_,_,e⟩:=x;exact Heap.lt_size e
 | frz ob u=>obtain ⟨e,_⟩:=x;exact Heap.lt_size e
 | tbl ps=>exact Heap.lt_size (show h.get? a=some _ from x)
 | met f y=>exact Heap.lt_size (show h.get? a=some _ from x)
 | ext φ=>obtain ⟨_,⟨_,e⟩,_⟩:=x;exact Heap.lt_size e
theorem Paired.mapP {α β:Type} {F G:α->β->Prop}:∀ {l₁:List α} {l₂:List β},Paired F l₁ l₂->(∀ a b,F a b->G a b)->Paired G l₁ l₂
 | _,_,.nil,_ => .nil
 | _,_,.cons r t,f => .cons (f _ _ r) (Paired.mapP t f)
theorem ObjOk.stay (x:ObjOk P w H h a o) (k:∀ b u,(b=a\/H b=some (.own a))->h.get? b=some u->h'.get? b=some u)
 (ho:∀ b,H b=some (.own a)->H' b=some (.own a)) (ht:∀ b xs,H b=some (.tup xs)->H' b=some (.tup xs)):ObjOk P w H' h' a o:=by
 induction o with
 | lst xs=>obtain ⟨z,its,n,r,e⟩:=x;exact ⟨z,its,n,r,k _ _ (.inl rfl) e⟩
 | tup xs=>obtain ⟨z,its,r,ob,e,c⟩:=x;exact ⟨z,its,r,ob,k _ _ (.inl rfl) e,c⟩
 | dK kvs=>obtain ⟨z,y,vs,r,ob,es,ep,e,c⟩:=x;exact ⟨z,y,vs,r,ob,es,ep,k _ _ (.inl rfl) e,c⟩
 | dT kvs =>
   obtain ⟨z,y,xs,r,ob,es,ep,e,c⟩:=x
   exact ⟨z,y,xs,Paired.mapP r fun p q z=>⟨z.1,ht _ _ z.2.1,z.2.2⟩,ob,es,ep,k _ _ (.inl rfl) e,c⟩
 | set S n=>obtain ⟨ob,es,ep,t,e,c⟩:=x;exact ⟨ob,es,ep,t,k _ _ (.inl rfl) e,c⟩
 | ins C dx fs =>
   obtain ⟨d,z,ne,e,mA,⟨od,es,ep,e2,c⟩,r⟩:=x
   exact ⟨ho _ d,z,ne,k _ _ (.inl rfl) e,mA,⟨od,es,ep,k _ _ (.inr d) e2,c⟩,r⟩
 | own y=>obtain ⟨ob,e⟩:=x;exact ⟨ob,k _ _ (.inl rfl) e⟩
 | xd fs=>obtain ⟨mA,⟨od,es,ep,e,c⟩,r⟩:=x;exact ⟨mA,⟨od,es,ep,k _ _ (.inl rfl) e,c⟩,r⟩
 | rng lo hi=>obtain ⟨t,u,v,e⟩:=x;exact ⟨t,u,v,k _ _ (.inl rfl) e⟩
 | frz ob u ih=>obtain ⟨e,q⟩:=x;exact ⟨k _ _ (.inl rfl) e,ih q⟩
 | tbl ps =>
   have e:h.get? a=some { cls := .none,data := .fields ps }:=x
   show h'.get? a=some { cls := .none,data := .fields ps }
   exact k a _ (.inl rfl) e
 | met f y =>
   have e:h.get? a=some (PySem.W.methodObj (.ref f) (.ref y)):=x
   show h'.get? a=some (PySem.W.methodObj (.ref f) (.ref y))
   exact k a _ (.inl rfl) e
 | ext φ=>obtain ⟨p,⟨o,e⟩,st⟩:=x;exact ⟨st _ _ p fun o q=>k _ _ (.inl rfl) q,⟨o,k _ _ (.inl rfl) e⟩,st⟩
theorem HOk.lt (x:HOk P w H h) (e:H a=some o):a<h.objs.size:=(x a o e).lt
theorem HOk.fresh (x:HOk P w H h) (e:h.objs.size<=a):H a=none:=by
 cases q:H a with
 | none=>rfl
 | some u=>exact absurd (Nat.lt_of_lt_of_le (x.lt q) e) (Nat.lt_irrefl _)
theorem HOk.kept (x:HOk P w H h) (k:∀ b u,h.get? b=some u->h'.get? b=some u):HOk P w H h':=fun a o e =>
 (x a o e).stay (fun b u _ q=>k b u q) (fun _ q=>q) fun _ _ q=>q
theorem HOk.laid (x:HOk P w H h) (k:∀ b u,h.get? b=some u->h'.get? b=some u) (hp:h.objs.size<=a) (new:ObjOk P w (upd H a o) h' a o):HOk P w (upd H a o) h':=fun b u e=>by
 have hn:=x.fresh hp
 by_cases hb:b=a
 ·subst hb;rw [upd_same] at e;cases e;exact new
 ·rw [upd_ne hb] at e
  exact (x b u e).stay (fun c v _ q=>k c v q) (fun c q=>by rw [upd_ne (ne_of_none q hn)];exact q) fun c xs q=>by rw [upd_ne (ne_of_none q hn)];exact q
end
def Rd (H:Hp) (a:Addr) (u:HO):Prop:=H a=some u\/∃ o,H a=some (.frz o u)
theorem Rd.ok {P:Program} {w:World} {H:Hp} {h:Heap} {a:Addr} {u:HO} (r:Rd H a u) (x:HOk P w H h):ObjOk P w H h a u:=by
 rcases r with r | ⟨o,r⟩
 ·exact x a u r
 ·obtain ⟨_,q⟩:=x a _ r
  exact q
def Mut:Option HO->Prop
 | some (.lst _)=>True
 | some (.dK _)=>True
 | some (.dT _)=>True
 | some (.set _ _)=>True
 | some (.ins _ _ _)=>True
 | some (.ext _)=>True
 | _=>False
section
variable {P : Program} {w : World} {H : Hp} {h h' : Heap} {x e : Addr} {o' : HO}
theorem HOk.write (ok:HOk P w H h) (mu:Mut (H x)) (he:e=x\/H e=some (.own x)) (k:∀ b u,b ≠ e->h.get? b=some u->h'.get? b=some u) (heo:∃ u,h'.get? e=some u)
 (new:ObjOk P w (upd H x o') h' x o'):HOk P w (upd H x o') h':=fun b u q=>by
 have nown:∀ c y,H c=some (.own y)->c ≠ x:=fun c y r z=>by subst z;rw [r] at mu;exact mu
 have ntup:∀ c xs,H c=some (.tup xs)->c ≠ x:=fun c xs r z=>by subst z;rw [r] at mu;exact mu
 by_cases hb:b=x
 ·subst hb;rw [upd_same] at q;cases q;exact new
 ·rw [upd_ne hb] at q
  by_cases hbe:b=e
  ·have q':H b=some (.own x):=by
    rcases he with z | z
    ·exact absurd (hbe.trans z) hb
    ·rw [hbe];exact z
   rw [q] at q';cases q'
   obtain ⟨v,hv⟩:=heo
   exact ⟨v,by rw [hbe];exact hv⟩
  ·refine (ok b u q).stay (fun c v hc r=>k c v ?_ r) (fun c r=>by rw [upd_ne (nown c b r)];exact r) fun c xs r=>by rw [upd_ne (ntup c xs r)];exact r
   rcases hc with rfl | hc
   ·exact hbe
   ·rintro rfl
    rcases he with z | z
    ·exact nown c b hc z
    ·rw [hc] at z;cases z;exact hb rfl
end
structure Un (fs ex:List Addr) (H H':Hp) (h h':Heap):Prop where
 keep:∀ b o,h.get? b=some o->H b=none->b ∉ fs->b ∉ ex->h'.get? b=some o
 slot:∀ b o,h.get? b=some o->H b=none->b ∈ fs->b ∉ ex->∃ sl,h'.get? b=some { o with slots:=sl }
 free:∀ b o,h.get? b=some o->H b=none->b ∉ ex->H' b=none
 there:∀ b o,h.get? b=some o->b ∉ ex->∃ o',h'.get? b=some o'
 tups:∀ b xs,H b=some (.tup xs)->H' b=some (.tup xs)
 frzs:∀ b o u,H b=some (.frz o u)->H' b=some (.frz o u)
 tbls:∀ b ps,H b=some (.tbl ps)->∃ more,H' b=some (.tbl (ps++more))
section
variable {fs fs' ex ex' : List Addr} {H H1 H2 : Hp} {h h1 h2 h' : Heap} {a x e : Addr} {o : HO}
theorem Un.any (u:Un fs ex H H1 h h1) {b:Addr} {ob:Obj} (q:h.get? b=some ob) (n:H b=none) (hx:b ∉ ex):∃ sl,h1.get? b=some { ob with slots:=sl }:=by
 by_cases hb:b ∈ fs
 ·exact u.slot b ob q n hb hx
 ·exact ⟨ob.slots,u.keep b ob q n hb hx⟩
theorem Un.kept (k:∀ b u,h.get? b=some u->h'.get? b=some u):Un fs ex H H h h' :=
 ⟨fun b ob q _ _ _=>k b ob q,fun b ob q _ _ _=>⟨ob.slots,k b ob q⟩,fun _ _ _ n _=>n,fun b ob q _=>⟨ob,k b ob q⟩,fun _ _ q=>q,fun _ _ _ q=>q,fun _ ps q=>⟨#[],by rw [q];simp⟩⟩
theorem Un.refl:Un fs ex H H h h:=Un.kept fun _ _ q=>q
theorem Un.laid (k:∀ b u,h.get? b=some u->h'.get? b=some u) (hp:h.objs.size<=a) (hn:H a=none):Un fs ex H (upd H a o) h h' where
 keep:=fun b u q _ _ _=>k b u q
 slot:=fun b u q _ _ _=>⟨u.slots,k b u q⟩
 free:=fun b u q n _=>by rw [upd_ne (Nat.ne_of_lt (Nat.lt_of_lt_of_le (Heap.lt_size q) hp))];exact n
 there:=fun b u q _=>⟨u,k b u q⟩
 tups:=fun b xs q=>by rw [upd_ne (ne_of_none q hn)];exact q
 frzs:=fun b u xs q=>by rw [upd_ne (ne_of_none q hn)];exact q
 tbls:=fun b ps q=>⟨#[],by rw [upd_ne (ne_of_none q hn),q];simp⟩
theorem Un.write (mu:Mut (H x)) (he:e=x\/H e=some (.own x)) (k:∀ b u,b ≠ e->h.get? b=some u->h'.get? b=some u) (heo:∃ u,h'.get? e=some u):Un fs ex H (upd H x o) h h':=by
 have hx:∀ b,H b=none->b ≠ x:=fun b n z=>by subst z;rw [n] at mu;exact mu
 have hb:∀ b,H b=none->b ≠ e:=fun b n z=>by
  subst z
  rcases he with r | r
  ·exact hx b n r
  ·rw [n] at r;cases r
 have hm:∀ b u,H b=some u->¬ Mut (some u)->b ≠ x:=fun b u q nm z=>by subst z;rw [q] at mu;exact nm mu
 refine ⟨fun b u q n _ _=>k b u (hb b n) q,fun b u q n _ _=>⟨u.slots,k b u (hb b n) q⟩,fun b u q n _=>by rw [upd_ne (hx b n)];exact n,fun b u q _=>?_,
  fun b xs q=>by rw [upd_ne (hm b _ q fun z=>z)];exact q,fun b u xs q=>by rw [upd_ne (hm b _ q fun z=>z)];exact q,fun b ps q=>⟨#[],by rw [upd_ne (hm b _ q fun z=>z),q];simp⟩⟩
 by_cases hbe:b=e
 ·subst hbe;exact heo
 ·exact ⟨u,k b u hbe q⟩
end
def trk (h:Heap) (H:Hp):List Addr:=(List.range h.objs.size).filter fun a=>(H a).isSome
def hidT (h:Heap) (H:Hp):Heap:=PySem.W.hideAll h (trk h H)
theorem hidT_size (h:Heap) (H:Hp):(hidT h H).objs.size=h.objs.size:=PySem.W.hideAll_size _ _
theorem hidT_get {h:Heap} {H:Hp} {b:Addr} {o:Obj} (e:h.get? b=some o) (n:H b=none):(hidT h H).get? b=some o :=
 PySem.W.hideAll_get _ e fun hm=>by
  have q:(H b).isSome=true:=(List.mem_filter.mp hm).2
  rw [n] at q;simp at q
theorem of_hidT {h:Heap} {H:Hp} {b:Addr} {o:Obj} (e:(hidT h H).get? b=some o):h.get? b=some o/\H b=none:=by
 have e':h.get? b=some o:=PySem.W.of_hideAll (trk h H) e
 refine ⟨e',?_⟩
 cases q:H b with
 | none=>rfl
 | some x =>
   have hm:b ∈ trk h H:=List.mem_filter.mpr ⟨List.mem_range.mpr (Heap.lt_size e'),by simp [q]⟩
   have z:(hidT h H).get? b=none:=PySem.W.hideAll_none (trk h H) hm
   rw [z] at e;cases e
end L2
namespace L2
open PySem PySem.Spec PyProof.Rows
structure Mod (K:PySem.W.Frag) (mg:Str->Option Value) (base:Heap):Prop where
 kin:K.In base
 glob:base.Ns mainGlobals mg
 blt:∃ mb,base.Ns builtinsNs mb/\∀ x:Str,x ≠ "__name__" -> mb x=bootBuiltins x
 nolimit:base.NoLimit
structure Cx where
 prog:Program
 w:World
 K:PySem.W.Frag
 mg:Str->Option Value
 base:Heap
 A:Around
 N:List Str
 s₀:Shared
 H₀:Hp
 env:Env
 outer:List Env
 stack:List Env
 ex:List Addr
 fn:Str->Bool
 calm:Bool
 pn:List (Addr × Obj)
 xe:Value->Shared->Prop
def frs (l:List Env):List Addr:=l.filterMap (·.frame)
abbrev Cx.fs (X:Cx):List Addr:=frs X.outer
def Vis (sc:Scope) (x:Str):Prop:=sc.names.lookup x=some .local\/sc.names.lookup x=some .cell\/sc.names.lookup x=some .free
def Loc (sc:Scope) (x:Str):Prop:=sc.names.lookup x=some .local\/sc.names.lookup x=some .cell
def Look (env:Env) (h:Heap) (m:Str->Option Value) (x:Str) (u:Value):Prop :=
 (env.kindOf x=some .local/\m x=some u)\/((env.kindOf x=some .cell\/env.kindOf x=some .free)/\∃ c,env.cells.lookup x=some c/\h.IsCell c (some u))
structure Cx.Ok (X:Cx):Prop where
 mod:Mod X.K X.mg X.base
 kind:X.env.scope.kind = .function
 glob:X.env.globals=mainGlobals
 blt:X.env.builtins=builtinsNs
 above:X.s₀.heap.objs.size<=X.env.locals
 inj:∀ x y c,X.env.cells.lookup x=some c->X.env.cells.lookup y=some c->x=y
 has:∀ x,(X.env.kindOf x=some .cell\/X.env.kindOf x=some .free)->∃ c,X.env.cells.lookup x=some c
 cab:∀ x c,X.fn x=true->X.env.cells.lookup x=some c->X.s₀.heap.objs.size<=c
 hd:X.calm=true->X.A.handled=none
 frames:X.A.frames=some X.stack
 stk:X.stack=X.outer\/(X.stack=X.env::X.outer/\X.env.frame=some X.env.locals)
 exf:∀ b ∈ X.ex,b ≠ X.env.locals/\∀ x c,X.env.cells.lookup x=some c->c ≠ b
 bs:∀ b o,X.base.get? b=some o->X.s₀.heap.get? b=some o/\X.H₀ b=none
 bsz:X.base.objs.size<=X.s₀.heap.objs.size
 noex:∀ b o,X.base.get? b=some o->b ∉ X.ex
 exfs:∀ b ∈ X.ex,b ∉ X.fs
 funs:X.s₀.heap.FunFrames X.base X.outer
 frf:∀ b ∈ X.fs,X.H₀ b=none
structure Inv (X:Cx) (pins:List (Addr × Obj)) (σ:List (Option V)) (H:Hp) (s:Shared):Prop where
 ok:X.Ok
 os:s.os=X.s₀.os
 bare:AllBare s.gens
 base:Un X.fs X.ex X.H₀ H X.s₀.heap s.heap
 loc:∃ m,s.heap.Ns X.env.locals m/\∀ (i:Nat) (x:Str) (v:V),X.N[i]? = some x->σ[i]? = some (some v)->Vis X.env.scope x->∃ u,RelV v u/\Look X.env s.heap m x u
 cell:∀ x c,X.env.cells.lookup x=some c->∃ v,s.heap.IsCell c v
 free:H X.env.locals=none
 freeC:∀ x c,X.env.cells.lookup x=some c->H c=none
 pin:∀ p ∈ X.pn++pins,s.heap.get? p.1=some p.2/\H p.1=none/\p.1 ≠ X.env.locals/\p.1 ∉ X.fs/\∀ v,p.2.data ≠ .cell v
 hok:HOk X.prog X.w H s.heap
 len:σ.length=X.N.length
section
variable {X : Cx} {pins : List (Addr × Obj)} {σ : List (Option V)} {H H' : Hp} {s : Shared} {h' : Heap}
theorem Cx.Ok.nofr (ok:X.Ok) {b:Addr} {o:Obj} (e:X.base.get? b=some o):b ∉ X.fs:=fun hb=>by
 have:=(ok.funs.mem hb).1
 rw [e] at this;cases this
theorem Inv.bs (I:Inv X pins σ H s):∀ b o,X.base.get? b=some o->s.heap.get? b=some o/\H b=none:=fun b o e =>
 ⟨I.base.keep b o (I.ok.bs b o e).1 (I.ok.bs b o e).2 (I.ok.nofr e) (I.ok.noex b o e),I.base.free b o (I.ok.bs b o e).1 (I.ok.bs b o e).2 (I.ok.noex b o e)⟩
theorem Inv.bk (I:Inv X pins σ H s):∀ b o,X.base.get? b=some o->s.heap.get? b=some o:=fun b o e=>(I.bs b o e).1
theorem Inv.mod (I:Inv X pins σ H s):Mod X.K X.mg X.base:=I.ok.mod
theorem Inv.kIn (I:Inv X pins σ H s):X.K.In s.heap:=I.ok.mod.kin.keeps I.bk
theorem Inv.lt (I:Inv X pins σ H s):X.env.locals<s.heap.objs.size:=let ⟨_,hn,_⟩:=I.loc;hn.lt
theorem Inv.sz (I:Inv X pins σ H s):X.s₀.heap.objs.size<=s.heap.objs.size:=Nat.le_trans I.ok.above (Nat.le_of_lt I.lt)
theorem Inv.nofs (I:Inv X pins σ H s) {a:Addr} (h:s.heap.objs.size<=a):a ∉ X.fs:=fun hb=>by
 obtain ⟨_,o,ho,_⟩:=I.ok.funs.mem hb
 exact absurd (Nat.lt_of_lt_of_le (Heap.lt_size ho) (Nat.le_trans I.sz h)) (Nat.lt_irrefl _)
theorem Inv.cne (I:Inv X pins σ H s):∀ x c,X.env.cells.lookup x=some c->c ≠ X.env.locals:=fun x c e z=>by
 obtain ⟨v,o,ho,hd⟩:=I.cell x c e
 obtain ⟨m,⟨o',es,ep,ho',hd',_⟩,_⟩:=I.loc
 rw [z,ho'] at ho;cases ho;rw [hd'] at hd;cases hd
theorem Inv.funs (I:Inv X pins σ H s):s.heap.FunFrames X.base X.outer:=by
 have all:∀ (l:List Env),(∀ b ∈ frs l,b ∈ X.fs)->X.s₀.heap.FunFrames X.base l->s.heap.FunFrames X.base l:=by
  intro l
  induction l with
  | nil=>intro _ _;trivial
  | cons env r ih =>
    intro hs hl
    obtain ⟨hk,⟨L,o,hf,hn,ho,hd⟩,hr⟩:=hl
    have hL:L ∈ X.fs:=hs L (by unfold frs;rw [List.filterMap_cons,hf];exact List.mem_cons_self)
    obtain ⟨sl,e⟩:=I.base.slot L o ho (I.ok.frf L hL) hL fun z=>I.ok.exfs L z hL
    exact ⟨hk,⟨L,_,hf,hn,e,hd⟩,ih (fun b hb=>hs b (by unfold frs;rw [List.filterMap_cons,hf];exact List.mem_cons_of_mem _ hb)) hr⟩
 exact all X.outer (fun _ hb=>hb) I.ok.funs
theorem Inv.stack (I:Inv X pins σ H s):s.heap.FunFrames X.base X.stack:=by
 rcases I.ok.stk with e | ⟨e,hf⟩
 ·rw [e];exact I.funs
 ·rw [e]
  obtain ⟨m,hn,_⟩:=I.loc
  refine .cons (by rw [I.ok.kind];decide) hf hn ?_ I.funs
  exact Heap.get?_none_of_le (Nat.le_trans I.ok.bsz I.ok.above)
theorem Inv.stkSub (I:Inv X pins σ H s):∀ b ∈ frs X.stack,b ∈ X.env.locals::X.fs:=fun b hb=>by
 rcases I.ok.stk with e | ⟨e,hf⟩
 ·rw [e] at hb;exact List.mem_cons_of_mem _ hb
 ·rw [e] at hb
  unfold frs at hb
  rw [List.filterMap_cons,hf] at hb
  exact hb
theorem Inv.stkFree (I:Inv X pins σ H s):∀ b ∈ frs X.stack,H b=none:=fun b hb=>by
 rcases List.mem_cons.mp (I.stkSub b hb) with e | hb
 ·rw [e];exact I.free
 ·obtain ⟨_,o,ho,_⟩:=I.ok.funs.mem hb
  exact I.base.free b o ho (I.ok.frf b hb) fun z=>I.ok.exfs b z hb
theorem Inv.step {g':Array GenState} {t':Nat} {d':Drawn} {ch:List Addr} (I:Inv X pins σ H s)
 (hch:∀ b ∈ ch,(b ∈ X.ex\/X.s₀.heap.objs.size<=b)/\b ≠ X.env.locals/\(∀ x c,X.env.cells.lookup x=some c->c ≠ b)/\∀ p ∈ X.pn++pins,p.1 ≠ b)
 (keep:∀ b o,b ≠ X.env.locals->b ∉ X.fs->b ∉ ch->s.heap.get? b=some o->H b=none->h'.get? b=some o)
 (slot:∀ b o,b ≠ X.env.locals->b ∈ X.fs->b ∉ ch->s.heap.get? b=some o->H b=none->∃ sl,h'.get? b=some { o with slots:=sl }) (free:∀ b o,b ∉ ch->s.heap.get? b=some o->H b=none->H' b=none)
 (there:∀ b o,b ∉ ch->s.heap.get? b=some o->∃ o',h'.get? b=some o')
 (tups:∀ b xs,H b=some (.tup xs)->H' b=some (.tup xs)) (frzs:∀ b o u,H b=some (.frz o u)->H' b=some (.frz o u)) (tbls:∀ b ps,H b=some (.tbl ps)->∃ more,H' b=some (.tbl (ps++more)))
 (ns:∀ m,s.heap.Ns X.env.locals m->h'.Ns X.env.locals m) (hok:HOk X.prog X.w H' h') (hg:AllBare g') :
 Inv X pins σ H' { s with heap:=h',gens:=g',drawn:=d',toks:=t' }:=by
 have neL:∀ b o,X.s₀.heap.get? b=some o->b ≠ X.env.locals:=fun b o e=>Nat.ne_of_lt (Nat.lt_of_lt_of_le (Heap.lt_size e) I.ok.above)
 have neC:∀ b o,X.s₀.heap.get? b=some o->b ∉ X.ex->b ∉ ch:=fun b o e hx hb=>by
  rcases (hch b hb).1 with z | z
  ·exact hx z
  ·exact absurd (Nat.lt_of_lt_of_le (Heap.lt_size e) z) (Nat.lt_irrefl _)
 have cellK:∀ x c,X.env.cells.lookup x=some c->∀ v,s.heap.IsCell c v->h'.IsCell c v:=fun x c e v ⟨o,ho,hd⟩=>by
  have nch:c ∉ ch:=fun z=>(hch c z).2.2.1 x c e rfl
  by_cases hc:c ∈ X.fs
  ·obtain ⟨sl,q⟩:=slot c o (I.cne x c e) hc nch ho (I.freeC x c e)
   exact ⟨_,q,hd⟩
  ·exact ⟨o,keep c o (I.cne x c e) hc nch ho (I.freeC x c e),hd⟩
 refine ⟨I.ok,I.os,hg,⟨fun b o e n hb hx=>?_,fun b o e n hb hx=>?_,fun b o e n hx=>?_,fun b o e hx=>?_,fun b xs e=>tups b xs (I.base.tups b xs e),fun b o xs e=>frzs b o xs (I.base.frzs b o xs e),fun b ps e=>?_⟩,?_,fun x c e=>?_,?_,fun x c e=>?_,fun p hp=>?_,hok,I.len⟩
 ·exact keep b o (neL b o e) hb (neC b o e hx) (I.base.keep b o e n hb hx) (I.base.free b o e n hx)
 ·obtain ⟨sl,e1⟩:=I.base.slot b o e n hb hx
  obtain ⟨sl',e2⟩:=slot b _ (neL b o e) hb (neC b o e hx) e1 (I.base.free b o e n hx)
  exact ⟨sl',e2⟩
 ·obtain ⟨o',e1⟩:=I.base.there b o e hx
  exact free b o' (neC b o e hx) e1 (I.base.free b o e n hx)
 ·obtain ⟨o',e1⟩:=I.base.there b o e hx
  exact there b o' (neC b o e hx) e1
 ·obtain ⟨m1,e1⟩:=I.base.tbls b ps e
  obtain ⟨m2,e2⟩:=tbls b _ e1
  exact ⟨m1++m2,by rw [e2,Array.append_assoc]⟩
 ·obtain ⟨m,hn,hl⟩:=I.loc
  refine ⟨m,ns m hn,fun i x v e1 e2 e3=>?_⟩
  obtain ⟨u,r,l⟩:=hl i x v e1 e2 e3
  refine ⟨u,r,?_⟩
  rcases l with l | ⟨k,c,e,z⟩
  ·exact .inl l
  ·exact .inr ⟨k,c,e,cellK x c e _ z⟩
 ·obtain ⟨v,z⟩:=I.cell x c e
  exact ⟨v,cellK x c e v z⟩
 ·obtain ⟨m,⟨o,_,_,ho,_⟩,_⟩:=I.loc
  exact free _ o (fun z=>(hch _ z).2.1 rfl) ho I.free
 ·obtain ⟨v,o,ho,hd⟩:=I.cell x c e
  exact free c o (fun z=>(hch c z).2.2.1 x c e rfl) ho (I.freeC x c e)
 ·obtain ⟨e,n,ne,nf,d⟩:=I.pin p hp
  have nch:p.1 ∉ ch:=fun z=>(hch p.1 z).2.2.2 p hp rfl
  exact ⟨keep p.1 p.2 ne nf nch e n,free p.1 p.2 nch e n,ne,nf,d⟩
theorem Inv.un {t':Nat} (I:Inv X pins σ H s) (u:Un X.fs [] H H' s.heap h') (hok:HOk X.prog X.w H' h'):Inv X pins σ H' { s with heap:=h',toks:=t' }:=by
 obtain ⟨m,⟨o,es,ep,ho,r⟩,_⟩:=id I.loc
 obtain ⟨sl,hL⟩:=u.any ho I.free (by simp)
 exact I.step (g':=s.gens) (d':=s.drawn) (ch := []) (fun _ z=>nomatch z) (fun b o _ hb _ e n=>u.keep b o e n hb (by simp)) (fun b o _ hb _ e n=>u.slot b o e n hb (by simp)) (fun b o _ e n=>u.free b o e n (by simp)) (fun b o _ e=>u.there b o e (by simp)) u.tups u.frzs u.tbls (fun m' hm=>by
  obtain ⟨o',es',ep',ho',r'⟩:=hm
  rw [ho] at ho';cases ho'
  exact ⟨_,es',ep',hL,r'⟩) hok I.bare
theorem Inv.call {g':Array GenState} {t':Nat} {d':Drawn} {ch:List Addr} (I:Inv X pins σ H s) (u:Un (frs X.stack) ch H H' s.heap h') (hok:HOk X.prog X.w H' h') (hg:AllBare g')
 (hch:∀ b ∈ ch,(b ∈ X.ex\/X.s₀.heap.objs.size<=b)/\b ≠ X.env.locals/\(∀ x c,X.env.cells.lookup x=some c->c ≠ b)/\∀ p ∈ X.pn++pins,p.1 ≠ b) :
 Inv X pins σ H' { s with heap:=h',gens:=g',drawn:=d',toks:=t' }:=by
 obtain ⟨m,⟨o,es,ep,ho,r⟩,_⟩:=id I.loc
 obtain ⟨sl,hL⟩:=u.any ho I.free fun z=>(hch _ z).2.1 rfl
 exact I.step (ch:=ch) hch (fun b o hL hb hc e n=>u.keep b o e n (fun z=>(List.mem_cons.mp (I.stkSub b z)).elim hL hb) hc) (fun b o _ _ hc e n=>u.any e n hc) (fun b o hc e n=>u.free b o e n hc) (fun b o hc e=>u.there b o e hc) u.tups u.frzs u.tbls (fun m' hm=>by
  obtain ⟨o',es',ep',ho',r'⟩:=hm
  rw [ho] at ho';cases ho'
  exact ⟨_,es',ep',hL,r'⟩) hok hg
theorem Inv.turned {t':Nat} {it:Addr} (I:Inv X pins σ H s) (k:∀ b o,b ≠ it->s.heap.get? b=some o->h'.get? b=some o) (hn:H it=none) (hL:it ≠ X.env.locals)
 (h1:it ∈ X.ex\/X.s₀.heap.objs.size<=it) (h2:∀ x c,X.env.cells.lookup x=some c->c ≠ it) (h3:∀ p ∈ X.pn++pins,p.1 ≠ it):Inv X pins σ H { s with heap:=h',toks:=t' }:=by
 have nit:∀ b u,H b=some u->b ≠ it:=fun b u e z=>by rw [z,hn] at e;cases e
 refine I.step (g':=s.gens) (d':=s.drawn) (ch := [it]) (fun b hb=>?_) (fun b o _ _ hc e _=>k b o (fun z=>hc (by simp [z])) e) (fun b o _ _ hc e _=>⟨o.slots,k b o (fun z=>hc (by simp [z])) e⟩) (fun _ _ _ _ n=>n)
  (fun b o hc e=>⟨o,k b o (fun z=>hc (by simp [z])) e⟩) (fun _ _ e=>e) (fun _ _ _ e=>e) (fun b ps e=>⟨#[],by rw [e];simp⟩) (fun m hm=>?_) (fun b u e=>?_) I.bare
 ·have e:b=it:=by simpa using hb
  subst e
  exact ⟨h1,hL,h2,h3⟩
 ·obtain ⟨o,es,ep,ho,r⟩:=hm
  exact ⟨o,es,ep,k _ o (Ne.symm hL) ho,r⟩
 ·refine (I.hok b u e).stay (fun c v hc q=>k c v ?_ q) (fun _ q=>q) fun _ _ q=>q
  rcases hc with z | z
  ·rw [z];exact nit b u e
  ·exact nit c _ z
theorem Inv.tok (I:Inv X pins σ H s) (t:Nat):Inv X pins σ H { s with toks:=t }:=I.un (h':=s.heap) (t':=t) Un.refl I.hok
theorem Inv.kept {t':Nat} (I:Inv X pins σ H s) (k:∀ b u,s.heap.get? b=some u->h'.get? b=some u):Inv X pins σ H { s with heap:=h',toks:=t' }:=I.un (Un.kept k) (I.hok.kept k)
theorem Inv.laid {a:Addr} {o:HO} {t':Nat} (I:Inv X pins σ H s) (k:∀ b u,s.heap.get? b=some u->h'.get? b=some u) (hp:s.heap.objs.size<=a) (new:ObjOk X.prog X.w (upd H a o) h' a o) :
 Inv X pins σ (upd H a o) { s with heap:=h',toks:=t' }:=I.un (Un.laid k hp (I.hok.fresh hp)) (I.hok.laid k hp new)
theorem Inv.write {x e:Addr} {o:HO} {t':Nat} (I:Inv X pins σ H s) (mu:Mut (H x)) (he:e=x\/H e=some (.own x)) (k:∀ b u,b ≠ e->s.heap.get? b=some u->h'.get? b=some u) (heo:∃ u,h'.get? e=some u)
 (new:ObjOk X.prog X.w (upd H x o) h' x o):Inv X pins σ (upd H x o) { s with heap:=h',toks:=t' }:=I.un (Un.write mu he k heo) (I.hok.write mu he k heo new)
theorem Inv.weak {σ':List (Option V)} (I:Inv X pins σ H s) (hl:σ'.length=σ.length) (w:∀ (i:Nat) v,σ'[i]? = some (some v)->σ[i]? = some (some v)):Inv X pins σ' H s :=
 ⟨I.ok,I.os,I.bare,I.base,let ⟨m,hn,hl'⟩:=I.loc; ⟨m,hn,fun i x v e1 e2 e3=>hl' i x v e1 (w i v e2) e3⟩,I.cell,I.free,I.freeC,I.pin,I.hok,hl.trans I.len⟩
theorem Inv.pins_of {pins':List (Addr × Obj)} (I:Inv X pins σ H s) (h:∀ p ∈ pins',s.heap.get? p.1=some p.2/\H p.1=none/\p.1 ≠ X.env.locals/\p.1 ∉ X.fs/\∀ v,p.2.data ≠ .cell v):Inv X pins' σ H s :=
 ⟨I.ok,I.os,I.bare,I.base,I.loc,I.cell,I.free,I.freeC,fun p hp=>(List.mem_append.mp hp).elim (fun z=>I.pin p (List.mem_append_left _ z)) (h p),I.hok,I.len⟩
theorem nodup_ix {N:List Str} (hN:N.Nodup) {i j:Nat} {x:Str} (a:N[i]? = some x) (b:N[j]? = some x):i=j:=by
 obtain ⟨h1,e1⟩:=List.getElem?_eq_some_iff.mp a
 obtain ⟨h2,e2⟩:=List.getElem?_eq_some_iff.mp b
 exact (List.getElem_inj hN).mp (e1.trans e2.symm)
theorem store_ok2 {M:Model} {A:Around} {E:Value->Shared->Prop} {i:Nat} {x:Str} {v:V} {u:Value} {Q:Unit->Shared->Prop} (I:Inv X pins σ H s) (hN:X.N.Nodup) (hi:X.N[i]? = some x) (hx:Loc X.env.scope x) (r:RelV v u)
 (h:∀ s',Inv X pins (σ.set i (some v)) H s'->(∃ a,Heap.SameBut a s.heap s'.heap/\(a=X.env.locals\/X.env.cells.lookup x=some a))->Q () s') (hf:X.fn x=true\/X.env.scope.names.lookup x=some .local:=by first | exact .inl rfl | exact .inr rfl | assumption):wpAny M A (storeName X.env x u) Q E s:=by
 obtain ⟨m,hn,hl⟩:=id I.loc
 have hcls:(X.env.scope.kind == .class || (X.env.scope.kind == .module && X.env.locals != X.env.globals))=false:=by rw [I.ok.kind];rfl
 have hiσ:i<σ.length:=by rw [I.len];exact (List.getElem?_eq_some_iff.mp hi).1
 have cne:=I.cne
 have tracked:∀ {a:Addr} {h':Heap},(∃ o,s.heap.get? a=some o/\H a=none)->Heap.SameBut a s.heap h'->HOk X.prog X.w H h':=fun {a h'} ha hs b ob e=>by
  obtain ⟨_,_,hfree⟩:=ha
  refine (I.hok b ob e).stay (fun c w' hc q=>(hs.2 c ?_).trans q) (fun _ q=>q) fun _ _ q=>q
  rintro rfl
  rcases hc with rfl | hc
  ·rw [hfree] at e;cases e
  ·rw [hfree] at hc;cases hc
 rcases hx with hk | hk
 ·refine wpAny_storeName_local hk hn (fun h' hn' hs=>?_) hcls
  obtain ⟨oL,_,_,hoL,_⟩:=id hn
  refine h _ ⟨I.ok,I.os,I.bare,⟨fun b o e n hb hx=>?_,fun b o e n hb hx=>?_,I.base.free,fun b o e hx=>?_,I.base.tups,I.base.frzs,I.base.tbls⟩,⟨_,hn',fun j y v' e1 e2 e3=>?_⟩,fun y c e=>?_,I.free,I.freeC,fun p hp=>?_,tracked ⟨oL,hoL,I.free⟩ hs,by simpa using I.len⟩ ⟨_,hs,.inl rfl⟩
  ·exact (hs.2 b (Nat.ne_of_lt (Nat.lt_of_lt_of_le (Heap.lt_size e) I.ok.above))).trans (I.base.keep b o e n hb hx)
  ·obtain ⟨sl,e1⟩:=I.base.slot b o e n hb hx
   exact ⟨sl,(hs.2 b (Nat.ne_of_lt (Nat.lt_of_lt_of_le (Heap.lt_size e) I.ok.above))).trans e1⟩
  ·obtain ⟨o',e1⟩:=I.base.there b o e hx
   exact ⟨o',(hs.2 b (Nat.ne_of_lt (Nat.lt_of_lt_of_le (Heap.lt_size e) I.ok.above))).trans e1⟩
  ·by_cases hj:j=i
   ·subst hj
    rw [hi] at e1;cases e1
    rw [List.getElem?_set_self hiσ] at e2
    cases e2
    exact ⟨u,r,.inl ⟨hk,by simp⟩⟩
   ·rw [List.getElem?_set_ne (Ne.symm hj)] at e2
    obtain ⟨u',r',q⟩:=hl j y v' e1 e2 e3
    refine ⟨u',r',?_⟩
    rcases q with ⟨k,e⟩ | ⟨k,c,e,z⟩
    ·refine .inl ⟨k,?_⟩
     have:y ≠ x:=fun e=>hj (nodup_ix hN e1 (e ▸ hi))
     simp [this,e]
    ·exact .inr ⟨k,c,e,z.sameBut hs (cne y c e)⟩
  ·obtain ⟨w',z⟩:=I.cell y c e
   exact ⟨w',z.sameBut hs (cne y c e)⟩
  ·obtain ⟨e,n,ne,nf,d⟩:=I.pin p hp
   exact ⟨(hs.2 p.1 ne).trans e,n,ne,nf,d⟩
 ·have hfn:X.fn x=true:=by
   rcases hf with z | z
   ·exact z
   ·rw [z] at hk;cases hk
  obtain ⟨c,hc⟩:=I.ok.has x (.inl hk)
  obtain ⟨w',z⟩:=I.cell x c hc
  refine wpAny_storeName_cell I.ok.kind hk hc z (fun h' hc' hs=>?_)
  obtain ⟨oc,hoc,hocd⟩:=id z
  refine h { s with heap:=h' } ⟨I.ok,I.os,I.bare,⟨fun b o e n hb hx=>?_,fun b o e n hb hx=>?_,I.base.free,fun b o e hx=>?_,I.base.tups,I.base.frzs,I.base.tbls⟩,⟨m,hn.sameBut hs (Ne.symm (cne x c hc)),fun j y v' e1 e2 e3=>?_⟩,fun y c' e=>?_,I.free,I.freeC,fun p hp=>?_,tracked ⟨oc,hoc,I.freeC x c hc⟩ hs,by simpa using I.len⟩ ⟨c,hs,.inr hc⟩
  ·exact (hs.2 b (Nat.ne_of_lt (Nat.lt_of_lt_of_le (Heap.lt_size e) (I.ok.cab x c hfn hc)))).trans (I.base.keep b o e n hb hx)
  ·obtain ⟨sl,e1⟩:=I.base.slot b o e n hb hx
   exact ⟨sl,(hs.2 b (Nat.ne_of_lt (Nat.lt_of_lt_of_le (Heap.lt_size e) (I.ok.cab x c hfn hc)))).trans e1⟩
  ·obtain ⟨o',e1⟩:=I.base.there b o e hx
   exact ⟨o',(hs.2 b (Nat.ne_of_lt (Nat.lt_of_lt_of_le (Heap.lt_size e) (I.ok.cab x c hfn hc)))).trans e1⟩
  ·by_cases hj:j=i
   ·subst hj
    rw [hi] at e1;cases e1
    rw [List.getElem?_set_self hiσ] at e2
    cases e2
    exact ⟨u,r,.inr ⟨.inl hk,c,hc,hc'⟩⟩
   ·rw [List.getElem?_set_ne (Ne.symm hj)] at e2
    obtain ⟨u',r',q⟩:=hl j y v' e1 e2 e3
    refine ⟨u',r',?_⟩
    rcases q with q | ⟨k,c',e,z'⟩
    ·exact .inl q
    ·refine .inr ⟨k,c',e,z'.sameBut hs ?_⟩
     rintro rfl
     exact hj (nodup_ix hN e1 (I.ok.inj _ _ _ e hc ▸ hi))
  ·by_cases hcc:c'=c
   ·subst hcc;exact ⟨_,hc'⟩
   ·obtain ⟨w2,z2⟩:=I.cell y c' e
    exact ⟨w2,z2.sameBut hs hcc⟩
  ·obtain ⟨e,n,ne,nf,d⟩:=I.pin p hp
   refine ⟨(hs.2 p.1 ?_).trans e,n,ne,nf,d⟩
   intro q
   rw [q,hoc] at e
   have q':oc=p.2:=Option.some.inj e
   exact d w' (by rw [<- q'];exact hocd)
theorem store_ok {M:Model} {A:Around} {E:Value->Shared->Prop} {i:Nat} {x:Str} {v:V} {u:Value} {Q:Unit->Shared->Prop} (I:Inv X pins σ H s) (hN:X.N.Nodup) (hi:X.N[i]? = some x) (hx:Loc X.env.scope x) (r:RelV v u)
 (h:∀ s',Inv X pins (σ.set i (some v)) H s'->Q () s') (hf:X.fn x=true\/X.env.scope.names.lookup x=some .local:=by first | exact .inl rfl | exact .inr rfl | assumption):wpAny M A (storeName X.env x u) Q E s :=
 store_ok2 I hN hi hx r (fun s' I' _=>h s' I') hf
theorem Inv.call' {s':Shared} {ch:List Addr} (I:Inv X pins σ H s) (ho:s'.os=s.os) (u:Un (frs X.stack) ch H H' s.heap s'.heap) (hok:HOk X.prog X.w H' s'.heap) (hg:AllBare s'.gens)
 (hch:∀ b ∈ ch,(b ∈ X.ex\/X.s₀.heap.objs.size<=b)/\b ≠ X.env.locals/\(∀ x c,X.env.cells.lookup x=some c->c ≠ b)/\∀ p ∈ X.pn++pins,p.1 ≠ b):Inv X pins σ H' s':=by
 obtain ⟨h',g',d',t',o'⟩:=s'
 have e:o'=s.os:=ho
 subst e
 exact I.call (g':=g') (t':=t') (d':=d') u hok hg hch
end
abbrev XK:=Value->Option Addr->Hp->Prop
abbrev St:=List (Option V)
abbrev VK:=V->Hp->Prop
abbrev TE:=St->Hp->VK->Prop
abbrev TT:=St->Hp->(Bool->Hp->Prop)->Prop
abbrev TA:=St->Hp->(List V->Hp->Prop)->Prop
structure Ends where
 nx:St->Hp->Prop
 rt:VK
 bk:St->Hp->Prop:=fun _ _=>False
 ct:St->Hp->Prop:=fun _ _=>False
abbrev TS:=Ends->St->Hp->Prop
def EP (X:Cx) (pins:List (Addr × Obj)) (σ:St) (Q:VK) (u:Value) (s':Shared):Prop:=∃ v H',Inv X pins σ H' s'/\RelV v u/\Q v H'
def TP (X:Cx) (pins:List (Addr × Obj)) (σ:St) (Q:Bool->Hp->Prop) (b:Bool) (s':Shared):Prop:=∃ H',Inv X pins σ H' s'/\Q b H'
def AP (X:Cx) (pins:List (Addr × Obj)) (σ:St) (Q:List V->Hp->Prop) (us:List Value) (s':Shared):Prop:=∃ vs H',Inv X pins σ H' s'/\Vals vs us/\Q vs H'
def SP (X:Cx) (pins:List (Addr × Obj)) (D:Ends) (f:Flow) (s':Shared):Prop :=
 match f with
 | .next=>∃ σ' H',Inv X pins σ' H' s'/\D.nx σ' H'
 | .brk=>∃ σ' H',Inv X pins σ' H' s'/\D.bk σ' H'
 | .cont=>∃ σ' H',Inv X pins σ' H' s'/\D.ct σ' H'
 | .ret u=>∃ v σ' H',Inv X pins σ' H' s'/\RelV v u/\D.rt v H'
def PE (X:Cx) (e:Expr) (t:TE):Prop :=
 ∀ (pins:List (Addr × Obj)) (s:Shared) (σ:St) (H:Hp) (Q:VK),Inv X pins σ H s->t σ H Q->wpAny (model X.prog X.w) X.A (eval e X.env) (EP X pins σ Q) X.xe s
def PT (X:Cx) (e:Expr) (t:TT):Prop :=
 ∀ (pins:List (Addr × Obj)) (s:Shared) (σ:St) (H:Hp) (Q:Bool->Hp->Prop),Inv X pins σ H s->t σ H Q->wpAny (model X.prog X.w) X.A (isTrue e X.env (eval e X.env)) (TP X pins σ Q) X.xe s
def PW (X:Cx) (e:Expr) (t:TT):Prop :=
 ∀ (whole:Sem Value) (pins:List (Addr × Obj)) (s:Shared) (σ:St) (H:Hp) (Q:Bool->Hp->Prop),Inv X pins σ H s->t σ H Q->wpAny (model X.prog X.w) X.A (isTrue e X.env whole) (TP X pins σ Q) X.xe s
theorem PW.pt {X:Cx} {e:Expr} {t:TT} (h:PW X e t):PT X e t:=h _
def PA (X:Cx) (es:List Expr) (t:TA):Prop :=
 ∀ (pos:Pos) (pins:List (Addr × Obj)) (s:Shared) (σ:St) (H:Hp) (Q:List V->Hp->Prop),Inv X pins σ H s->t σ H Q->wpAny (model X.prog X.w) X.A (spliced (backTo pos (starEach es X.env))) (AP X pins σ Q) X.xe s
def PS (X:Cx) (st:Stmt) (t:TS):Prop :=
 ∀ (pins:List (Addr × Obj)) (s:Shared) (σ:St) (H:Hp) (D:Ends),Inv X pins σ H s->t D σ H->wpAny (model X.prog X.w) X.A (exec st X.env) (SP X pins D) X.xe s
def PSs (X:Cx) (st:List Stmt) (t:TS):Prop :=
 ∀ (pins:List (Addr × Obj)) (s:Shared) (σ:St) (H:Hp) (D:Ends),Inv X pins σ H s->t D σ H->wpAny (model X.prog X.w) X.A (execs st X.env) (SP X pins D) X.xe s
theorem thn {α:Type} {t:Sem α} {Q Q':α->Shared->Prop} {M:Model} {A:Around} {E:Value->Shared->Prop} {s:Shared} (h:wpAny M A t Q E s) (hQ:∀ a s,Q a s->Q' a s):wpAny M A t Q' E s:=wpAny_mono h hQ fun _ _ x=>x
end L2
namespace L2
open PySem PySem.Spec PyProof.Rows
section
variable {X : Cx}
def tVar (i:Nat):TE:=fun σ H Q=>∃ v,σ[i]? = some (some v)/\Q v H
def tC (v:V):TE:=fun _ H Q=>Q v H
theorem pe_var {i:Nat} {x:Str} {pos:Pos} (hN:X.N[i]? = some x) (hv:Vis X.env.scope x) (hd:(x == ("__debug__" : Str))=false:=by decide) (hcd:(x == ("__classdict__" : Str))=false:=by decide):PE X (.Name x pos) (tVar i):=by
 intro pins s σ H Q I h
 obtain ⟨v,e,h⟩:=h
 obtain ⟨m,hn,hl⟩:=I.loc
 obtain ⟨u,r,l⟩:=hl i x v hN e hv
 have fin:EP X pins σ Q u s:=⟨v,H,I,r,h⟩
 rcases l with ⟨hk,hm⟩ | ⟨hk,c,hc,hcell⟩
 ·exact wpAny_Name (wpAny_loadName_local I.ok.kind hk hn hm fin) hd
 ·rcases hk with hk | hk
  ·exact wpAny_Name (wpAny_loadName_cell I.ok.kind hk hc hcell fin) hd
  ·exact wpAny_Name (wpAny_loadName_free I.ok.kind hk hc hcell fin hcd) hd
theorem pe_int {i j pos}:PE X (.Constant (.int i) j pos) (tC (.int i)):=fun _ _ _ H _ I h=>wpAny_Constant_int ⟨.int i,H,I.tok _,⟨_,rfl⟩,h⟩
theorem pe_bl {b j pos}:PE X (.Constant (.bool b) j pos) (tC (.bl b)):=fun _ _ _ H _ I h=>Constant_bool ⟨.bl b,H,I,rfl,h⟩
theorem pe_str {x j pos}:PE X (.Constant (.str x) j pos) (tC (.str x)):=fun _ _ _ H _ I h=>Calls.Constant_str ⟨.str x,H,I.tok _,⟨_,rfl⟩,h⟩
def Gl (X:Cx) (x:Str):Prop:=X.env.kindOf x=some .globalImplicit
theorem ld_glob {E:Value->Shared->Prop} {pins:List (Addr × Obj)} {s:Shared} {σ:St} {H:Hp} {x:Str} {u:Value} {pos:Pos} {Q:Value->Shared->Prop} (I:Inv X pins σ H s) (hg:Gl X x) (hm:X.mg x=some u) (h:Q u s)
 (hd:(x == ("__debug__" : Str))=false:=by decide):wpAny (model X.prog X.w) X.A (eval (.Name x pos) X.env) Q E s :=
 Calls.Name_function_global I.ok.kind hg (Calls.loadGlobal_global (by rw [I.ok.glob];exact I.mod.glob.keeps I.bk) hm h) hd
theorem ld_blt {E:Value->Shared->Prop} {pins:List (Addr × Obj)} {s:Shared} {σ:St} {H:Hp} {x:Str} {u:Value} {pos:Pos} {Q:Value->Shared->Prop} (I:Inv X pins σ H s) (hg:Gl X x) (hm:X.mg x=none) (hv:bootBuiltins x=some u) (h:Q u s)
 (hn:x ≠ "__name__" := by decide) (hd:(x == ("__debug__" : Str))=false:=by decide):wpAny (model X.prog X.w) X.A (eval (.Name x pos) X.env) Q E s:=by
 obtain ⟨mb,h1,h2⟩:=I.mod.blt
 exact Calls.Name_function_global I.ok.kind hg (Calls.loadGlobal_builtin (by rw [I.ok.glob];exact I.mod.glob.keeps I.bk) hm (by rw [I.ok.blt];exact h1.keeps I.bk) ((h2 x hn).trans hv) h) hd
theorem pe_glob {x:Str} {v:V} {u:Value} {pos:Pos} (hg:Gl X x) (hm:X.mg x=some u) (r:RelV v u) (hd:(x == ("__debug__" : Str))=false:=by decide):PE X (.Name x pos) (tC v) :=
 fun _ _ _ H _ I h=>ld_glob I hg hm ⟨v,H,I,r,h⟩ hd
variable {a b : Expr} {ta tb : TE} {pos : Pos}
def PC (X:Cx) (op:CmpOp) (a b:Expr) (t:TE):Prop :=
 ∀ (pins:List (Addr × Obj)) (s:Shared) (σ:St) (H:Hp) (Q:VK),Inv X pins σ H s->t σ H Q ->
   wpAny (model X.prog X.w) X.A (eval a X.env) (fun v s₁=>wpAny (model X.prog X.w) X.A (eval b X.env) (fun u s₂=>wpAny (model X.prog X.w) X.A (compareOp op v u) (EP X pins σ Q) X.xe s₂) X.xe s₁) X.xe s
def tB (t:TE):TT:=fun σ H Q=>t σ H fun x H1=>∃ c,x = .bl c/\Q c H1
theorem pt_cmp {op:CmpOp} {t:TE} (h:PC X op a b t) (h1:behindInMarks op b=false:=by first | exact nobehind _ (by decide) (by decide) | rfl):PT X (.Compare a [op] [b] pos) (tB t):=by
 intro pins s σ H Q I hw
 refine wpAny_isTrue_Compare1 (thn (h pins s σ H _ I hw) fun v s1 h1=>thn h1 fun u s2 h2=>thn h2 fun c s3 ⟨x,H1,I1,r1,q1⟩=>?_) h1
 obtain ⟨d,rfl,q⟩:=q1
 cases r1
 exact wpAny_truthy_bool ⟨H1,I1,q⟩
theorem pt_val {e:Expr} {t:TE} (h:PE X e t) (he:∀ whole,isTrue e X.env whole=(do let v <- whole;standAt e.pos;holding [v] (truthy v)):=by intro _;rfl):PT X e (tB t):=by
 intro pins s σ H Q I hw
 refine isTrue_plain (thn (h pins s σ H _ I hw) fun v s1 ⟨x,H1,I1,r1,q1⟩=>?_) (he _)
 obtain ⟨d,rfl,q⟩:=q1
 cases r1
 exact wpAny_truthy_bool ⟨H1,I1,q⟩
variable {tA tB' : TT} {rest : List Expr}
def tAnd (t u:TT):TT:=fun σ H Q=>t σ H fun c H1=>if c=true then u σ H1 Q else Q false H1
def tOr (t u:TT):TT:=fun σ H Q=>t σ H fun c H1=>if c=true then Q true H1 else u σ H1 Q
def tNot (t:TT):TT:=fun σ H Q=>t σ H fun c H1=>Q (!c) H1
theorem pw_and1 (ha:PT X a tA):PW X (.BoolOp .And [a] pos) tA:=by
 intro wh pins s σ H Q I h
 refine isTrue_and (thn (ha pins s σ H Q I h) fun c s1 e=>?_)
 cases c with
 | true=>exact isTrue_and_nil e
 | false=>exact e
theorem pw_or1 (ha:PT X a tA):PW X (.BoolOp .Or [a] pos) tA:=by
 intro wh pins s σ H Q I h
 refine isTrue_or (thn (ha pins s σ H Q I h) fun c s1 e=>?_)
 cases c with
 | false=>exact isTrue_or_nil e
 | true=>exact e
theorem pw_and (ha:PT X a tA) (hb:PW X (.BoolOp .And (b::rest) pos) tB'):PW X (.BoolOp .And (a::b::rest) pos) (tAnd tA tB'):=by
 intro wh pins s σ H Q I h
 refine isTrue_and (thn (ha pins s σ H _ I h) fun c s1 ⟨H1,I1,q1⟩=>?_)
 cases c with
 | true=>exact hb wh pins s1 σ H1 Q I1 q1
 | false=>exact ⟨H1,I1,q1⟩
theorem pw_or (ha:PT X a tA) (hb:PW X (.BoolOp .Or (b::rest) pos) tB'):PW X (.BoolOp .Or (a::b::rest) pos) (tOr tA tB'):=by
 intro wh pins s σ H Q I h
 refine isTrue_or (thn (ha pins s σ H _ I h) fun c s1 ⟨H1,I1,q1⟩=>?_)
 cases c with
 | true=>exact ⟨H1,I1,q1⟩
 | false=>exact hb wh pins s1 σ H1 Q I1 q1
theorem pt_not (ha:PT X a tA):PT X (.UnaryOp .Not a pos) (tNot tA):=by
 intro pins s σ H Q I h
 exact isTrue_not (ha pins s σ H (fun c H1=>Q (!c) H1) I h)
def tAndV (ta tb:TE):TE:=fun σ H Q=>ta σ H fun x H1=>∃ c,x = .bl c/\if c=true then tb σ H1 Q else Q (.bl false) H1
def tOrV (ta tb:TE):TE:=fun σ H Q=>ta σ H fun x H1=>∃ c,x = .bl c/\if c=true then Q (.bl true) H1 else tb σ H1 Q
def tNotV (ta:TE):TE:=fun σ H Q=>ta σ H fun x H1=>∃ c,x = .bl c/\Q (.bl (!c)) H1
theorem pe_one {op} {t:TE} (h:PE X a t):PE X (.BoolOp op [a] pos) t:=fun pins s σ H Q I hw=>BoolOp_one (h pins s σ H Q I hw)
theorem pe_and (ha:PE X a ta) (hb:PE X (.BoolOp .And (b::rest) pos) tb):PE X (.BoolOp .And (a::b::rest) pos) (tAndV ta tb):=by
 intro pins s σ H Q I h
 refine BoolOp_and (thn (ha pins s σ H _ I h) fun v s1 ⟨x,H1,I1,r1,q1⟩=>?_)
 obtain ⟨c,rfl,q1⟩:=q1
 cases r1
 refine wpAny_truthy_bool ?_
 cases c with
 | true=>exact hb pins s1 σ H1 Q I1 q1
 | false=>exact ⟨.bl false,H1,I1,rfl,q1⟩
theorem pe_or (ha:PE X a ta) (hb:PE X (.BoolOp .Or (b::rest) pos) tb):PE X (.BoolOp .Or (a::b::rest) pos) (tOrV ta tb):=by
 intro pins s σ H Q I h
 refine BoolOp_or (thn (ha pins s σ H _ I h) fun v s1 ⟨x,H1,I1,r1,q1⟩=>?_)
 obtain ⟨c,rfl,q1⟩:=q1
 cases r1
 refine wpAny_truthy_bool ?_
 cases c with
 | false=>exact hb pins s1 σ H1 Q I1 q1
 | true=>exact ⟨.bl true,H1,I1,rfl,q1⟩
theorem pe_not (ha:PE X a ta):PE X (.UnaryOp .Not a pos) (tNotV ta):=by
 intro pins s σ H Q I h
 refine UnaryOp_ (thn (ha pins s σ H _ I h) fun v s1 ⟨x,H1,I1,r1,q1⟩=>?_)
 obtain ⟨c,rfl,q1⟩:=q1
 cases r1
 exact not_of (wpAny_truthy_bool ⟨.bl (!c),H1,I1,rfl,q1⟩)
def tIf (t:TT) (ta tb:TE):TE:=fun σ H Q=>t σ H fun c H1=>if c=true then ta σ H1 Q else tb σ H1 Q
theorem pe_ifExp {c:Expr} (hc:PT X c tA) (ha:PE X a ta) (hb:PE X b tb):PE X (.IfExp c a b pos) (tIf tA ta tb):=by
 intro pins s σ H Q I h
 refine wpAny_IfExp (thn (hc pins s σ H _ I h) fun d s1 ⟨H1,I1,q1⟩=>?_)
 cases d with
 | true=>exact ha pins s1 σ H1 Q I1 q1
 | false=>exact hb pins s1 σ H1 Q I1 q1
end
end L2
namespace L2
open PySem PySem.Spec PyProof.Rows
def SqL (K:PySem.W.Frag) (H:Hp) (a:Addr) (xs:List V):Prop :=
 Rd H a (.lst xs) \/
  ∃ (o:Obj) (its:Array Value) (n:Nat),K.lookup a=some o/\o.cls = .type "list" /\ o.dict=none/\o.data = .seq its n/\its.size<=sizeLine/\Vals xs its.toList
def SqT (K:PySem.W.Frag) (H:Hp) (a:Addr) (xs:List V):Prop :=
 Rd H a (.tup xs) \/
  ∃ (o:Obj) (its:Array Value) (n:Nat),K.lookup a=some o/\o.cls = .type "tuple" /\ o.data = .seq its n/\its.size<=sizeLine/\Vals xs its.toList
def absV:Value->Option V
 | .none=>some .non
 | .bool b=>some (.bl b)
 | .int i _=>some (.int i)
 | .str x _=>some (.str x)
 | .bytes b _=>some (.byt b)
 | .float b _=>some (.flt b)
 | .ref a=>some (.ref a)
 | .type n=>some (.ty n)
 | _=>none
theorem RelV.abs {x:V} {u:Value} (r:RelV x u):absV u=some x:=by
 cases x with
 | non=>cases r;rfl
 | bl _=>cases r;rfl
 | int _=>obtain ⟨t,rfl⟩:=r;rfl
 | str _=>obtain ⟨t,rfl⟩:=r;rfl
 | byt _=>obtain ⟨t,rfl⟩:=r;rfl
 | flt _=>obtain ⟨t,rfl⟩:=r;rfl
 | ref _=>cases r;rfl
 | ty _=>cases r;rfl
theorem RelV.inj {x y:V} {u:Value} (r:RelV x u) (q:RelV y u):x=y:=Option.some.inj (r.abs.symm.trans q.abs)
theorem Vals.inj:∀ {xs ys:List V} {us:List Value},Vals xs us->Vals ys us->xs=ys
 | _,_,_,.nil,.nil=>rfl
 | _,_,_,.cons r t,.cons r' t'=>by rw [r.inj r',Vals.inj t t']
section
variable {X : Cx} {pins : List (Addr × Obj)} {σ : St} {H : Hp} {s : Shared} {a : Addr} {xs ys : List V}
theorem SqL.of {K:PySem.W.Frag} (h:H a=some (.lst xs)):SqL K H a xs := .inl (.inl h)
theorem SqT.of {K:PySem.W.Frag} (h:H a=some (.tup xs)):SqT K H a xs := .inl (.inl h)
theorem Inv.list (I:Inv X pins σ H s) (h:SqL X.K H a xs):∃ its:List Value,Vals xs its/\PlainL s.heap a its.toArray/\xs.length<=sizeLine:=by
 rcases h with h | ⟨o,its,n,hk,hc,hd,hs,hz,r⟩
 ·obtain ⟨z,its,n,r,e⟩:=h.ok I.hok
  exact ⟨its,r,⟨_,n,e,rfl,rfl,rfl⟩,z⟩
 ·refine ⟨its.toList,r,⟨o,n,I.kIn a o hk,hc,hd,by simpa using hs⟩,?_⟩
  have e:=r.length
  simp only [Array.length_toList] at e
  omega
theorem Inv.tuple (I:Inv X pins σ H s) (h:SqT X.K H a xs):∃ its:List Value,Vals xs its/\IsTup s.heap a its.toArray/\xs.length<=sizeLine:=by
 rcases h with h | ⟨o,its,n,hk,hc,hs,hz,r⟩
 ·obtain ⟨z,its,r,p⟩:=h.ok I.hok
  exact ⟨its,r,p,z⟩
 ·refine ⟨its.toList,r,⟨o,I.kIn a o hk,hc,n,by simpa using hs⟩,?_⟩
  have e:=r.length
  simp only [Array.length_toList] at e
  omega
theorem Inv.list_inj (I:Inv X pins σ H s) (h:SqL X.K H a xs) (h':SqL X.K H a ys):xs=ys:=by
 obtain ⟨its,r,⟨o,n,e,_,_,d⟩,_⟩:=I.list h
 obtain ⟨its',r',⟨o',n',e',_,_,d'⟩,_⟩:=I.list h'
 rw [e] at e';cases e'
 rw [d] at d'
 injection d' with d1 _
 have:its=its':=by simpa using congrArg Array.toList d1
 subst this
 exact r.inj r'
theorem Inv.tuple_inj (I:Inv X pins σ H s) (h:SqT X.K H a xs) (h':SqT X.K H a ys):xs=ys:=by
 obtain ⟨its,r,⟨o,e,_,n,d⟩,_⟩:=I.tuple h
 obtain ⟨its',r',⟨o',e',_,n',d'⟩,_⟩:=I.tuple h'
 rw [e] at e';cases e'
 rw [d] at d'
 injection d' with d1 _
 have:its=its':=by simpa using congrArg Array.toList d1
 subst this
 exact r.inj r'
end
abbrev Cx.wish (X:Cx) (E:Value->Shared->Prop):Cx:={ X with xe:=E }
abbrev Cx.nox (X:Cx):Cx:=X.wish fun _ _=>False
theorem Cx.Ok.wish {X:Cx} (ok:X.Ok) (E:Value->Shared->Prop):(X.wish E).Ok :=
 ⟨ok.mod,ok.kind,ok.glob,ok.blt,ok.above,ok.inj,ok.has,ok.cab,ok.hd,ok.frames,ok.stk,ok.exf,ok.bs,ok.bsz,ok.noex,ok.exfs,ok.funs,ok.frf⟩
theorem Cx.Ok.unwish {X:Cx} {E:Value->Shared->Prop} (ok:(X.wish E).Ok):X.Ok :=
 ⟨ok.mod,ok.kind,ok.glob,ok.blt,ok.above,ok.inj,ok.has,ok.cab,ok.hd,ok.frames,ok.stk,ok.exf,ok.bs,ok.bsz,ok.noex,ok.exfs,ok.funs,ok.frf⟩
section
variable {X : Cx} {pins : List (Addr × Obj)} {σ : St} {H : Hp} {s : Shared} {E : Value → Shared → Prop}
theorem Inv.wish (I:Inv X pins σ H s) (E:Value->Shared->Prop):Inv (X.wish E) pins σ H s:=⟨I.ok.wish E,I.os,I.bare,I.base,I.loc,I.cell,I.free,I.freeC,I.pin,I.hok,I.len⟩
theorem Inv.unwish (I:Inv (X.wish E) pins σ H s):Inv X pins σ H s:=⟨I.ok.unwish,I.os,I.bare,I.base,I.loc,I.cell,I.free,I.freeC,I.pin,I.hok,I.len⟩
theorem SP.unwish {D:Ends} {f:Flow} {s':Shared} (h:SP (X.wish E) pins D f s'):SP X pins D f s':=by
 cases f with
 | next=>obtain ⟨σ',H',I,q⟩:=h;exact ⟨σ',H',I.unwish,q⟩
 | brk=>obtain ⟨σ',H',I,q⟩:=h;exact ⟨σ',H',I.unwish,q⟩
 | cont=>obtain ⟨σ',H',I,q⟩:=h;exact ⟨σ',H',I.unwish,q⟩
 | ret u=>obtain ⟨v,σ',H',I,r,q⟩:=h;exact ⟨v,σ',H',I.unwish,r,q⟩
theorem PE.nox {e:Expr} {t:TE} (h:PE X.nox e t):PE X e t:=fun pins s σ H Q I hw =>
 wpAny_mono (h pins s σ H Q (I.wish _) hw) (fun _ _ ⟨v,H',I',r,q⟩=>⟨v,H',I'.unwish,r,q⟩) fun _ _ z=>False.elim z
theorem PT.nox {e:Expr} {t:TT} (h:PT X.nox e t):PT X e t:=fun pins s σ H Q I hw =>
 wpAny_mono (h pins s σ H Q (I.wish _) hw) (fun _ _ ⟨H',I',q⟩=>⟨H',I'.unwish,q⟩) fun _ _ z=>False.elim z
theorem PSs.nox {st:List Stmt} {t:TS} (h:PSs X.nox st t):PSs X st t:=fun pins s σ H D I hw =>
 wpAny_mono (h pins s σ H D (I.wish _) hw) (fun _ _ q=>q.unwish) fun _ _ z=>False.elim z
end
section
variable {X : Cx} {st : Stmt} {rest : List Stmt} {t u : TS} {e : Expr} {te : TE} {pos : Pos}
def tNext:TS:=fun D σ H=>D.nx σ H
def tSeq (t u:TS):TS:=fun D σ H=>t { D with nx:=u D } σ H
theorem pss_nil:PSs X [] tNext:=fun _ _ σ H _ I h=>wpAny_execs_nil ⟨σ,H,I,h⟩
theorem pss_cons (h1:PS X st t) (h2:PSs X rest u):PSs X (st::rest) (tSeq t u):=by
 intro pins s σ H D I h
 refine wpAny_execs_cons (thn (h1 pins s σ H { D with nx:=u D } I h) fun f s1 q=>?_)
 cases f with
 | next =>
   obtain ⟨σ',H',I',q⟩:=q
   exact h2 pins s1 σ' H' D I' q
 | ret v=>exact q
 | brk=>exact q
 | cont=>exact q
theorem pss_one (h1:PS X st t):PSs X [st] t:=by
 intro pins s σ H D I h
 refine wpAny_execs_cons (thn (h1 pins s σ H D I h) fun f s1 q=>?_)
 cases f with
 | next=>exact wpAny_execs_nil q
 | ret v=>exact q
 | brk=>exact q
 | cont=>exact q
theorem Inv.quiet {pins:List (Addr × Obj)} {σ:St} {H:Hp} {s:Shared} (I:Inv X pins σ H s):interactive X.env=false:=by simp [interactive,I.ok.kind]
def tDrop (te:TE):TS:=fun D σ H=>te σ H fun _ H1=>D.nx σ H1
theorem ps_expr (he:PE X e te) (hs:swapsWith e none pos.line X.env=pure false:=by rfl):PS X (.Expr e pos) (tDrop te):=by
 intro pins s σ H D I h
 exact wpAny_Expr_any (thn (he pins s σ H _ I h) fun v s1 ⟨x,H1,I1,r1,q1⟩=>⟨σ,H1,I1,q1⟩) I.quiet hs
def tRet (te:TE):TS:=fun D σ H=>te σ H D.rt
theorem ps_ret (he:PE X e te):PS X (.Return (some e) pos) (tRet te):=by
 intro pins s σ H D I h
 exact wpAny_Return_some (thn (he pins s σ H _ I h) fun v s1 ⟨x,H1,I1,r1,q1⟩=>⟨x,σ,H1,I1,r1,q1⟩)
def tIfS (c:TT) (t u:TS):TS:=fun D σ H=>c σ H fun b H1=>if b=true then t D σ H1 else u D σ H1
theorem ps_if {c:Expr} {a b:List Stmt} {tc:TT} (hc:PT X c tc) (ha:PSs X a t) (hb:PSs X b u):PS X (.If c a b pos) (tIfS tc t u):=by
 intro pins s σ H D I h
 refine wpAny_If (thn (hc pins s σ H _ I h) fun d s1 ⟨H1,I1,q1⟩=>?_)
 cases d with
 | true=>exact ha pins s1 σ H1 D I1 q1
 | false=>exact hb pins s1 σ H1 D I1 q1
end
abbrev TG:=V->St->Hp->(St->Hp->Prop)->Prop
abbrev TGs:=List V->St->Hp->(St->Hp->Prop)->Prop
def PG (X:Cx) (target:Expr) (t:TG):Prop :=
 ∀ (pins:List (Addr × Obj)) (s:Shared) (σ:St) (H:Hp) (v:V) (u:Value) (Q:St->Hp->Prop),Inv X pins σ H s->RelV v u->t v σ H Q ->
   wpAny (model X.prog X.w) X.A (assign target X.env u) (fun _ s'=>∃ σ' H',Inv X pins σ' H' s'/\Q σ' H') X.xe s
def PGs (X:Cx) (ts:List Expr) (t:TGs):Prop :=
 ∀ (pins:List (Addr × Obj)) (s:Shared) (σ:St) (H:Hp) (vs:List V) (us:List Value) (Q:St->Hp->Prop),Inv X pins σ H s->Vals vs us->t vs σ H Q ->
   wpAny (model X.prog X.w) X.A (assignInOrder ((assignEach ts X.env).map (·.2)) us) (fun _ s'=>∃ σ' H',Inv X pins σ' H' s'/\Q σ' H') X.xe s
abbrev TSet:=V->V->V->Hp->(Hp->Prop)->Prop
def PSet (X:Cx) (t:TSet):Prop :=
 ∀ (pins:List (Addr × Obj)) (s:Shared) (σ:St) (H:Hp) (o i v:V) (ov iv u:Value) (Q:Hp->Prop),Inv X pins σ H s->RelV o ov->RelV i iv->RelV v u->t o i v H Q ->
   wpAny (model X.prog X.w) X.A (setItem ov iv u) (fun _ s'=>∃ H',Inv X pins σ H' s'/\Q H') X.xe s
section
variable {X : Cx} {pos : Pos}
def gName (i:Nat):TG:=fun v σ H Q=>Q (σ.set i (some v)) H
theorem pg_name {i:Nat} {x:Str} (hN:X.N.Nodup) (hi:X.N[i]? = some x) (hx:Loc X.env.scope x) (hf:X.fn x=true\/X.env.scope.names.lookup x=some .local:=by first | exact .inl rfl | exact .inr rfl | assumption):PG X (.Name x pos) (gName i):=by
 intro pins s σ H v u Q I r h
 exact wpAny_assign_Name (store_ok I hN hi hx r (fun s' I'=>⟨_,H,I',h⟩) hf)
def gNil:TGs:=fun vs σ H Q=>vs = []/\Q σ H
def gCons (t:TG) (u:TGs):TGs:=fun vs σ H Q=>∃ v r,vs=v::r/\t v σ H fun σ' H'=>u r σ' H' Q
theorem pgs_nil:PGs X [] gNil:=by
 intro pins s σ H vs us Q I r h
 obtain ⟨e,h⟩:=h
 subst e
 cases r
 exact assignInOrder_nil ⟨σ,H,I,h⟩
theorem pgs_cons {e:Expr} {es:List Expr} {t:TG} {u:TGs} (h1:PG X e t) (h2:PGs X es u)
 (hs:(assignEach (e::es) X.env).map (·.2)=assign e X.env::(assignEach es X.env).map (·.2):=by rfl):PGs X (e::es) (gCons t u):=by
 intro pins s σ H vs us Q I r h
 obtain ⟨v,vr,e1,h⟩:=h
 subst e1
 cases r with
 | cons r rr =>
   rw [hs]
   refine assignInOrder_cons (thn (h1 pins s σ H _ _ _ I r h) fun _ s1 ⟨σ1,H1,I1,q1⟩=>?_)
   exact h2 pins s1 σ1 H1 _ _ Q I1 rr q1
def gTup (K:PySem.W.Frag) (n:Nat) (t:TGs):TG:=fun v σ H Q=>∃ a xs,v = .ref a/\SqT K H a xs/\xs.length=n/\t xs σ H Q
theorem pg_tup {es:List Expr} {k:Nat} {t:TGs} {n:Nat} (hc:X.calm=true) (h:PGs X es t)
 (hn:(assignEach es X.env).length=n:=by rfl) (hst:(assignEach es X.env).findIdx? (·.1)=none:=by rfl):PG X (.Tuple es k pos) (gTup X.K n t):=by
 intro pins s σ H v u Q I r hw
 obtain ⟨a,xs,e1,hq,hl,hw⟩:=hw
 subst e1
 cases r
 obtain ⟨its,rv,ht,hz⟩:=I.tuple hq
 refine assign_Tuple_tuple (I.ok.hd hc) ht (by simp [hn,<- hl,rv.length]) hst fun h' hx=>?_
 have I1:Inv X pins σ H { s with heap:=h' }:=I.kept (t':=s.toks) fun b o e=>hx b o (Nat.ne_of_lt (Heap.lt_size e)) e
 exact h pins _ σ H xs _ Q I1 (by simpa using rv) hw
def gSub (to ti:TE) (t:TSet):TG:=fun v σ H Q=>to σ H fun o H1=>ti σ H1 fun i H2=>t o i v H2 fun H3=>Q σ H3
theorem pg_sub {o i:Expr} {to ti:TE} {t:TSet} (ho:PE X o to) (hi:PE X i ti) (hs:PSet X t)
 (ha:∀ v,assign (.Subscript o i pos) X.env v=(do
  let ov <- holding [v] (eval o X.env)
  let iv <- holding [v,ov] (eval i X.env)
  standAt pos
  holding [v,ov,iv] (setItem ov iv v)
  release [v,ov,iv] []):=by intro _;rfl):PG X (.Subscript o i pos) (gSub to ti t):=by
 intro pins s σ H v u Q I r h
 rw [ha]
 refine wpAny_bind (wpAny_holding (thn (ho pins s σ H _ I h) fun ov s1 ⟨x,H1,I1,r1,q1⟩=>?_))
 refine wpAny_bind (wpAny_holding (thn (hi pins s1 σ H1 _ I1 q1) fun iv s2 ⟨y,H2,I2,r2,q2⟩=>?_))
 refine wpAny_bind (wpAny_standAt (wpAny_bind (wpAny_holding (thn (hs pins s2 σ H2 x y v ov iv u _ I2 r1 r2 r q2) fun _ s3 ⟨H3,I3,q3⟩=>?_))))
 exact wpAny_release ⟨σ,H3,I3,q3⟩
def tAsg (te:TE) (g:TG):TS:=fun D σ H=>te σ H fun x H1=>g x σ H1 D.nx
theorem ps_asg {tg e:Expr} {te:TE} {g:TG} (he:PE X e te) (hg:PG X tg g) (hs:swapsWithSole [tg] e pos.line X.env=pure false:=by rfl) (hw:swappedStores [tg] e X.env=pure none:=by rfl)
 (h1:(assignEach [tg] X.env).map (·.2) = [assign tg X.env]:=by rfl):PS X (.Assign [tg] e pos) (tAsg te g):=by
 intro pins s σ H D I h
 refine wpAny_Assign_stores (thn (he pins s σ H _ I h) fun v s1 ⟨x,H1,I1,r1,q1⟩=>?_) hs hw
 rw [h1]
 exact thn (hg pins s1 σ H1 x v _ I1 r1 q1) fun _ s2 q=>q
theorem ps_set {i:Nat} {x:Str} {e:Expr} {te:TE} {pos':Pos} (hN:X.N.Nodup) (hi:X.N[i]? = some x) (hx:Loc X.env.scope x) (he:PE X e te) (hs:swapsWith e (some (.Name x pos')) pos.line X.env=pure false:=by rfl) (hf:X.fn x=true\/X.env.scope.names.lookup x=some .local:=by first | exact .inl rfl | exact .inr rfl | assumption) :
 PS X (.Assign [.Name x pos'] e pos) (tAsg te (gName i)):=by
 intro pins s σ H D I h
 refine wpAny_Assign_Name (thn (he pins s σ H _ I h) fun v s1 ⟨y,H1,I1,r1,q1⟩=>?_) hs
 exact store_ok I1 hN hi hx r1 (fun s2 I2=>⟨_,H1,I2,q1⟩) hf
def tPar (i j:Nat) (ta:TA):TS:=fun D σ H=>ta σ H fun vs H1=>∃ v w,vs = [v,w]/\D.nx ((σ.set i (some v)).set j (some w)) H1
theorem ps_par {i j:Nat} {x y:Str} {a b:Expr} {ta:TA} {px py pt:Pos} {kt k2 pt2} (hc:X.calm=true) (hN:X.N.Nodup) (hi:X.N[i]? = some x) (hj:X.N[j]? = some y) (hij:i ≠ j)
 (hx:X.env.scope.names.lookup x=some .local) (hy:X.env.scope.names.lookup y=some .local) (ha:PA X [a,b] ta)
 (hw:swappedStores [.Tuple [.Name x px,.Name y py] kt pt] (.Tuple [a,b] k2 pt2) X.env=pure (some [x,y]))
 (hs:swapsWithSole [.Tuple [.Name x px,.Name y py] kt pt] (.Tuple [a,b] k2 pt2) pos.line X.env=pure false:=by rfl) :
 PS X (.Assign [.Tuple [.Name x px,.Name y py] kt pt] (.Tuple [a,b] k2 pt2) pos) (tPar i j ta):=by
 intro pins s σ H D I h
 rw [exec_Assign_arm]
 refine wpAny_bind (wpAny_standAt ?_)
 rw [hs]
 refine wpAny_bind (wpAny_pure ?_)
 rw [if_neg (by decide)]
 refine wpAny_bind (Tuple_ (thn (ha _ pins s σ H _ I h) fun us s1 ⟨vs,H1,I1,r1,q1⟩=>?_))
 obtain ⟨v,w,e1,q1⟩:=q1
 subst e1
 obtain ⟨u1,u2,rfl,rv,rw'⟩:∃ u1 u2,us = [u1,u2]/\RelV v u1/\RelV w u2:=by
  cases r1 with
  | cons p q =>
    cases q with
    | cons p' q' =>
      cases q'
      exact ⟨_,_,rfl,p,p'⟩
 refine wpAny_newObj_type ?_ (by show 2<=sizeLine;decide)
 have I2:Inv X pins σ H1 { s1 with heap:=s1.heap.push { cls := .type "tuple", data := .seq [u1,u2].toArray } }:=I1.kept (t':=s1.toks) fun b o e=>Heap.get?_push_of_some _ e
 rw [hw]
 refine wpAny_bind (wpAny_pure ?_)
 show wpAny (model X.prog X.w) X.A (do rule "assign.swapped-stores"; let items <- unpackItems (.ref s1.heap.objs.size) 2 none;assignInOrder [fun v=>bindName X.env y v,fun v=>bindName X.env x v] items.reverse;pure Flow.next) _ _ _
 refine wpAny_bind (wpAny_rule (wpAny_bind (unpackItems_tuple (items:=#[u1,u2]) (I.ok.hd hc) (IsTup.new s1.heap _) fun h' hx'=>?_)))
 have I3:=I2.kept (h':=h') (t':=s1.toks) fun b o e=>hx' b o (Nat.ne_of_lt (Heap.lt_size e)) e
 show wpAny _ _ (assignInOrder [fun v=>bindName X.env y v,fun v=>bindName X.env x v] [u2,u1] >>= fun _=>pure Flow.next) _ _ _
 refine wpAny_bind (assignInOrder_cons (wpAny_bindName (store_ok I3 hN hj (.inl hy) rw' (fun s2 I4=>?_) (.inr hy))))
 refine assignInOrder_cons (wpAny_bindName (store_ok I4 hN hi (.inl hx) rv (fun s3 I5=>assignInOrder_nil (wpAny_pure ?_)) (.inr hx)))
 rw [List.set_comm _ _ (Ne.symm hij)] at I5
 exact ⟨_,H1,I5,q1⟩
end
structure It where
 go:Nat->Hp->Prop
 yld:Nat->Hp->V->Hp->Prop
 stop:Nat->Hp->Prop
def FpOk (X:Cx) (pins:List (Addr × Obj)) (H:Hp) (b:Addr):Prop :=
 H b=none/\b ≠ X.env.locals/\b ∉ X.fs/\(b ∈ X.ex\/X.s₀.heap.objs.size<=b)/\(∀ x c,X.env.cells.lookup x=some c->c ≠ b)/\∀ p ∈ X.pn++pins,p.1 ≠ b
theorem Inv.fpOk {X:Cx} {pins:List (Addr × Obj)} {σ:St} {H H':Hp} {s:Shared} {b:Addr} (I:Inv X pins σ H s) (hb:s.heap.objs.size<=b) (hn:H' b=none):FpOk X pins H' b:=by
 refine ⟨hn,Nat.ne_of_gt (Nat.lt_of_lt_of_le I.lt hb),I.nofs hb,.inr (Nat.le_trans I.sz hb),fun x c e z=>?_,fun p hp z=>?_⟩
 ·obtain ⟨v,q⟩:=I.cell x c e
  exact absurd (Nat.lt_of_lt_of_le q.lt (by rw [z];exact hb)) (Nat.lt_irrefl _)
 ·exact absurd (Nat.lt_of_lt_of_le (Heap.lt_size (I.pin p hp).1) (by rw [z];exact hb)) (Nat.lt_irrefl _)
structure Turn (P:Program) (w:World) (K:PySem.W.Frag) (tg:Expr) (J:It) (fp:List Addr) (it:Addr) (tn:Nat->Heap->Prop):Prop where
 mem:it ∈ fp
 obj:∀ i h,tn i h->∀ b ∈ fp,∃ o,h.get? b=some o/\∀ v,o.data ≠ .cell v
 keep:∀ i h h',tn i h->(∀ b ∈ fp,∀ o,h.get? b=some o->h'.get? b=some o)->tn i h'
 item:∀ (X:Cx),X.prog=P->X.w=w->X.K=K->X.calm=true->∀ (i:Nat) (pins:List (Addr × Obj)) (s:Shared) (σ:St) (H:Hp) (E:Value->Shared->Prop),Inv X pins σ H s->(∀ b ∈ fp,FpOk X pins H b)->tn i s.heap->J.go i H ->
  wpAny (model P w) X.A (pyNext (.ref it)) (fun r s1=>∃ u,r=some u /\
   wpAny (model P w) X.A (letOwnedTupleGo tg (.ref it) u) (fun _ s2=>∃ x H',Inv X pins σ H' s2/\RelV x u/\J.yld i H x H'/\tn (i+1) s2.heap/\∀ b ∈ fp,H' b=none) E s1) E s
 done:∀ (X:Cx),X.prog=P->X.w=w->X.K=K->X.calm=true->∀ (i:Nat) (pins:List (Addr × Obj)) (s:Shared) (σ:St) (H:Hp) (E:Value->Shared->Prop),Inv X pins σ H s->(∀ b ∈ fp,FpOk X pins H b)->tn i s.heap->J.stop i H ->
  wpAny (model P w) X.A (pyNext (.ref it)) (fun r s1=>r=none/\Inv X pins σ H s1) E s
 self:∀ (A:Around) (i:Nat) (s:Shared) (Q:Value->Shared->Prop) (E:Value->Shared->Prop),tn i s.heap->Q (.ref it) s->wpAny (model P w) A (pyIter (.ref it)) Q E s
abbrev TI:=St->Hp->(It->Hp->Prop)->Prop
def PIE (X:Cx) (pins:List (Addr × Obj)) (σ:St) (tg:Expr) (R:It->Hp->Prop) (itv:Value) (s2:Shared):Prop :=
 ∃ (it:Addr) (fp:List Addr) (tn:Nat->Heap->Prop) (J:It) (H':Hp),itv = .ref it/\Inv X pins σ H' s2/\Turn X.prog X.w X.K tg J fp it tn/\tn 0 s2.heap/\(∀ b ∈ fp,FpOk X pins H' b)/\R J H'
def PI (X:Cx) (tg iter:Expr) (wi:TI):Prop :=
 ∀ (pins:List (Addr × Obj)) (s:Shared) (σ:St) (H:Hp) (R:It->Hp->Prop),Inv X pins σ H s->wi σ H R ->
   wpAny (model X.prog X.w) X.A (eval iter X.env) (fun v s1=>wpAny (model X.prog X.w) X.A (pyIter v) (PIE X pins σ tg R) X.xe s1) X.xe s
theorem go_of {M:Model} {A:Around} {E:Value->Shared->Prop} {s:Shared} {tg:Expr} {it:Addr} {u:Value} {o:Obj} {n:String} {vs:Array Value} {Q:Unit->Shared->Prop} (ho:s.heap.get? it=some o) (hc:o.cls = .type n) (hd:o.data = .fields vs)
 (hn:["enumerate", "zip", "dict_itemiterator", "dict_reverseitemiterator", "odict_iterator", "itertools.zip_longest", "itertools.pairwise"].contains n=false) (hQ:Q () s):wpAny M A (letOwnedTupleGo tg (.ref it) u) Q E s:=by
 unfold letOwnedTupleGo
 cases tg <;> first
  | exact wpAny_pure hQ
  | (cases u <;> first
   | exact wpAny_pure hQ
   | (refine wpAny_bind (wpAny_load ho ?_)
      rw [hc,hd]
      show wpAny M A (if (["enumerate", "zip", "dict_itemiterator", "dict_reverseitemiterator", "odict_iterator", "itertools.zip_longest", "itertools.pairwise"].contains n && vs[0]? == some (rawInt _))=true then _ else _) Q E s
      rw [if_neg (by intro h;rw [hn,Bool.false_and] at h;cases h)]
      exact wpAny_pure hQ))
def Itl (K:PySem.W.Frag) (a:Addr):It :=
 ⟨fun i H=>∃ xs x,SqL K H a xs/\xs[i]? = some x,fun i H x H'=>H'=H/\∀ xs,SqL K H a xs->xs[i]? = some x,fun i H=>∃ xs,SqL K H a xs/\xs.length<=i⟩
def Itt (K:PySem.W.Frag) (a:Addr):It :=
 ⟨fun i H=>∃ xs x,SqT K H a xs/\xs[i]? = some x,fun i H x H'=>H'=H/\∀ xs,SqT K H a xs->xs[i]? = some x,fun i H=>∃ xs,SqT K H a xs/\xs.length<=i⟩
def Itr (lo:Int) (n:Nat):It:=⟨fun i _=>i<n,fun i H x H'=>H'=H/\x = .int (lo+i),fun i _=>n<=i⟩
theorem turn_list {P:Program} {w:World} {K:PySem.W.Frag} {tg:Expr} (a it:Addr):Turn P w K tg (Itl K a) [it] it (fun i h=>h.IsListIter it a i) where
 mem:=by simp
 obj:=fun i h st b hb=>by
  have e:b=it:=by simpa using hb
  subst e
  obtain ⟨o,e,c,d⟩:=st
  exact ⟨o,e,fun v z=>by rw [d] at z;cases z⟩
 keep:=fun i h h' st k=>st.at fun o e=>k it (by simp) o e
 item:=by
  intro X hP hw hK hc i pins s σ H E I hf st hg
  subst hP hw hK
  obtain ⟨xs,x,hq,hx⟩:=hg
  obtain ⟨its,rv,p,hz⟩:=I.list hq
  obtain ⟨u,hu,ru⟩:=rv.get hx
  obtain ⟨f0,f1,f2,f3,f4,f5⟩:=hf it (by simp)
  refine wpAny_pyNext_list_item st p.isList (x:=u) (by simpa using hu) fun h' st' sb=>?_
  have I1:Inv X pins σ H { s with heap:=h' }:=I.turned (t':=s.toks) (fun b o hb e=>(sb.2 b hb).trans e) f0 f1 f3 f4 f5
  obtain ⟨o,e,c,d⟩:=id st'
  exact ⟨u,rfl,go_of (s:={ s with heap:=h' }) e c d (by decide) ⟨x,H,I1,ru,⟨rfl,fun ys hy=>by rw [I.list_inj hy hq];exact hx⟩,st',fun b hb=>(hf b hb).1⟩⟩
 done:=by
  intro X hP hw hK hc i pins s σ H E I hf st hg
  subst hP hw hK
  obtain ⟨xs,hq,hx⟩:=hg
  obtain ⟨its,rv,p,hz⟩:=I.list hq
  obtain ⟨f0,f1,f2,f3,f4,f5⟩:=hf it (by simp)
  have hl:=rv.length
  exact wpAny_pyNext_list_end (I.ok.hd hc) st p.isList (by simp;omega) fun h' eb=>⟨rfl,I.turned (t':=s.toks) (fun b o hb e=>eb b o hb e) f0 f1 f3 f4 f5⟩
 self:=fun _ _ _ _ _ st h=>wpAny_pyIter_listiter st h
theorem turn_tuple {P:Program} {w:World} {K:PySem.W.Frag} {tg:Expr} (a it:Addr):Turn P w K tg (Itt K a) [it] it (fun i h=>h.IsTupleIter it a i) where
 mem:=by simp
 obj:=fun i h st b hb=>by
  have e:b=it:=by simpa using hb
  subst e
  obtain ⟨o,e,c,d⟩:=st
  exact ⟨o,e,fun v z=>by rw [d] at z;cases z⟩
 keep:=fun i h h' st k=>st.at fun o e=>k it (by simp) o e
 item:=by
  intro X hP hw hK hc i pins s σ H E I hf st hg
  subst hP hw hK
  obtain ⟨xs,x,hq,hx⟩:=hg
  obtain ⟨its,rv,p,hz⟩:=I.tuple hq
  obtain ⟨u,hu,ru⟩:=rv.get hx
  obtain ⟨f0,f1,f2,f3,f4,f5⟩:=hf it (by simp)
  refine wpAny_pyNext_tuple_item st (show s.heap.IsTuple a its.toArray from p) (x:=u) (by simpa using hu) fun h' st' sb=>?_
  have I1:Inv X pins σ H { s with heap:=h' }:=I.turned (t':=s.toks) (fun b o hb e=>(sb.2 b hb).trans e) f0 f1 f3 f4 f5
  obtain ⟨o,e,c,d⟩:=id st'
  exact ⟨u,rfl,go_of (s:={ s with heap:=h' }) e c d (by decide) ⟨x,H,I1,ru,⟨rfl,fun ys hy=>by rw [I.tuple_inj hy hq];exact hx⟩,st',fun b hb=>(hf b hb).1⟩⟩
 done:=by
  intro X hP hw hK hc i pins s σ H E I hf st hg
  subst hP hw hK
  obtain ⟨xs,hq,hx⟩:=hg
  obtain ⟨its,rv,p,hz⟩:=I.tuple hq
  obtain ⟨f0,f1,f2,f3,f4,f5⟩:=hf it (by simp)
  have hl:=rv.length
  exact wpAny_pyNext_tuple_end (I.ok.hd hc) st (show s.heap.IsTuple a its.toArray from p) (by simp;omega) fun h' eb=>⟨rfl,I.turned (t':=s.toks) (fun b o hb e=>eb b o hb e) f0 f1 f3 f4 f5⟩
 self:=fun _ _ _ _ _ st h=>wpAny_pyIter_tupleiter st h
theorem turn_range {P:Program} {w:World} {K:PySem.W.Frag} {tg:Expr} (it:Addr) (lo:Int) (n:Nat):Turn P w K tg (Itr lo n) [it] it (fun i h=>IsRangeIter h it (lo+(i:Nat) * 1) ((n:Int) - (i:Nat)) 1) where
 mem:=by simp
 obj:=fun i h st b hb=>by
  have e:b=it:=by simpa using hb
  subst e
  exact ⟨_,st,fun v z=>by
   have z':Data.fields _=Data.cell v:=z
   cases z'⟩
 keep:=fun i h h' st k=>k it (by simp) _ st
 item:=by
  intro X hP hw hK hc i pins s σ H E I hf st hg
  subst hP hw hK
  obtain ⟨f0,f1,f2,f3,f4,f5⟩:=hf it (by simp)
  have W:=Walks.range (prog:=X.prog) (w:=X.w) (I.ok.hd hc) it lo 1 n
  refine W.item i s _ _ hg st fun v h' tk hv st' kk=>?_
  obtain ⟨t,rfl⟩:=hv
  have I1:Inv X pins σ H { s with heap:=h',toks:=tk }:=I.turned (fun b o hb e=>kk b o (by simpa using hb) e) f0 f1 f3 f4 f5
  refine ⟨_,rfl,go_of (s:={ s with heap:=h',toks:=tk }) (n := "range_iterator") st' rfl rfl (by decide) ⟨.int (lo+i),H,I1,⟨t,?_⟩,⟨rfl,rfl⟩,st',fun b hb=>(hf b hb).1⟩⟩
  rw [Int.mul_one]
 done:=by
  intro X hP hw hK hc i pins s σ H E I hf st hg
  subst hP hw hK
  obtain ⟨f0,f1,f2,f3,f4,f5⟩:=hf it (by simp)
  exact wpAny_pyNext_range_end (I.ok.hd hc) st (by have:n<=i:=hg;omega) fun h' eb=>⟨rfl,I.turned (t':=s.toks) (fun b o hb e=>eb b o hb e) f0 f1 f3 f4 f5⟩
 self:=fun _ _ _ _ _ st h=>wpAny_pyIter_rangeiter st h
end L2
namespace L2
open PySem PySem.Spec PyProof.Rows
section
variable {X : Cx} {tg : Expr}
def iList (K:PySem.W.Frag) (tl:TE):TI:=fun σ H R=>tl σ H fun x H1=>∃ a,x = .ref a/\(∃ xs,SqL K H1 a xs)/\R (Itl K a) H1
def iTup (K:PySem.W.Frag) (tl:TE):TI:=fun σ H R=>tl σ H fun x H1=>∃ a,x = .ref a/\(∃ xs,SqT K H1 a xs)/\R (Itt K a) H1
theorem pi_list {l:Expr} {tl:TE} (hl:PE X l tl):PI X tg l (iList X.K tl):=by
 intro pins s σ H R I h
 refine thn (hl pins s σ H _ I h) fun v s1 ⟨x,H1,I1,r1,q1⟩=>?_
 obtain ⟨a,e,⟨xs,hq⟩,q⟩:=q1
 subst e
 cases r1
 obtain ⟨its,rv,p,hz⟩:=I1.list hq
 refine wpAny_pyIter_list p.isList ?_
 refine ⟨s1.heap.objs.size,[s1.heap.objs.size],_,_,H1,rfl,I1.kept (t':=s1.toks) fun b o e=>Heap.get?_push_of_some _ e,turn_list a _,⟨_,Heap.get?_push_size _ rfl,rfl,rfl⟩,fun b hb=>?_,q⟩
 have e:b=s1.heap.objs.size:=by simpa using hb
 subst e
 exact I1.fpOk (Nat.le_refl _) (I1.hok.fresh (Nat.le_refl _))
theorem pi_tup {l:Expr} {tl:TE} (hl:PE X l tl):PI X tg l (iTup X.K tl):=by
 intro pins s σ H R I h
 refine thn (hl pins s σ H _ I h) fun v s1 ⟨x,H1,I1,r1,q1⟩=>?_
 obtain ⟨a,e,⟨xs,hq⟩,q⟩:=q1
 subst e
 cases r1
 obtain ⟨its,rv,p,hz⟩:=I1.tuple hq
 refine wpAny_pyIter_tuple (show s1.heap.IsTuple a its.toArray from p) ?_
 refine ⟨s1.heap.objs.size,[s1.heap.objs.size],_,_,H1,rfl,I1.kept (t':=s1.toks) fun b o e=>Heap.get?_push_of_some _ e,turn_tuple a _,⟨_,Heap.get?_push_size _ rfl,rfl,rfl⟩,fun b hb=>?_,q⟩
 have e:b=s1.heap.objs.size:=by simpa using hb
 subst e
 exact I1.fpOk (Nat.le_refl _) (I1.hok.fresh (Nat.le_refl _))
theorem range_it {pins:List (Addr × Obj)} {σ:St} {H:Hp} {s:Shared} {R:It->Hp->Prop} {E:Value->Shared->Prop} {lo hi:Int} {t u v:Tok} {tk:Nat} (I:Inv X pins σ H s) (h1:-(2 ^ 62)<=lo) (h2:lo<2 ^ 62) (h3:-(2 ^ 62)<=hi) (h4:hi<2 ^ 62)
 (q:R (Itr lo (hi - lo).toNat) H):wpAny (model X.prog X.w) X.A (pyIter (.ref s.heap.objs.size)) (PIE X pins σ tg R) E { s with heap:=s.heap.push { cls := .type "range", data := .fields #[.int lo t,.int hi u,.int 1 v] },toks:=tk }:=by
 refine wpAny_pyIter_range (IsRange.new ..) (small_one h1 h2 h3 h4) ?_
 have I1:Inv X pins σ H { s with heap:=s.heap.push { cls := .type "range", data := .fields #[.int lo t,.int hi u,.int 1 v] },toks:=tk }:=I.kept fun b o e=>Heap.get?_push_of_some _ e
 refine ⟨(s.heap.push { cls := .type "range", data := .fields #[.int lo t,.int hi u,.int 1 v] }).objs.size,[(s.heap.push { cls := .type "range", data := .fields #[.int lo t,.int hi u,.int 1 v] }).objs.size],_,_,H,rfl,
  I1.kept (t':=tk) fun b o e=>Heap.get?_push_of_some _ e,turn_range _ lo (hi - lo).toNat,?_,fun b hb=>?_,q⟩
 ·have e1:lo+((0:Nat):Int) * 1=lo:=by simp
  have e2:(((hi - lo).toNat:Nat):Int) - ((0:Nat):Int)=Builtin.Range.rangeSize lo hi 1:=by rw [rangeSize_one];split <;> omega
  show IsRangeIter _ _ (lo+((0:Nat):Int) * 1) ((((hi - lo).toNat:Nat):Int) - ((0:Nat):Int)) 1
  rw [e1,e2]
  exact Heap.get?_push_size _ rfl
 ·have e:b=(s.heap.push { cls := .type "range", data := .fields #[.int lo t,.int hi u,.int 1 v] }).objs.size:=by simpa using hb
  subst e
  exact I1.fpOk (Nat.le_refl _) (I1.hok.fresh (Nat.le_refl _))
def iRng1 (ta:TA):TI:=fun σ H R=>ta σ H fun vs H1=>∃ j:Int,vs = [.int j]/\-(2 ^ 62)<=j/\j<2 ^ 62/\R (Itr 0 j.toNat) H1
def iRng2 (ta:TA):TI:=fun σ H R=>ta σ H fun vs H1=>∃ i j:Int,vs = [.int i,.int j]/\(-(2 ^ 62)<=i/\i<2 ^ 62/\-(2 ^ 62)<=j/\j<2 ^ 62)/\R (Itr i (j - i).toNat) H1
theorem pi_range1 {a:Expr} {ta:TA} {p pos:Pos} (hg:Gl X "range") (hm:X.mg "range" = none) (ha:PA X [a] ta) (hs:starEach [a] X.env = [(false,eval a X.env)]:=by rfl):PI X tg (.Call (.Name "range" p) [a] [] pos) (iRng1 ta):=by
 intro pins s σ H R I h
 refine Call_ (ld_blt I hg hm boot_range (PyProof.Rows.callWith_type1 (thn (ha pos pins s σ H _ I h) fun us s1 ⟨vs,H1,I1,r1,q1⟩=>?_) hs rfl))
 obtain ⟨j,e,q1,q2,q⟩:=q1
 subst e
 cases r1 with
 | cons r rr =>
   cases rr
   obtain ⟨t,rfl⟩:=r
   exact call_range_1 (range_it I1 (by omega) (by omega) q1 q2 (by simpa using q))
theorem pi_range2 {a b:Expr} {ta:TA} {p pos:Pos} (hg:Gl X "range") (hm:X.mg "range" = none) (ha:PA X [a,b] ta) (hs:starEach [a,b] X.env = [(false,eval a X.env),(false,eval b X.env)]:=by rfl) (hs2:starEach [b] X.env = [(false,eval b X.env)]:=by rfl) :
 PI X tg (.Call (.Name "range" p) [a,b] [] pos) (iRng2 ta):=by
 intro pins s σ H R I h
 refine Call_ (ld_blt I hg hm boot_range (PyProof.Rows.callWith_type1 (thn (ha pos pins s σ H _ I h) fun us s1 ⟨vs,H1,I1,r1,q1⟩=>?_) (by rw [hs,hs2]) (by rw [hs2];rfl)))
 obtain ⟨i,j,e,⟨q1,q2,q3,q4⟩,q⟩:=q1
 subst e
 cases r1 with
 | cons r rr =>
   cases rr with
   | cons r' rr =>
     cases rr
     obtain ⟨t,rfl⟩:=r
     obtain ⟨t',rfl⟩:=r'
     exact call_range_2 (range_it I1 q1 q2 q3 q4 q)
def tFor (wi:TI) (g:TG) (tb:TS):TS:=fun D σ H=>wi σ H fun J H1=>∃ W:Nat->Nat->St->Hp->Prop,(∃ m,W 0 m σ H1)/\∀ i m σ H,W i m σ H ->
 (J.stop i H/\D.nx σ H)\/(J.go i H/\∃ N:St->Hp->Prop,(∀ σ' H',N σ' H'->∃ m',m'<m/\W (i+1) m' σ' H')/\∀ x H',J.yld i H x H'->g x σ H' fun σ2 H2=>tb { D with nx:=N,ct:=N,bk:=D.nx } σ2 H2)
def pinsAt (fp:List Addr) (h:Heap):List (Addr × Obj):=fp.filterMap fun b=>(h.get? b).map fun o=>(b,o)
theorem mem_pinsAt {fp:List Addr} {h:Heap} {b:Addr} {o:Obj} (hb:b ∈ fp) (e:h.get? b=some o):(b,o) ∈ pinsAt fp h:=List.mem_filterMap.mpr ⟨b,hb,by rw [e];rfl⟩
theorem of_pinsAt {fp:List Addr} {h:Heap} {p:Addr × Obj} (hp:p ∈ pinsAt fp h):p.1 ∈ fp/\h.get? p.1=some p.2:=by
 obtain ⟨b,hb,e⟩:=List.mem_filterMap.mp hp
 cases q:h.get? b with
 | none=>rw [q] at e;cases e
 | some o =>
   rw [q] at e
   have e':(b,o)=p:=Option.some.inj e
   subst e'
   exact ⟨hb,q⟩
theorem Inv.pinned {pins:List (Addr × Obj)} {σ:St} {H:Hp} {s:Shared} {fp:List Addr} (I:Inv X pins σ H s) (hf:∀ b ∈ fp,FpOk X pins H b) (ho:∀ b ∈ fp,∃ o,s.heap.get? b=some o/\∀ v,o.data ≠ .cell v):Inv X (pins++pinsAt fp s.heap) σ H s :=
 I.pins_of fun p hp=>(List.mem_append.mp hp).elim (fun z=>I.pin p (List.mem_append_right _ z)) fun z=>by
  obtain ⟨hb,e⟩:=of_pinsAt z
  obtain ⟨f0,f1,f2,_⟩:=hf p.1 hb
  obtain ⟨o,e',d⟩:=ho p.1 hb
  rw [e] at e';cases e'
  exact ⟨e,f0,f1,f2,d⟩
theorem Inv.unpinned {pins pl:List (Addr × Obj)} {σ:St} {H:Hp} {s:Shared} (I:Inv X (pins++pl) σ H s):Inv X pins σ H s:=I.pins_of fun p hp=>I.pin p (List.mem_append_right _ (List.mem_append_left _ hp))
theorem ps_for {iter:Expr} {body:List Stmt} {wi:TI} {g:TG} {tb:TS} {pos:Pos} (hp:PassesOwn (model X.prog X.w) X.A X.env X.xe) (hc:X.calm=true) (hi:PI X tg iter wi) (hg:PG X tg g) (hb:PSs X body tb)
 (hs:∀ x,foldedSetIterable iter X.env x=pure x:=by intro _;rfl):PS X (.For tg iter body [] pos) (tFor wi g tb):=by
 intro pins s σ H D I h
 refine wpAny_For (thn (hi pins s σ H _ I h) fun v s1 h1=>thn h1 fun itv s2 h2=>?_) hs
 obtain ⟨it,fp,tn,J,H2,e,I2,T,st2,f2,W,⟨m0,w0⟩,turn⟩:=h2
 subst e
 -- what stays true of the iterator's objects through the loop
 have stat:∀ {H':Hp},(∀ b ∈ fp,H' b=none)->∀ b ∈ fp,FpOk X pins H' b:=fun hn b hb=>⟨hn b hb,(f2 b hb).2⟩
 refine codeAny_forLoop_any (fun n s'=>∃ i σ' H',Inv X pins σ' H' s'/\tn i s'.heap/\(∀ b ∈ fp,H' b=none)/\W i n σ' H') ?_ m0 ⟨0,σ,H2,I2,st2,fun b hb=>(f2 b hb).1,w0⟩
 rintro n s3 ⟨i,σ3,H3,I3,st3,fr3,w3⟩
 rcases turn i n σ3 H3 w3 with ⟨stop,qn⟩ | ⟨go,N,hN,step⟩
 ·refine wpAny_passesOwn hp (thn (T.done X rfl rfl rfl hc i pins s3 σ3 H3 X.xe I3 (stat fr3) st3 stop) fun r s4 ⟨hr,I4⟩=>?_)
  subst hr
  exact wpAny_execs_nil ⟨σ3,H3,I4,qn⟩
 ·refine wpAny_passesOwn hp (thn (T.item X rfl rfl rfl hc i pins s3 σ3 H3 X.xe I3 (stat fr3) st3 go) fun r s4 ⟨u,hr,h4⟩=>?_)
  subst hr
  refine wpAny_passesOwn hp (thn h4 fun _ s5 ⟨x,H5,I5,r5,y5,st5,fr5⟩=>?_)
  have I5':=I5.pinned (stat fr5) (T.obj _ _ st5)
  refine wpAny_passesOwn hp (thn (hg _ s5 σ3 H5 x u _ I5' r5 (step x H5 y5)) fun _ s6 ⟨σ6,H6,I6,q6⟩=>?_)
  refine wpAny_passesOwn hp (thn (hb _ s6 σ6 H6 _ I6 q6) fun f s7 q7=>?_)
  have again:∀ {σ7:St} {H7:Hp},Inv X (pins++pinsAt fp s5.heap) σ7 H7 s7->N σ7 H7->∃ m,m<n/\∃ i σ' H',Inv X pins σ' H' s7/\tn i s7.heap/\(∀ b ∈ fp,H' b=none)/\W i m σ' H':=fun {σ7 H7} I7 n7=>by
   obtain ⟨m',hm,w7⟩:=hN σ7 H7 n7
   refine ⟨m',hm,i+1,σ7,H7,I7.unpinned,T.keep _ _ _ st5 fun b hb o e=>(I7.pin (b,o) (List.mem_append_right _ (List.mem_append_right _ (mem_pinsAt hb e)))).1,fun b hb=>?_,w7⟩
   obtain ⟨o,e,d⟩:=T.obj _ _ st5 b hb
   exact (I7.pin (b,o) (List.mem_append_right _ (List.mem_append_right _ (mem_pinsAt hb e)))).2.1
  cases f with
  | next=>obtain ⟨σ7,H7,I7,n7⟩:=q7;exact again I7 n7
  | cont=>obtain ⟨σ7,H7,I7,n7⟩:=q7;exact again I7 n7
  | brk=>obtain ⟨σ7,H7,I7,q7⟩:=q7;exact ⟨σ7,H7,I7.unpinned,q7⟩
  | ret v=>obtain ⟨x7,σ7,H7,I7,r7,q7⟩:=q7;exact ⟨x7,σ7,H7,I7.unpinned,r7,q7⟩
end
end L2
namespace L2
open PySem PySem.Spec PyProof.Rows
abbrev R2:=V->V->Hp->VK->Prop
def OpR (X:Cx) (f:Value->Value->Sem Value) (r:R2):Prop :=
 ∀ (pins:List (Addr × Obj)) (s:Shared) (σ:St) (H:Hp) (x y:V) (v u:Value) (Q:VK),Inv X pins σ H s->RelV x v->RelV y u->r x y H Q ->
   wpAny (model X.prog X.w) X.A (f v u) (EP X pins σ Q) X.xe s
def UnR (X:Cx) (f:Value->Sem Value) (r:V->Hp->VK->Prop):Prop :=
 ∀ (pins:List (Addr × Obj)) (s:Shared) (σ:St) (H:Hp) (x:V) (v:Value) (Q:VK),Inv X pins σ H s->RelV x v->r x H Q ->
   wpAny (model X.prog X.w) X.A (f v) (EP X pins σ Q) X.xe s
def CallR (X:Cx) (f:Value) (r:List V->Hp->VK->Prop):Prop :=
 ∀ (pins:List (Addr × Obj)) (s:Shared) (σ:St) (H:Hp) (xs:List V) (us:List Value) (Q:VK),Inv X pins σ H s->Vals xs us->r xs H Q ->
   wpAny (model X.prog X.w) X.A (call f us) (EP X pins σ Q) X.xe s
def TruR (X:Cx) (r:V->Hp->(Bool->Hp->Prop)->Prop):Prop :=
 ∀ (pins:List (Addr × Obj)) (s:Shared) (σ:St) (H:Hp) (x:V) (v:Value) (Q:Bool->Hp->Prop),Inv X pins σ H s->RelV x v->r x H Q ->
   wpAny (model X.prog X.w) X.A (truthy v) (TP X pins σ Q) X.xe s
def tOp (r:R2) (ta tb:TE):TE:=fun σ H Q=>ta σ H fun x H1=>tb σ H1 fun y H2=>r x y H2 Q
def tUn (r:V->Hp->VK->Prop) (ta:TE):TE:=fun σ H Q=>ta σ H fun x H1=>r x H1 Q
def rI (C:Int->Int->Prop) (g:Int->Int->V):R2:=fun x y H Q=>∃ i j,x = .int i/\y = .int j/\C i j/\Q (g i j) H
def rI0 (g:Int->Int->V):R2:=fun x y H Q=>∃ i j,x = .int i/\y = .int j/\Q (g i j) H
def rU (g:Int->V):V->Hp->VK->Prop:=fun x H Q=>∃ i,x = .int i/\Q (g i) H
section
variable {X : Cx} {a b c : Expr} {ta tb tc : TE} {pos : Pos}
theorem binT (ha:PE X a ta) (hb:PE X b tb) {pins:List (Addr × Obj)} {s:Shared} {σ:St} {H:Hp} {R:V->V->Hp->Prop} (I:Inv X pins σ H s)
 (h:ta σ H fun x H1=>tb σ H1 fun y H2=>R x y H2) {Q:Value->Shared->Prop} {f:Value->Value->Sem Value}
 (hf:∀ v u s2 x y H2,Inv X pins σ H2 s2->RelV x v->RelV y u->R x y H2->wpAny (model X.prog X.w) X.A (f v u) Q X.xe s2) :
 wpAny (model X.prog X.w) X.A (eval a X.env) (fun v s₁=>wpAny (model X.prog X.w) X.A (eval b X.env) (fun u s₂=>wpAny (model X.prog X.w) X.A (f v u) Q X.xe s₂) X.xe s₁) X.xe s:=by
 refine thn (ha pins s σ H _ I h) fun v s1 ⟨x,H1,I1,r1,q1⟩=>?_
 refine thn (hb pins s1 σ H1 _ I1 q1) fun u s2 ⟨y,H2,I2,r2,q2⟩=>?_
 exact hf v u s2 x y H2 I2 r1 r2 q2
theorem pe_op {op:Operator} {r:R2} (ho:OpR X (binaryOp op) r) (ha:PE X a ta) (hb:PE X b tb):PE X (.BinOp a op b pos) (tOp r ta tb):=by
 intro pins s σ H Q I h
 exact wpAny_BinOp (binT ha hb I h fun v u s2 x y H2 I2 rx ry q=>ho pins s2 σ H2 x y v u Q I2 rx ry q)
theorem pe_un {op:UnaryOp} {r:V->Hp->VK->Prop} (ho:UnR X (unaryOp op) r) (ha:PE X a ta):PE X (.UnaryOp op a pos) (tUn r ta):=by
 intro pins s σ H Q I h
 exact UnaryOp_ (thn (ha pins s σ H _ I h) fun v s1 ⟨x,H1,I1,r1,q1⟩=>ho pins s1 σ H1 x v Q I1 r1 q1)
theorem opI {f:Value->Value->Sem Value} {C:Int->Int->Prop} {g:Int->Int->Int}
 (rule:∀ (i j:Int) (t u:Tok) (s:Shared) (Q:Value->Shared->Prop) (E:Value->Shared->Prop),C i j->Q (.int (g i j) s.toks) { s with toks:=s.toks+1 }->wpAny (model X.prog X.w) X.A (f (.int i t) (.int j u)) Q E s) :
 OpR X f (rI C fun i j => .int (g i j)):=by
 intro pins s σ H x y v u Q I rx ry h
 obtain ⟨i,j,rfl,rfl,hc,q⟩:=h
 obtain ⟨t,rfl⟩:=rx
 obtain ⟨t',rfl⟩:=ry
 exact rule i j t t' s _ _ hc ⟨.int (g i j),H,I.tok _,⟨_,rfl⟩,q⟩
theorem opI0 {f:Value->Value->Sem Value} {g:Int->Int->Int}
 (rule:∀ (i j:Int) (t u:Tok) (s:Shared) (Q:Value->Shared->Prop) (E:Value->Shared->Prop),Q (.int (g i j) s.toks) { s with toks:=s.toks+1 }->wpAny (model X.prog X.w) X.A (f (.int i t) (.int j u)) Q E s) :
 OpR X f (rI0 fun i j => .int (g i j)):=by
 intro pins s σ H x y v u Q I rx ry h
 obtain ⟨i,j,rfl,rfl,q⟩:=h
 obtain ⟨t,rfl⟩:=rx
 obtain ⟨t',rfl⟩:=ry
 exact rule i j t t' s _ _ ⟨.int (g i j),H,I.tok _,⟨_,rfl⟩,q⟩
theorem opB0 {f:Value->Value->Sem Value} {g:Int->Int->Bool}
 (rule:∀ (i j:Int) (t u:Tok) (s:Shared) (Q:Value->Shared->Prop) (E:Value->Shared->Prop),Q (.bool (g i j)) s->wpAny (model X.prog X.w) X.A (f (.int i t) (.int j u)) Q E s) :
 OpR X f (rI0 fun i j => .bl (g i j)):=by
 intro pins s σ H x y v u Q I rx ry h
 obtain ⟨i,j,rfl,rfl,q⟩:=h
 obtain ⟨t,rfl⟩:=rx
 obtain ⟨t',rfl⟩:=ry
 exact rule i j t t' s _ _ ⟨.bl (g i j),H,I,rfl,q⟩
def CDiv (i j:Int):Prop:=0<j/\j<1073741824
def CPow (i j:Int):Prop:=0<=j/\j<=1000000/\i.natAbs<2 ^ 64
def CMul (i j:Int):Prop:=(-(2 ^ 64)<i/\i<2 ^ 64)\/(-(2 ^ 64)<j/\j<2 ^ 64)
theorem CMul.ok {i j:Int} (h:CMul i j):IntMulOk i j:=by
 rcases h with ⟨h1,h2⟩ | ⟨h1,h2⟩
 ·exact .of_left (intBits_le_64 h1 h2)
 ·exact .of_right (intBits_le_64 h1 h2)
theorem op_add:OpR X (binaryOp .Add) (rI0 fun i j => .int (i+j)):=opI0 fun _ _ _ _ _ _ _ q=>add_int q
theorem op_sub:OpR X (binaryOp .Sub) (rI0 fun i j => .int (i - j)):=opI0 fun _ _ _ _ _ _ _ q=>sub_int q
theorem op_mul:OpR X (binaryOp .Mult) (rI CMul fun i j => .int (i * j)):=opI fun _ _ _ _ _ _ _ hc q=>mul_int q hc.ok
theorem op_fdiv:OpR X (binaryOp .FloorDiv) (rI CDiv fun i j => .int (i / j)):=opI fun i j _ _ _ _ _ hc q=>by
 have h1:(0:Int)<j:=hc.1
 have h2:j<1073741824:=hc.2
 exact floordiv_int (by omega) (by rw [Int.fdiv_eq_ediv_of_nonneg i (by omega)];exact q) (.inl (PyProof.noPylong_small (by omega)))
theorem op_mod:OpR X (binaryOp .Mod) (rI (fun _ j=>0<j) fun i j => .int (i % j)):=opI fun i j _ _ _ _ _ hc q=>by
 have h1:(0:Int)<j:=hc
 exact mod_int' (by omega) (by rw [Int.fmod_eq_emod_of_nonneg i (by omega)];exact q)
theorem op_pow:OpR X (binaryOp .Pow) (rI CPow fun i j => .int (i ^ j.toNat)):=opI fun _ _ _ _ _ _ _ hc q=>pow_int_small hc.1 hc.2.1 hc.2.2 q
theorem unI {f:Value->Sem Value} {g:Int->Int}
 (rule:∀ (i:Int) (t:Tok) (s:Shared) (Q:Value->Shared->Prop) (E:Value->Shared->Prop),Q (.int (g i) s.toks) { s with toks:=s.toks+1 }->wpAny (model X.prog X.w) X.A (f (.int i t)) Q E s) :
 UnR X f (rU fun i => .int (g i)):=by
 intro pins s σ H x v Q I rx h
 obtain ⟨i,rfl,q⟩:=h
 obtain ⟨t,rfl⟩:=rx
 exact rule i t s _ _ ⟨.int (g i),H,I.tok _,⟨_,rfl⟩,q⟩
theorem un_neg:UnR X (unaryOp .USub) (rU fun i => .int (-i)):=unI fun _ _ _ _ _ q=>neg_int q
end
section
variable {X : Cx} {a b c : Expr} {ta tb tc : TE} {pos : Pos}
theorem fin_bl {pins:List (Addr × Obj)} {σ:St} {H:Hp} {s:Shared} {Q:VK} {k k':Bool} (I:Inv X pins σ H s) (q:Q (.bl k) H) (e:k=k'):EP X pins σ Q (.bool k') s:=by
 subst e
 exact ⟨.bl k,H,I,rfl,q⟩
theorem op_lt:OpR X (compareOp .Lt) (rI0 fun i j => .bl (decide (i<j))):=opB0 fun _ _ _ _ _ _ _ q=>lt_int q
theorem op_le:OpR X (compareOp .LtE) (rI0 fun i j => .bl (decide (i<=j))):=opB0 fun _ _ _ _ _ _ _ q=>le_int q
theorem op_gt:OpR X (compareOp .Gt) (rI0 fun i j => .bl (decide (j<i))):=opB0 fun _ _ _ _ _ _ _ q=>gt_int q
theorem op_ge:OpR X (compareOp .GtE) (rI0 fun i j => .bl (decide (j<=i))):=opB0 fun _ _ _ _ _ _ _ q=>ge_int q
theorem op_lt_str:OpR X (compareOp .Lt) (fun x y H Q=>∃ i j,x = .str i/\y = .str j/\Q (.bl (decide (i.cps.toList<j.cps.toList))) H):=by
 intro pins s σ H x y v u Q I rx ry h
 obtain ⟨i,j,rfl,rfl,q⟩:=h
 obtain ⟨t,rfl⟩:=rx
 obtain ⟨t',rfl⟩:=ry
 exact lt_str (fin_bl I q rfl)
theorem op_in_str:OpR X (compareOp .In) (fun x y H Q=>∃ i j,x = .str i/\y = .str j/\Q (.bl (!(Builtin.Str.occurrences j i 0 j.length 1).isEmpty)) H):=by
 intro pins s σ H x y v u Q I rx ry h
 obtain ⟨i,j,rfl,rfl,q⟩:=h
 obtain ⟨t,rfl⟩:=rx
 obtain ⟨t',rfl⟩:=ry
 exact in_str (fin_bl I q rfl)
theorem OpR.or {f:Value->Value->Sem Value} {r r':R2} (h:OpR X f r) (h':OpR X f r'):OpR X f (fun x y H Q=>r x y H Q\/r' x y H Q):=by
 intro pins s σ H x y v u Q I rx ry q
 rcases q with q | q
 ·exact h pins s σ H x y v u Q I rx ry q
 ·exact h' pins s σ H x y v u Q I rx ry q
theorem nomark (b:Expr) {op:CmpOp} (h:op ≠ .In:=by decide) (h2:op ≠ .NotIn:=by decide):behindInMarks op b=false:=by
 have e1:(op == CmpOp.In)=false:=by cases op <;> first | rfl | exact absurd rfl h
 have e2:(op == CmpOp.NotIn)=false:=by cases op <;> first | rfl | exact absurd rfl h2
 cases b <;> simp [behindInMarks,e1,e2]
theorem pe_cmpR {op:CmpOp} {r:R2} (ho:OpR X (compareOp op) r) (ha:PE X a ta) (hb:PE X b tb) (hm:behindInMarks op b=false):PE X (.Compare a [op] [b] pos) (tOp r ta tb):=by
 intro pins s σ H Q I h
 exact wpAny_Compare1 (binT ha hb I h fun v u s2 x y H2 I2 rx ry q=>ho pins s2 σ H2 x y v u Q I2 rx ry q) hm
def tTest (t:TE):TT:=fun σ H Q=>t σ H fun x H'=>∃ k,x = .bl k/\Q k H'
theorem pt_cmpR {op:CmpOp} {r:R2} (ho:OpR X (compareOp op) r) (ha:PE X a ta) (hb:PE X b tb) (hm:behindInMarks op b=false):PT X (.Compare a [op] [b] pos) (tTest (tOp r ta tb)):=by
 intro pins s σ H Q I h
 refine wpAny_isTrue_Compare1 (thn (ha pins s σ H _ I h) fun v s1 ⟨x,H1,I1,r1,q1⟩=>thn (hb pins s1 σ H1 _ I1 q1) fun u s2 ⟨y,H2,I2,r2,q2⟩ =>
  thn (ho pins s2 σ H2 x y v u _ I2 r1 r2 q2) fun c s3 ⟨z,H3,I3,r3,k,e,q3⟩=>?_) hm
 subst e
 cases r3
 exact wpAny_truthy_bool ⟨H3,I3,q3⟩
def tChain (r r':R2) (ta tb tc:TE):TE:=fun σ H Q=>ta σ H fun x H1=>tb σ H1 fun y H2=>r x y H2 fun z H3=>∃ k,z = .bl k /\
 (if k=true then tc σ H3 fun w' H4=>r' y w' H4 Q else Q (.bl false) H3)
theorem pe_chain {op op':CmpOp} {r r':R2} (ho:OpR X (compareOp op) r) (ho':OpR X (compareOp op') r') (ha:PE X a ta) (hb:PE X b tb) (hc:PE X c tc)
 (hm:lastMarks [op,op'] [b,c]=false:=by with_unfolding_all rfl):PE X (.Compare a [op,op'] [b,c] pos) (tChain r r' ta tb tc):=by
 intro pins s σ H Q I h
 refine Compare_chain (thn (ha pins s σ H _ I h) fun v s1 ⟨x,H1,I1,r1,q1⟩=>chain_link (thn (hb pins s1 σ H1 _ I1 q1) fun u s2 ⟨y,H2,I2,r2,q2⟩ =>
  thn (ho pins s2 σ H2 x y v u _ I2 r1 r2 q2) fun d s3 ⟨z,H3,I3,r3,k,e,q3⟩=>?_)) hm
 subst e
 cases r3
 refine wpAny_truthy_bool ?_
 cases k with
 | false=>exact ite_ff ⟨.bl false,H3,I3,rfl,q3⟩
 | true=>exact ite_tt (chain_last (thn (hc pins s3 σ H3 _ I3 q3) fun w' s4 ⟨z',H4,I4,r4,q4⟩=>ho' pins s4 σ H4 y z' u w' Q I4 r2 r4 q4))
def TruV (K:PySem.W.Frag) (x:V) (H:Hp) (k:Bool):Prop :=
 match x with
 | .non=>k=false
 | .bl b=>k=b
 | .int i=>k=(i != 0)
 | .str y=>y.length<=sizeLine/\k=((y.length:Int) != 0)
 | .byt y=>y.size<=sizeLine/\k=((y.size:Int) != 0)
 | .ref p=>(∃ xs,SqL K H p xs/\k = !xs.isEmpty)\/(∃ xs,SqT K H p xs/\k = !xs.isEmpty)\/∃ kvs,H p=some (.dK kvs)/\k = !kvs.isEmpty
 | _=>False
theorem isEmpty_kv {κ:Type} {kvs:List (κ × V)} {vs:List (κ × Value)} (r:KV kvs vs):(!vs.isEmpty) = !kvs.isEmpty:=by
 cases r <;> rfl
theorem isEmpty_of {xs:List V} {its:List Value} (r:Vals xs its):(!its.toArray.isEmpty) = !xs.isEmpty:=by
 cases r <;> simp
theorem line63:(sizeLine:Nat)<2 ^ 63:=by rw [sizeLine_eq];decide
theorem tru_ok:TruR X (fun x H Q=>∃ k,TruV X.K x H k/\Q k H):=by
 intro pins s σ H x v Q I rx h
 obtain ⟨k,e,q⟩:=h
 have hl:=line63
 have hs:sizeLine=16777216:=sizeLine_eq
 cases x with
 | non =>
   cases rx
   have e':k=false:=e
   subst e'
   exact truthy_none ⟨H,I,q⟩
 | bl b =>
   cases rx
   have e':k=b:=e
   subst e'
   exact wpAny_truthy_bool ⟨H,I,q⟩
 | int i =>
   obtain ⟨t,rfl⟩:=rx
   have e':k=(i != 0):=e
   subst e'
   exact PySem.P.truthy_int ⟨H,I,q⟩
 | str y =>
   obtain ⟨t,rfl⟩:=rx
   obtain ⟨hy,e'⟩:y.length<=sizeLine/\k=((y.length:Int) != 0):=e
   subst e'
   exact PySem.P.truthy_str (by omega) ⟨H,I.tok _,q⟩
 | byt y =>
   obtain ⟨t,rfl⟩:=rx
   obtain ⟨hy,e'⟩:y.size<=sizeLine/\k=((y.size:Int) != 0):=e
   subst e'
   exact PySem.W.truthy_bytes (by omega) ⟨H,I.tok _,q⟩
 | ref p =>
   cases rx
   have e':(∃ xs,SqL X.K H p xs/\k = !xs.isEmpty)\/(∃ xs,SqT X.K H p xs/\k = !xs.isEmpty)\/∃ kvs,H p=some (.dK kvs)/\k = !kvs.isEmpty:=e
   rcases e' with ⟨xs,hx,e'⟩ | ⟨xs,hx,e'⟩ | ⟨kvs,hx,e'⟩
   ·subst e'
    obtain ⟨its,r,pl,hz⟩:=I.list hx
    have hlen:=r.length
    exact wpAny_truthy_list pl.isList (by simp only [List.size_toArray];omega) ⟨H,I.tok _,by rw [isEmpty_of r];exact q⟩
   ·subst e'
    obtain ⟨its,r,pl,hz⟩:=I.tuple hx
    have hlen:=r.length
    exact truthy_tuple pl (by simp only [List.size_toArray];omega) ⟨H,I.tok _,by rw [isEmpty_of r];exact q⟩
   ·subst e'
    obtain ⟨hz,hS,vs,r,m⟩:kvs.length<=sizeLine/\(p == sysModules)=false/\∃ vs,KV kvs vs/\s.heap.DictOf (mixKind X.prog X.w) p vs:=I.hok p _ hx
    have hlen:kvs.length=vs.length:=Paired.length r
    exact wpAny_truthy_dict hS m (by omega) ⟨H,I.tok _,by rw [isEmpty_kv r];exact q⟩
 | _=>exact (show False from e).elim
theorem pt_truth (ha:PE X a ta) (he:∀ whole,isTrue a X.env whole=(do let v <- whole;standAt a.pos;holding [v] (truthy v))) :
 PT X a (fun σ H Q=>ta σ H fun x H'=>∃ k,TruV X.K x H' k/\Q k H'):=by
 intro pins s σ H Q I h
 exact isTrue_plain (thn (ha pins s σ H _ I h) fun v s1 ⟨x,H1,I1,r1,q1⟩=>tru_ok pins s1 σ H1 x v Q I1 r1 q1) (he _)
theorem op_add_str:OpR X (binaryOp .Add) (fun x y H Q=>∃ i j,x = .str i/\y = .str j/\i.length+j.length<=sizeLine/\Q (.str (i++j)) H):=by
 intro pins s σ H x y v u Q I rx ry h
 obtain ⟨i,j,rfl,rfl,hz,q⟩:=h
 obtain ⟨t,rfl⟩:=rx
 obtain ⟨t',rfl⟩:=ry
 exact add_str (fun t' tk=>⟨.str (i++j),H,I.tok _,⟨_,rfl⟩,q⟩) hz
theorem vals1 {x:V} {us:List Value} (r:Vals [x] us):∃ u,us = [u]/\RelV x u:=by
 cases r with
 | cons r1 r2=>cases r2;exact ⟨_,rfl,r1⟩
theorem call_int1:CallR X (.type "int") (fun xs H Q=>(∃ i,xs = [.int i]/\Q (.int i) H)\/∃ k,xs = [.bl k]/\Q (.int (if k then 1 else 0)) H):=by
 intro pins s σ H xs us Q I r h
 rcases h with ⟨i,rfl,q⟩ | ⟨k,rfl,q⟩
 ·obtain ⟨u,rfl,t,rfl⟩:=vals1 r
  exact call_int_int ⟨.int i,H,I,⟨_,rfl⟩,q⟩
 ·obtain ⟨u,rfl,r1⟩:=vals1 r
  cases r1
  exact call_int_bool ⟨.int (if k then 1 else 0),H,I.tok _,⟨_,rfl⟩,q⟩
theorem call_str_int:CallR X (.type "str") (fun xs H Q=>∃ i,xs = [.int i]/\i.natAbs.log2<1920/\Q (.str (toString i)) H):=by
 intro pins s σ H xs us Q I r h
 obtain ⟨i,rfl,hz,q⟩:=h
 obtain ⟨u,rfl,t,rfl⟩:=vals1 r
 exact PySem.P.str_of_int hz ⟨.str _,H,I.tok _,⟨_,rfl⟩,q⟩
def LenV (K:PySem.W.Frag) (x:V) (H:Hp) (n:Nat):Prop :=
 match x with
 | .str y=>y.length<=sizeLine/\n=y.length
 | .byt y=>y.size<=sizeLine/\n=y.size
 | .ref p=>(∃ xs,SqL K H p xs/\n=xs.length)\/∃ xs,SqT K H p xs/\n=xs.length
 | _=>False
theorem call_len:CallR X (.builtin "len") (fun xs H Q=>∃ x n,xs = [x]/\LenV X.K x H n/\Q (.int n) H):=by
 intro pins s σ H xs us Q I r h
 obtain ⟨x,n,rfl,e,q⟩:=h
 obtain ⟨u,rfl,rx⟩:=vals1 r
 have hl:=line63
 have hs:sizeLine=16777216:=sizeLine_eq
 cases x with
 | str y =>
   obtain ⟨t,rfl⟩:=rx
   obtain ⟨hy,e'⟩:y.length<=sizeLine/\n=y.length:=e
   subst e'
   exact len_str (by omega) ⟨.int _,H,I.tok _,⟨_,rfl⟩,q⟩
 | byt y =>
   obtain ⟨t,rfl⟩:=rx
   obtain ⟨hy,e'⟩:y.size<=sizeLine/\n=y.size:=e
   subst e'
   exact PySem.W.len_bytes (by omega) ⟨.int _,H,I.tok _,⟨_,rfl⟩,q⟩
 | ref p =>
   cases rx
   have e':(∃ xs,SqL X.K H p xs/\n=xs.length)\/∃ xs,SqT X.K H p xs/\n=xs.length:=e
   rcases e' with ⟨xs,hx,e'⟩ | ⟨xs,hx,e'⟩
   ·subst e'
    obtain ⟨its,r',pl,hz⟩:=I.list hx
    have hlen:=r'.length
    exact Calls.call_len_list pl.isList (by simp only [List.size_toArray];omega) ⟨.int xs.length,H,I.tok _,⟨_,by simp only [List.size_toArray];rw [hlen]⟩,q⟩
   ·subst e'
    obtain ⟨its,r',pl,hz⟩:=I.tuple hx
    have hlen:=r'.length
    exact len_tuple pl (by simp only [List.size_toArray];omega) ⟨.int xs.length,H,I.tok _,⟨_,by simp only [List.size_toArray];rw [hlen]⟩,q⟩
 | _=>exact (show False from e).elim
end
end L2
namespace L2
open PySem PySem.Spec PyProof.Rows
structure ObjM (h:Heap) (x dx C:Addr) (mA:Str->Option Value):Prop where
 obj:h.get? x=some (PySem.W.instObj C dx)
 ns:h.Ns1 dx mA
 ne:dx ≠ x
theorem lookIn_ns {h:Heap} {dx:Addr} {mA:Str->Option Value} (n:h.Ns1 dx mA):∃ od,h.get? dx=some od/\∀ name,PySem.W.lookIn name od=some (mA name):=by
 obtain ⟨o,es,ep,ho,hd,hk,_,hm⟩:=n
 refine ⟨o,ho,fun name=>?_⟩
 have e:=hm name
 unfold nsFind findBy at e
 rw [<- Array.find?_toList] at e
 unfold PySem.W.lookIn
 rw [hd]
 dsimp only
 split
 ·rename_i y q
  rw [q] at e
  exact congrArg some e
 ·rename_i q
  rw [q] at e
  have a:es.toList.any (·.refKey)=false:=by
   rw [List.any_eq_false]
   intro y hy
   obtain ⟨z,t,hkey⟩:=hk y (Array.mem_toList_iff.mp hy)
   simp [DictEntry.refKey,hkey]
  have a':¬ es.toList.any (·.refKey)=true:=by rw [a];exact Bool.false_ne_true
  rw [if_neg a']
  exact congrArg some e
theorem ObjM.look {h:Heap} {x dx C:Addr} {mA:Str->Option Value} (I:ObjM h x dx C mA):∃ od,PySem.W.InstAt h x (PySem.W.instObj C dx) C (some od)/\∀ name,PySem.W.lookIn name od=some (mA name) :=
 let ⟨od,ho,hl⟩:=lookIn_ns I.ns
 ⟨od,⟨I.obj,rfl,rfl,ho⟩,hl⟩
def putF (f:Str) (v:V):List (Str × V)->List (Str × V)
 | [] => [(f,v)]
 | (g,x)::r=>if g=f then (g,v)::r else (g,x)::putF f v r
theorem lookup_putF (f g:Str) (v:V):∀ fs:List (Str × V),(putF f v fs).lookup g=if g=f then some v else fs.lookup g
 | []=>by
   show List.lookup g [(f,v)]=_
   by_cases h:g=f
   ·have hb:(g == f)=true:=beq_iff_eq.mpr h
    simp only [List.lookup,hb,if_pos h]
   ·have hb:(g == f)=false:=beq_eq_false_iff_ne.mpr h
    simp only [List.lookup,hb,if_neg h]
 | (k,x)::r=>by
   have ih:=lookup_putF f g v r
   rw [show putF f v ((k,x)::r)=(if k=f then (k,v)::r else (k,x)::putF f v r) from rfl]
   by_cases hk:k=f
   ·rw [if_pos hk]
    by_cases h:g=k
    ·have hb:(g == k)=true:=beq_iff_eq.mpr h
     simp only [List.lookup,hb,if_pos (h.trans hk)]
    ·have hb:(g == k)=false:=beq_eq_false_iff_ne.mpr h
     simp only [List.lookup,hb,if_neg (fun e:g=f=>h (e.trans hk.symm))]
   ·rw [if_neg hk]
    by_cases h:g=k
    ·have hb:(g == k)=true:=beq_iff_eq.mpr h
     simp only [List.lookup,hb,if_neg (fun e:g=f=>hk (h.symm.trans e))]
    ·have hb:(g == k)=false:=beq_eq_false_iff_ne.mpr h
     simp only [List.lookup,hb]
     exact ih
theorem RelO.some_of {v:V} {o:Option Value} (r:RelO (some v) o):∃ u,o=some u/\RelV v u:=by
 cases o with
 | none=>exact (show False from r).elim
 | some u=>exact ⟨u,rfl,r⟩
section
variable {P : Program} {w : World} {H H' : Hp} {h h' : Heap} {a C dx : Addr} {fs fs' : List (Str × V)}
theorem ins_get (hok:HOk P w H h) (e:H a=some (.ins C dx fs)):∃ mA,ObjM h a dx C mA/\(∀ f,RelO (fs.lookup f) (mA f))/\PySem.Within mA (fs.map (·.1))/\fs.length<=1000/\H dx=some (.own a):=by
 obtain ⟨d,z,ne,ob,mA,n,r,q⟩:=(show ObjOk P w H h a (.ins C dx fs) from hok a _ e)
 exact ⟨mA,⟨ob,n,ne⟩,r,q,z,d⟩
end
structure Cls (K:PySem.W.Frag) (C:Addr):Prop where
 pg:PySem.W.plainGet K C Str.empty=true
 hd:PySem.W.hasDictIn K C=true
 po:PySem.W.plainOver K C=true
 sa:PySem.W.findIn K (.ref C) "__setattr__" = some (some (.builtin "object.__setattr__"))
theorem Cls.get {K:PySem.W.Frag} {C:Addr} (c:Cls K C) (f:Str):PySem.W.plainGet K C f=true:=c.pg
section
variable {X : Cx} {pins : List (Addr × Obj)} {σ : St} {H : Hp} {s : Shared} {A : Around} {E : Value → Shared → Prop} {Q : Value → Shared → Prop} {c : Value} {b : Bool}
inductive TyOf (K:PySem.W.Frag) (H:Hp):V->Value->Prop where
 | non:TyOf K H .non (.type "NoneType")
 | bl (x:Bool):TyOf K H (.bl x) (.type "bool")
 | int (i:Int):TyOf K H (.int i) (.type "int")
 | str (x:Str):TyOf K H (.str x) (.type "str")
 | flt (x:UInt64):TyOf K H (.flt x) (.type "float")
 | lst {a:Addr} {xs:List V} (e:H a=some (.lst xs)):TyOf K H (.ref a) (.type "list")
 | frz {a:Addr} {o:Obj} {xs:List V} (e:H a=some (.frz o (.lst xs))):TyOf K H (.ref a) (.type "list")
 | tup {a:Addr} {xs:List V} (e:H a=some (.tup xs)):TyOf K H (.ref a) (.type "tuple")
 | dK {a:Addr} {kvs:List (Key × V)} (e:H a=some (.dK kvs)):TyOf K H (.ref a) (.type "dict")
 | dT {a:Addr} {kvs:List (List Key × V)} (e:H a=some (.dT kvs)):TyOf K H (.ref a) (.type "dict")
 | ins {a C dx:Addr} {fs:List (Str × V)} (e:H a=some (.ins C dx fs)) (cl:Cls K C) (ha:PySem.W.findIn K (.ref C) "__class__" = some (some (.builtin "object.__class__")))
  (hn:PySem.W.specialIn K (.builtin "object.__class__") "__get__" = some (some (.builtin "getset_descriptor.__get__"))) (htk:PySem.W.takesIn K (.builtin "object.__class__")=some true)
  (hm:PySem.W.mroIn K C (.type "object")=some true):TyOf K H (.ref a) (.ref C)
theorem isinst_ok {x:V} {u t:Value} (I:Inv X pins σ H s) (rx:RelV x u) (ty:TyOf X.K H x t) (e:PySem.W.kitOne X.K t c=some b) (h:∀ tk,Q (.bool b) { s with toks:=tk }) :
 wpAny (model X.prog X.w) A (call (.builtin "isinstance") [u,c]) Q E s:=by
 cases ty with
 | non=>cases (show u=Value.none from rx);exact PySem.W.kia_one PySem.W.kitx_none I.kIn True.intro e (fun z=>nomatch z) h
 | bl y=>cases (show u=Value.bool y from rx);exact PySem.W.kia_one PySem.W.kitx_bool I.kIn True.intro e (fun z=>nomatch z) h
 | int i=>obtain ⟨t,q⟩:=(show ∃ t,u=Value.int i t from rx);cases q;exact PySem.W.kia_one PySem.W.kitx_int I.kIn True.intro e (fun z=>nomatch z) h
 | str y=>obtain ⟨t,q⟩:=(show ∃ t,u=Value.str y t from rx);cases q;exact PySem.W.kia_one PySem.W.kitx_str I.kIn True.intro e (fun z=>nomatch z) h
 | flt y=>obtain ⟨t,q⟩:=(show ∃ t,u=Value.float y t from rx);cases q;exact PySem.W.kia_one PySem.W.kitx_float I.kIn True.intro e (fun z=>nomatch z) h
 | @lst a xs ea =>
   cases (show u=Value.ref a from rx)
   obtain ⟨_,_,n,_,h1⟩:=(show ObjOk X.prog X.w H s.heap a (.lst xs) from I.hok a _ ea)
   exact PySem.W.kia_one PySem.W.kitx_list I.kIn ⟨_,h1,rfl⟩ e (fun z=>nomatch z) h
 | @frz a ob xs ea =>
   cases (show u=Value.ref a from rx)
   obtain ⟨_,_,_,n,_,h1⟩:=(show ObjOk X.prog X.w H s.heap a (.frz ob (.lst xs)) from I.hok a _ ea)
   exact PySem.W.kia_one PySem.W.kitx_list I.kIn ⟨_,h1,rfl⟩ e (fun z=>nomatch z) h
 | @tup a xs ea =>
   cases (show u=Value.ref a from rx)
   obtain ⟨_,_,_,p⟩:=(show ObjOk X.prog X.w H s.heap a (.tup xs) from I.hok a _ ea)
   obtain ⟨o,h1,h2,_⟩:=p
   exact PySem.W.kia_one PySem.W.kitx_tuple I.kIn ⟨o,h1,h2⟩ e (fun z=>nomatch z) h
 | @dK a kvs ea =>
   cases (show u=Value.ref a from rx)
   obtain ⟨_,_,vs,_,p⟩:=(show ObjOk X.prog X.w H s.heap a (.dK kvs) from I.hok a _ ea)
   obtain ⟨o,es,ep,h1,h2,_⟩:=p
   exact PySem.W.kia_one PySem.W.kitx_dict I.kIn ⟨o,h1,h2.1⟩ e (fun z=>nomatch z) h
 | @dT a kvs ea =>
   cases (show u=Value.ref a from rx)
   obtain ⟨_,_,xs,_,o,es,ep,h1,h2,_⟩:=(show ObjOk X.prog X.w H s.heap a (.dT kvs) from I.hok a _ ea)
   exact PySem.W.kia_one PySem.W.kitx_dict I.kIn ⟨o,h1,h2.1⟩ e (fun z=>nomatch z) h
 | @ins a C dx fs ea cl ha hn htk hm =>
   cases (show u=Value.ref a from rx)
   obtain ⟨mA,O,_⟩:=ins_get I.hok ea
   obtain ⟨od,J,_⟩:=O.look
   exact PySem.W.kia_one (PySem.W.kitx_own (cl.get _) cl.hd ha hn htk hm) I.kIn J e (fun z=>nomatch z) h
end
end L2
namespace L2
open PySem PySem.Spec PyProof.Rows
structure Room (k:Nat) (A:Around):Prop where
 hd:A.handled=none
 dp:A.depth+3 * k+5<recursionLimit
 un:A.units+16 * k+200<cLine
 gd:A.guards=some []
theorem Room.mono {j k:Nat} {A:Around} (r:Room k A) (h:j<=k):Room j A:=⟨r.hd,by have:=r.dp;omega,by have:=r.un;omega,r.gd⟩
theorem Room.deeper {k:Nat} {A:Around} (r:Room (k+1) A) (env:Env):Room k (A.deeper env) :=
 ⟨r.hd,by have:=r.dp;show A.depth+1+3 * k+5<_;omega,by have:=r.un;show A.units+3+16 * k+200<_;omega,r.gd⟩
theorem make_depth {A:Around} {C:Addr} {us:List Value} {kw:List (Str × Value)}:(A.under (.builtin "type.__call__" ⟨.ref C::us,kw⟩)).depth=A.depth+1:=by
 first | rfl | simp [Around.under,Code.weight,Code.isCreation,Code.isGuard,Code.isCaller,Code.frames,Code.isFrame,guardIds]
theorem make_units {A:Around} {C:Addr} {us:List Value} {kw:List (Str × Value)}:(A.under (.builtin "type.__call__" ⟨.ref C::us,kw⟩)).units=A.units+1:=by
 first | rfl | simp [Around.under,Code.cUnits,Code.frames,Code.isFrame]
theorem Room.make {k:Nat} {A:Around} (r:Room (k+1) A) (C:Addr) (us:List Value) (kw:List (Str × Value)):Room k (A.under (.builtin "type.__call__" ⟨.ref C::us,kw⟩)) :=
 ⟨r.hd,by have:=r.dp;rw [make_depth];omega,by have:=r.un;rw [make_units];omega,by first | exact r.gd | (simpa [Around.under,Code.isGuard,guardIds] using r.gd)⟩
theorem Room.depth {k:Nat} {A:Around} (r:Room k A):A.depth<recursionLimit:=by have:=r.dp;omega
theorem Room.units {k:Nat} {A:Around} (r:Room k A):A.units+64<cLine:=by have:=r.un;omega
def tNil:TA:=fun _ H Q=>Q [] H
def tCons (ta:TE) (tr:TA):TA:=fun σ H Q=>ta σ H fun x H1=>tr σ H1 fun xs H2=>Q (x::xs) H2
section
variable {X : Cx} {e : Expr} {es : List Expr} {te : TE} {t : TA} {pos : Pos}
theorem pa_nil:PA X [] tNil:=fun _ _ _ _ H Q I h=>Calls.spliced_nil ⟨[],H,I,.nil,h⟩
theorem pa_cons (ha:PE X e te) (hr:PA X es t) (hs:starEach (e::es) X.env=(false,eval e X.env)::starEach es X.env:=by rfl):PA X (e::es) (tCons te t):=by
 intro pos pins s σ H Q I h
 rw [hs]
 show wpAny _ _ (spliced ((false,eval e X.env)::backTo pos (starEach es X.env))) _ _ s
 refine Calls.spliced_cons (thn (ha pins s σ H _ I h) fun u s1 ⟨x,H1,I1,r1,q1⟩=>?_)
 exact thn (hr pos pins s1 σ H1 _ I1 q1) fun us s2 ⟨xs,H2,I2,r2,q2⟩=>⟨x::xs,H2,I2,.cons r1 r2,q2⟩
def tTup (t:TA):TE:=fun σ H Q=>t σ H fun xs H1=>xs.length<=sizeLine/\∀ p,H1 p=none->Q (.ref p) (upd H1 p (.tup xs))
def tLst (t:TA):TE:=fun σ H Q=>t σ H fun xs H1=>xs.length<=sizeLine/\∀ p,H1 p=none->Q (.ref p) (upd H1 p (.lst xs))
theorem pe_tup {x1} (h:PA X es t):PE X (.Tuple es x1 pos) (tTup t):=by
 intro pins s σ H Q I hq
 refine wpAny_Tuple_spliced (thn (h pos pins s σ H _ I hq) fun us s1 ⟨xs,H1,I1,r,z,q⟩=>⟨by rw [<- r.length];exact z,?_⟩)
 have hf:H1 s1.heap.objs.size=none:=I1.hok.fresh (Nat.le_refl _)
 refine ⟨.ref s1.heap.objs.size,upd H1 s1.heap.objs.size (.tup xs),I1.laid (t':=s1.toks) (fun b u e=>Heap.get?_push_of_some _ e) (Nat.le_refl _) ?_,rfl,q _ hf⟩
 exact ⟨z,us,r,⟨_,Heap.get?_push_size _ rfl,rfl,_,rfl⟩⟩
theorem pe_lst (h:PA X es t):PE X (.List es pos) (tLst t):=by
 intro pins s σ H Q I hq
 refine wpAny_List_spliced (thn (h pos pins s σ H _ I hq) fun us s1 ⟨xs,H1,I1,r,z,q⟩=>⟨by rw [<- r.length];exact z,?_⟩)
 have hf:H1 s1.heap.objs.size=none:=I1.hok.fresh (Nat.le_refl _)
 refine ⟨.ref s1.heap.objs.size,upd H1 s1.heap.objs.size (.lst xs),I1.laid (t':=s1.toks) (fun b u e=>Heap.get?_push_of_some _ e) (Nat.le_refl _) ?_,rfl,q _ hf⟩
 exact ⟨z,us,0,r,Heap.get?_push_size _ rfl⟩
end
abbrev Sp:=List V->Hp->VK->XK->Prop
abbrev CXT:=List Env->Hp->Shared->XK->Value->Shared->Prop
structure Env0 (P:Program) (w:World) (K:PySem.W.Frag) (mg:Str->Option Value) (base:Heap) (A:Around) (outer:List Env) (s:Shared) (H:Hp):Prop where
 frames:A.frames=some outer
 mod:Mod K mg base
 bs:∀ b o,base.get? b=some o->s.heap.get? b=some o/\H b=none
 bsz:base.objs.size<=s.heap.objs.size
 funs:s.heap.FunFrames base outer
 frf:∀ b ∈ frs outer,H b=none
 hok:HOk P w H s.heap
 bare:AllBare s.gens
def CE (outer:List Env) (P:Program) (w:World) (H:Hp) (s:Shared) (Q:VK) (u:Value) (s':Shared):Prop :=
 ∃ v H',s'.os=s.os/\AllBare s'.gens/\Un (frs outer) [] H H' s.heap s'.heap/\HOk P w H' s'.heap/\RelV v u/\Q v H'
def CR (CX:CXT) (outer:List Env) (P:Program) (w:World) (H:Hp) (s:Shared) (Q:VK) (E:XK) (r:Result) (s':Shared):Prop :=
 match r with
 | .ok (.ret u)=>CE outer P w H s Q u s'
 | .ok _=>False
 | .error e=>CX outer H s E e s'
structure FnOk (P:Program) (w:World) (K:PySem.W.Frag) (mg:Str->Option Value) (base:Heap) (CX:CXT) (k:Nat) (f:Addr) (fd:FuncData) (ps:List Str) (sp:Sp):Prop where
 len:∀ vs H Q E,sp vs H Q E->vs.length=ps.length
 run:∀ (A:Around) (outer:List Env) (s:Shared) (H:Hp) (args:Args) (us:List Value) (vs:List V) (Q:VK) (E:XK),Room k A->Env0 P w K mg base A outer s H->BindsTo s fd args (ps.zip us)->Vals vs us->sp vs H Q E ->
  codeAny (model P w) A (.call (.ref f) args) (CR CX outer P w H s Q E) s
theorem FnOk.mono {P:Program} {w:World} {K:PySem.W.Frag} {mg:Str->Option Value} {base:Heap} {CX:CXT} {j k:Nat} {f:Addr} {fd:FuncData} {ps:List Str} {sp:Sp} (F:FnOk P w K mg base CX j f fd ps sp) (h:j<=k) :
 FnOk P w K mg base CX k f fd ps sp:=⟨F.len,fun A outer s H args us vs Q E hr=>F.run A outer s H args us vs Q E (hr.mono h)⟩
theorem Env0.make {P:Program} {w:World} {K:PySem.W.Frag} {mg:Str->Option Value} {base:Heap} {A:Around} {outer:List Env} {s:Shared} {H:Hp} (e:Env0 P w K mg base A outer s H) (C:Addr) (us:List Value) (kw:List (Str × Value)) :
 Env0 P w K mg base (A.under (.builtin "type.__call__" ⟨.ref C::us,kw⟩)) outer s H:=⟨by first | exact e.frames | (simpa [Around.under,Code.envs,Code.isFrame,pushEnvs] using e.frames),e.mod,e.bs,e.bsz,e.funs,e.frf,e.hok,e.bare⟩
section
variable {X : Cx} {pins : List (Addr × Obj)} {σ : St} {H : Hp} {s s' : Shared}
theorem Inv.env0 (I:Inv X pins σ H s):Env0 X.prog X.w X.K X.mg X.base X.A X.stack s H :=
 ⟨I.ok.frames,I.ok.mod,I.bs,Nat.le_trans I.ok.bsz I.sz,I.stack,I.stkFree,I.hok,I.bare⟩
theorem Inv.after {Q:VK} {u:Value} (I:Inv X pins σ H s) (h:CE X.stack X.prog X.w H s Q u s'):EP X pins σ Q u s':=by
 obtain ⟨v,H',os,bare,un,hok,r,q⟩:=h
 obtain ⟨hh,g,d,t,os'⟩:=s'
 obtain rfl:os'=s.os:=os
 exact ⟨v,H',I.call (h':=hh) (g':=g) (d':=d) (t':=t) (ch := []) un hok bare (fun b z=>absurd z (by simp)),r,q⟩
end
def tCall (sp:Sp) (dvs:List V) (E:XK) (t:TA):TE:=fun σ H Q=>t σ H fun vs H1=>sp (vs++dvs) H1 Q E
def Binds (K:PySem.W.Frag) (fd:FuncData) (ps:List Str) (ds:List Value):Prop :=
 ∀ (s:Shared) (us:List Value),K.In s.heap->(us++ds).length=ps.length->BindsTo s fd ⟨us,[]⟩ (ps.zip (us++ds))
theorem Binds.all {K:PySem.W.Frag} {fd:FuncData} {ps:List Str} (h:∀ us:List Value,us.length=ps.length->bindArgs fd ⟨us,[]⟩=pure (ps.zip us)):Binds K fd ps []:=fun s us _ hl=>by
 rw [List.append_nil] at hl ⊢
 exact .of_eq (h us hl)
def Passes (CX:CXT) (X:Cx) (E:XK):Prop:=∀ (pins:List (Addr × Obj)) (σ:St) (H:Hp) (s:Shared) (e:Value) (s':Shared),Inv X pins σ H s->CX X.stack H s E e s'->X.xe e s'
section
variable {X : Cx} {CX : CXT} {k : Nat} {f C : Addr} {fd : FuncData} {ps : List Str} {sp : Sp} {dvs : List V} {ds : List Value} {E : XK} {x m : Str} {p pos apos : Pos} {e o : Expr} {es : List Expr} {ta : TE} {t : TA}
theorem run_fn {pins:List (Addr × Obj)} {σ:St} {H:Hp} {s:Shared} {Q:VK} {us:List Value} {vs:List V} (F:FnOk X.prog X.w X.K X.mg X.base CX k f fd ps sp) (hr:Room k X.A) (hb:Binds X.K fd ps ds) (hd:Vals dvs ds) (hx:Passes CX X E)
 (I:Inv X pins σ H s) (r:Vals vs us) (h:sp (vs++dvs) H Q E):wpAny (model X.prog X.w) X.A (call (.ref f) us) (EP X pins σ Q) X.xe s:=by
 have r2:Vals (vs++dvs) (us++ds):=r.append hd
 have hl:(us++ds).length=ps.length:=by rw [<- r2.length];exact F.len _ _ _ _ h
 refine wpAny_call (codeAny_mono (F.run X.A X.stack s H ⟨us,[]⟩ (us++ds) (vs++dvs) Q E hr I.env0 (hb s us I.kIn hl) r2 h) fun r s' hq=>?_)
 cases r with
 | error e=>exact hx pins σ H s e s' I hq
 | ok fl =>
   cases fl with
   | ret u=>exact I.after hq
   | next=>exact False.elim hq
   | brk=>exact False.elim hq
   | cont=>exact False.elim hq
theorem pe_call (F:FnOk X.prog X.w X.K X.mg X.base CX k f fd ps sp) (hr:Room k X.A) (hg:Gl X x) (hm:X.mg x=some (.ref f)) (hk:PySem.W.keepIn X.K (.ref f)=true) (hb:Binds X.K fd ps ds) (hd:Vals dvs ds) (hx:Passes CX X E)
 (ha:PA X (e::es) t) (hdb:(x == ("__debug__" : Str))=false:=by decide) (he:starEach (e::es) X.env=(false,eval e X.env)::starEach es X.env:=by rfl) (hpl:(backTo pos (starEach es X.env)).any (·.1)=false:=by rfl) :
 PE X (.Call (.Name x p) (e::es) [] pos) (tCall sp dvs E t):=by
 intro pins s σ H Q I h
 refine wpAny_Call_Name_kw (ld_glob I hg hm ?_ hdb)
 refine PySem.W.callWith_K (h₀:=X.base) I.ok.mod.kin hk (thn (ha pos pins s σ H _ I h) fun us s1 ⟨vs,H1,I1,r,q⟩=>⟨I1.kIn,?_⟩) he hpl
 exact run_fn F hr hb hd hx I1 r q
end
structure FnScope (N P:List Str) (sc:Scope):Prop where
 kind:sc.kind = .function
 co:sc.isCoroutine=false
 gen:sc.isGenerator=false
 nd:N.Nodup
 pre:N.take P.length=P
 par:∀ x ∈ P,sc.names.lookup x=some .local\/sc.names.lookup x=some .cell
 nofree:∀ y ∈ sc.names,y.2 ≠ .free
theorem bindL_out {kindOf:Str->Option NameKind} {x:Str}:∀ {binds:List (Str × Value)} {m:Str->Option Value},(∀ v,(x,v) ∉ binds)->bindL kindOf binds m x=m x
 | [],_,_=>rfl
 | (n,v)::r,m,h=>by
   unfold bindL
   rw [bindL_out fun w hw=>h w (List.mem_cons_of_mem _ hw)]
   split
   ·have:x ≠ n:=by rintro rfl;exact h v List.mem_cons_self
    simp [this]
   ·rfl
theorem bindC_out {kindOf:Str->Option NameKind} {x:Str}:∀ {binds:List (Str × Value)} {m:Str->Option Value},(∀ v,(x,v) ∉ binds)->bindC kindOf binds m x=m x
 | [],_,_=>rfl
 | (n,v)::r,m,h=>by
   unfold bindC
   rw [bindC_out fun w hw=>h w (List.mem_cons_of_mem _ hw)]
   split
   ·rfl
   ·have:x ≠ n:=by rintro rfl;exact h v List.mem_cons_self
    simp [this]
theorem bindL_get {kindOf:Str->Option NameKind} {x:Str} {v:Value}:∀ {P:List Str} {vs:List Value} {i:Nat} {m:Str->Option Value},P.Nodup->P[i]? = some x->vs[i]? = some v->kindOf x=some .local ->
 bindL kindOf (P.zip vs) m x=some v
 | [],_,_,_,_,h,_,_=>by simp at h
 | _::_,[],_,_,_,_,h,_=>by simp at h
 | p::P,w::vs,0,m,nd,h1,h2,hk=>by
   simp at h1 h2;subst h1;subst h2
   show bindL kindOf ((p,w)::P.zip vs) m p=_
   unfold bindL
   rw [bindL_out fun v hv=>(List.nodup_cons.mp nd).1 (List.of_mem_zip hv).1,if_pos hk]
   simp
 | p::P,w::vs,i+1,m,nd,h1,h2,hk=>by
   show bindL kindOf ((p,w)::P.zip vs) m x=_
   unfold bindL
   exact bindL_get (i:=i) (List.nodup_cons.mp nd).2 (by simpa using h1) (by simpa using h2) hk
theorem bindC_get {kindOf:Str->Option NameKind} {x:Str} {v:Value}:∀ {P:List Str} {vs:List Value} {i:Nat} {m:Str->Option Value},P.Nodup->P[i]? = some x->vs[i]? = some v->kindOf x ≠ some .local ->
 bindC kindOf (P.zip vs) m x=some v
 | [],_,_,_,_,h,_,_=>by simp at h
 | _::_,[],_,_,_,_,h,_=>by simp at h
 | p::P,w::vs,0,m,nd,h1,h2,hk=>by
   simp at h1 h2;subst h1;subst h2
   show bindC kindOf ((p,w)::P.zip vs) m p=_
   unfold bindC
   rw [bindC_out fun v hv=>(List.nodup_cons.mp nd).1 (List.of_mem_zip hv).1,if_neg hk]
   simp
 | p::P,w::vs,i+1,m,nd,h1,h2,hk=>by
   show bindC kindOf ((p,w)::P.zip vs) m x=_
   unfold bindC
   exact bindC_get (i:=i) (List.nodup_cons.mp nd).2 (by simpa using h1) (by simpa using h2) hk
def start (N:List Str) (vs:List V):St:=vs.map some++List.replicate (N.length - vs.length) none
def cxOf (CX:CXT) (P:Program) (w:World) (K:PySem.W.Frag) (mg:Str->Option Value) (base:Heap) (N:List Str) (qual:Str) (scope:Scope) (f:Addr) (cd:Value) (A:Around) (outer:List Env) (s:Shared) (H:Hp) (E:XK):Cx where
 prog:=P
 w:=w
 K:=K
 mg:=mg
 base:=base
 A:=A.deeper (envOfC qual scope s.heap.objs.size f cd)
 N:=N
 s₀:=s
 H₀:=H
 env:=envOfC qual scope s.heap.objs.size f cd
 outer:=outer
 stack:=envOfC qual scope s.heap.objs.size f cd::outer
 ex := []
 calm:=true
 fn:=fun _=>true
 pn := []
 xe:=fun e s'=>wpAny (model P w) (A.deeper (envOfC qual scope s.heap.objs.size f cd)) (leaving (envOfC qual scope s.heap.objs.size f cd) e) (fun _ s''=>CX outer H s E e s'') (fun e' s''=>CX outer H s E e' s'') s'
theorem cell_has {sc:Scope} {n:Nat} {x:Str} (h:sc.names.lookup x=some .cell):∃ c,(cellsFrom n sc.names []).lookup x=some c:=by
 have q:=PySem.W.cellsFrom_some sc.names n [] (.inl h)
 exact Option.isSome_iff_exists.mp q
theorem inv_start {CX:CXT} {P:Program} {w:World} {K:PySem.W.Frag} {mg:Str->Option Value} {base:Heap} {N ps:List Str} {qual:Str} {scope:Scope} {f:Addr} {cd:Value} {A:Around} {outer:List Env} {s s1:Shared} {H:Hp} {E:XK} {us:List Value} {vs:List V}
 (S:FnScope N ps scope) (hd:A.handled=none) (e0:Env0 P w K mg base A outer s H) (hl:vs.length=ps.length) (r:Vals vs us)
 (x:InCallC s s.heap.objs.size (bindL (envOfC qual scope s.heap.objs.size f cd).kindOf (ps.zip us) fun _=>none) (cellsFrom (s.heap.objs.size+1) scope.names []) (bindC (envOfC qual scope s.heap.objs.size f cd).kindOf (ps.zip us) fun _=>none) s1) :
 Inv (cxOf CX P w K mg base N qual scope f cd A outer s H E) [] (start N vs) H s1:=by
 have hpl:ps.length<=N.length:=by have:=congrArg List.length S.pre;rw [List.length_take] at this;omega
 obtain ⟨h1,tk,rfl,hk⟩:=x.done
 have noA:∀ b:Addr,b ∉ (cxOf CX P w K mg base N qual scope f cd A outer s H E).ex:=fun b z=>absurd (show b ∈ ([]:List Addr) from z) (by simp)
 refine ⟨⟨e0.mod,S.kind,rfl,rfl,Nat.le_refl _,fun y z c h1 h2=>?_,fun y hy=>?_,fun y c _ h=>?_,fun _=>hd,Around.frames_deeper e0.frames,.inr ⟨rfl,rfl⟩,fun b z=>absurd z (noA b),e0.bs,e0.bsz,fun b _ _=>noA b,fun b z=>absurd z (noA b),e0.funs,e0.frf⟩,
  rfl,e0.bare,Un.kept hk,⟨_,x.toInCall.ns,fun i y v h1 h2 h3=>?_⟩,fun y c h=>⟨_,x.cell y c h⟩,e0.hok.fresh (Nat.le_refl _),fun y c h=>?_,fun p hp=>absurd (show p ∈ ([]:List (Addr × Obj)) from hp) (by simp),e0.hok.kept hk,?_⟩
 ·exact name_of_addr x.apart (PySem.mem_of_lookup h1) (PySem.mem_of_lookup h2)
 ·have hy:scope.names.lookup y=some .cell\/scope.names.lookup y=some .free:=hy
  rcases hy with hy | hy
  ·exact cell_has hy
  ·exact absurd rfl (S.nofree _ (PySem.mem_of_lookup hy))
 ·exact Nat.le_of_lt (x.above y c (PySem.mem_of_lookup h))
 ·have hi:i<vs.length:=by
   unfold start at h2
   by_cases hi:i<vs.length
   ·exact hi
   ·rw [List.getElem?_append_right (by simpa using hi)] at h2
    rw [List.getElem?_replicate] at h2
    split at h2 <;> cases h2
  have ha:vs[i]? = some v:=by
   unfold start at h2
   rw [List.getElem?_append_left (by simpa using hi),List.getElem?_map] at h2
   cases e:vs[i]? with
   | none=>rw [e] at h2;cases h2
   | some a=>rw [e] at h2;cases h2;rfl
  obtain ⟨u,hu,rv⟩:=r.get ha
  have hp:ps[i]? = some y:=by
   rw [<- S.pre,List.getElem?_take_of_lt (by omega)];exact h1
  have ndP:ps.Nodup:=by rw [<- S.pre];exact S.nd.sublist (List.take_sublist _ _)
  refine ⟨u,rv,?_⟩
  rcases S.par y (List.mem_of_getElem? hp) with k | k
  ·exact .inl ⟨k,bindL_get ndP hp hu k⟩
  ·obtain ⟨c,e⟩:=cell_has (n:=s.heap.objs.size+1) k
   refine .inr ⟨.inl k,c,e,?_⟩
   have q:=x.cell y c e
   rw [bindC_get ndP hp hu (by show scope.names.lookup y ≠ _;rw [k];decide)] at q
   exact q
 ·exact e0.hok.fresh (Nat.le_of_lt (x.above y c (PySem.mem_of_lookup h)))
 ·unfold start
  show _=N.length
  rw [List.length_append,List.length_map,List.length_replicate]
  omega
theorem fn_of {CX:CXT} {P:Program} {w:World} {K:PySem.W.Frag} {mg:Str->Option Value} {base:Heap} {k:Nat} {f:Addr} {name qual:Str} {params:Arguments} {body:List Stmt} {scope:Scope} {dV kV doc pm cdv ct oc:Value} {an od:Option Addr}
 {osl:Array (Option Value)} {N ps:List Str} {sp:Sp} (lk:K.lookup f=some ⟨oc,od,.func (PySem.W.fnOf name qual params body scope dV kV doc pm an cdv ct),osl⟩) (hcd:PySem.W.codeIn K cdv qual=true) (S:FnScope N ps scope)
 (len:∀ vs H Q E,sp vs H Q E->vs.length=ps.length)
 (hbody:∀ (A:Around) (outer:List Env) (s:Shared) (H:Hp) (vs:List V) (Q:VK) (E:XK),Room k (A.deeper (envOfC qual scope s.heap.objs.size f cdv))->sp vs H Q E ->
  ∃ t,PSs (cxOf CX P w K mg base N qual scope f cdv A outer s H E) body t/\t { nx:=fun _ H'=>Q .non H',rt:=Q } (start N vs) H) :
 FnOk P w K mg base CX (k+1) f (PySem.W.fnOf name qual params body scope dV kV doc pm an cdv ct) ps sp:=by
 refine ⟨len,fun A outer s H args us vs Q E hr e0 hb r hsp=>?_⟩
 have hl:=len _ _ _ _ hsp
 have KX:K.In s.heap:=e0.mod.kin.keeps fun b o e=>(e0.bs b o e).1
 have lim:s.heap.NoLimit:=e0.mod.nolimit.keeps fun b o e=>(e0.bs b o e).1
 have hkind:∀ y ∈ ps.zip us,scope.names.lookup y.1=some .local\/(scope.names.lookup y.1=some .cell/\((cellsFrom (s.heap.objs.size+1) scope.names []).lookup y.1).isSome=true):=fun ⟨n,v⟩ hy=>by
  rcases S.par n (List.of_mem_zip hy).1 with q | q
  ·exact .inl q
  ·exact .inr ⟨q,PySem.W.cellsFrom_some _ _ _ (.inl q)⟩
 refine codeAny_call_function hr.depth (KX _ _ lk) rfl S.co S.gen rfl (PySem.W.codeRec_of KX hcd) (hb _ _ _ _ ?_)
 refine wpAny_newFunctionEnv_cells S.kind hkind fun env he s1 x=>?_
 subst he
 refine ⟨lim.keeps x.toInCall.keep,codeAny_func ?_⟩
 obtain ⟨t,ht,hq⟩:=hbody A outer s H vs Q E (hr.deeper _) hsp
 have I:Inv (cxOf CX P w K mg base N qual scope f cdv A outer s H E) [] (start N vs) H s1:=inv_start S hr.hd e0 hl r x
 refine wpAny_mono (ht [] s1 (start N vs) H _ I hq) (fun fl s' hs=>?_) fun e s' hs=>hs
 have fin:∀ {σ':St} {H':Hp} {v:V} {u:Value},Inv (cxOf CX P w K mg base N qual scope f cdv A outer s H E) [] σ' H' s'->RelV v u->Q v H'->CE outer P w H s Q u s' :=
  fun {σ' H' v u} J rv q=>⟨v,H',J.os,J.bare,J.base,J.hok,rv,q⟩
 cases fl with
 | ret u =>
   obtain ⟨v,σ',H',J,rv,q⟩:=hs
   exact fin J rv q
 | next =>
   obtain ⟨σ',H',J,q⟩:=hs
   exact fin (v:=V.non) (u:=Value.none) J rfl q
 | brk =>
   obtain ⟨_,_,_,q⟩:=hs
   exact False.elim q
 | cont =>
   obtain ⟨_,_,_,q⟩:=hs
   exact False.elim q
end L2
namespace L2
open PySem PySem.Spec PyProof.Rows
section
variable {X : Cx} {x : Str} {p pos : Pos} {e : Expr} {es : List Expr} {t : TA} {id T : String} {r : List V → Hp → VK → Prop}
def tCB (r:List V->Hp->VK->Prop) (t:TA):TE:=fun σ H Q=>t σ H fun vs H1=>r vs H1 Q
theorem pe_callB (hc:CallR X (.builtin id) r) (hg:Gl X x) (hm:X.mg x=none) (hv:bootBuiltins x=some (.builtin id)) (ha:PA X (e::es) t) (hn:x ≠ "__name__" := by decide) (hdb:(x == ("__debug__" : Str))=false:=by decide)
 (he:starEach (e::es) X.env=(false,eval e X.env)::starEach es X.env:=by rfl) (hpl:(backTo pos (starEach es X.env)).any (·.1)=false:=by rfl):PE X (.Call (.Name x p) (e::es) [] pos) (tCB r t):=by
 intro pins s σ H Q I h
 refine wpAny_Call_Name_kw (ld_blt I hg hm hv ?_ hn hdb)
 exact PyProof.Rows.callWith_builtin1 (thn (ha pos pins s σ H _ I h) fun us s1 ⟨vs,H1,I1,r1,q1⟩=>hc pins s1 σ H1 vs us Q I1 r1 q1) he hpl
theorem pe_callTy (hc:CallR X (.type T) r) (hg:Gl X x) (hm:X.mg x=none) (hv:bootBuiltins x=some (.type T)) (ha:PA X (e::es) t) (hn:x ≠ "__name__" := by decide) (hdb:(x == ("__debug__" : Str))=false:=by decide)
 (he:starEach (e::es) X.env=(false,eval e X.env)::starEach es X.env:=by rfl) (hpl:(backTo pos (starEach es X.env)).any (·.1)=false:=by rfl):PE X (.Call (.Name x p) (e::es) [] pos) (tCB r t):=by
 intro pins s σ H Q I h
 refine wpAny_Call_Name_kw (ld_blt I hg hm hv ?_ hn hdb)
 exact PyProof.Rows.callWith_type1 (thn (ha pos pins s σ H _ I h) fun us s1 ⟨vs,H1,I1,r1,q1⟩=>hc pins s1 σ H1 vs us Q I1 r1 q1) he hpl
end
end L2
namespace HT
open PySem PyProof.Rows
section
variable {prog : Program} {w : World} {A : Around} {E : Value → Shared → Prop} {s : Shared}
theorem cat_tup {t b:Addr} {vs ws:List Value} {Q:Value->Shared->Prop} (ht:IsTup s.heap t vs.toArray) (hb:IsTup s.heap b ws.toArray) (hv:vs ≠ [])
 (h1:ws = []->Q (.ref t) s) (h2:ws ≠ []->Q (.ref s.heap.objs.size) { s with heap:=s.heap.push { cls := .type "tuple", data := .seq (vs++ws).toArray } })
 (hsz:vs.length+ws.length<=sizeLine):wpAny (model prog w) A (binaryOp .Add (.ref t) (.ref b)) Q E s:=by
 obtain ⟨⟨cls,dd,data,sl⟩,ho,hc,n,hd⟩:=id ht
 obtain ⟨⟨cls2,dd2,data2,sl2⟩,ho2,hc2,n2,hd2⟩:=id hb
 simp only at hc hd hc2 hd2
 subst hc hd hc2 hd2
 have e:vs.toArray++ws.toArray=(vs++ws).toArray:=by simp
 by_cases hw:ws = []
 ·exact concat_meets ⟨_,ho,rfl⟩ ⟨_,ho2,rfl⟩ noFill_tuple_add seq_tuple_add PySem.F.slot_tuple_add PySem.F.entry_tuple_add (PySem.F.args_tuple_add_2 _ _)
   (tuple_addW1 t b vs.toArray ws.toArray n n2 dd dd2 sl sl2 (by simpa using hv) (by simp [hw])) ⟨ho,ho2,h1 hw⟩
 ·refine concat_meets ⟨_,ho,rfl⟩ ⟨_,ho2,rfl⟩ noFill_tuple_add seq_tuple_add PySem.F.slot_tuple_add PySem.F.entry_tuple_add (PySem.F.args_tuple_add_2 _ _)
   (tuple_addW2 t b vs.toArray ws.toArray n n2 dd dd2 sl sl2 (by simpa using hv) (by simpa using hw) (by rw [List.size_toArray,List.size_toArray];exact hsz)) ⟨ho,ho2,?_⟩
  rw [e]
  exact h2 hw
def sIx (n d:Nat):Option Int->Nat
 | none=>d
 | some v=>if v<0 then (v+(n:Int)).toNat else min v.toNat n
theorem sIx_le (n d:Nat) (hd:d<=n) (o:Option Int):sIx n d o<=n:=by
 cases o with
 | none=>exact hd
 | some v =>
   show (if v<0 then (v+(n:Int)).toNat else min v.toNat n)<=n
   by_cases hv:v<0
   ·rw [if_pos hv];omega
   ·rw [if_neg hv];exact Nat.min_le_right _ _
theorem clip_eq (v:Int) (n d:Nat):(if v<0 then max (v+(n:Int)) 0 else min v (n:Int))=((sIx n d (some v):Nat):Int):=by
 show (if v<0 then max (v+(n:Int)) 0 else min v (n:Int))=(((if v<0 then (v+(n:Int)).toNat else min v.toNat n):Nat):Int)
 by_cases hv:v<0
 ·simp only [if_pos hv];omega
 ·simp only [if_neg hv];omega
theorem adjust_gen (lo hi:Option Int) (n:Nat):Builtin.Slice.sliceAdjust lo hi 1 (n:Int)=(((sIx n 0 lo:Nat):Int),((sIx n n hi:Nat):Int)):=by
 have h1:¬ ((1:Int)<0):=by omega
 unfold Builtin.Slice.sliceAdjust
 simp only [h1,if_false]
 refine Prod.ext ?_ ?_
 ·cases lo with
  | none=>rfl
  | some v=>exact clip_eq v n 0
 ·cases hi with
  | none=>rfl
  | some v=>exact clip_eq v n n
theorem places_gen (i j:Nat):Builtin.Slice.slicePlaces (i:Int) (j:Int) 1=j - i:=by
 unfold Builtin.Slice.slicePlaces
 have h1:(1:Int) > 0:=by omega
 simp only [h1,if_true,Int.ediv_one]
 split <;> omega
theorem slicePart_ {v:Value} {o:Option Int} {Q:Option Int->Shared->Prop} (p:IsPart v o) (h:Q o s):wpAny (model prog w) A (Builtin.Slice.slicePartIndex v) Q E s:=by
 cases p with
 | none=>exact slicePart_none h
 | int i t=>exact slicePart_int h
theorem sliceApplied_gen {sl:Addr} {vl vu:Value} {lo hi:Option Int} {n:Nat} {Q:Int × Int × Nat->Shared->Prop} (hs:s.heap.IsSliceOf sl vl vu .none) (pl:IsPart vl lo) (pu:IsPart vu hi)
 (h:Q (((sIx n 0 lo:Nat):Int),1,sIx n n hi - sIx n 0 lo) s):wpAny (model prog w) A (Builtin.Slice.sliceApplied (.ref sl) (pure (n:Int))) Q E s:=by
 obtain ⟨os,hos,hcs,hds⟩:=id hs
 unfold Builtin.Slice.sliceApplied Builtin.Slice.sliceFields
 refine wpAny_bind (wpAny_bind (wpAny_field hos hds (x:=vl) rfl (wpAny_bind (wpAny_field hos hds (x:=vu) rfl (wpAny_bind (wpAny_field hos hds (x := .none) rfl (wpAny_pure ?_)))))))
 refine wpAny_bind (slicePart_none ?_)
 show wpAny _ _ (if ((1:Int) == 0)=true then _ else _) _ _ s
 rw [if_neg (by decide)]
 refine wpAny_bind (slicePart_ pl (wpAny_bind (slicePart_ pu (wpAny_bind (wpAny_pure ?_)))))
 show wpAny _ _ (match Builtin.Slice.sliceAdjust lo hi 1 (n:Int) with | (lo,hi)=>pure (lo,(1:Int),Builtin.Slice.slicePlaces lo hi 1)) _ _ s
 rw [adjust_gen lo hi n]
 show wpAny _ _ (pure (((sIx n 0 lo:Nat):Int),(1:Int),Builtin.Slice.slicePlaces ((sIx n 0 lo:Nat):Int) ((sIx n n hi:Nat):Int) 1)) _ _ s
 rw [places_gen]
 exact wpAny_pure h
theorem pick_gen (xs:Array Value) (i k:Nat):((List.range k).filterMap fun (m:Nat)=>xs[((i:Int)+(m:Int) * 1).toNat]?).toArray=((xs.toList.drop i).take k).toArray:=by
 have e:(fun (m:Nat)=>xs[((i:Int)+(m:Int) * 1).toNat]?)=fun m=>xs[i+m]?:=by
  funext m
  have:((i:Int)+(m:Int) * 1).toNat=i+m:=by omega
  rw [this]
 rw [e]
 have:=pick_run xs i k
 rw [List.filterMap_map] at this
 have e2:((fun x=>xs[x]?) ∘ fun x=>i+x)=fun m=>xs[i+m]?:=rfl
 rw [e2] at this
 rw [this]
theorem getItem_tuple_cut {t sl:Addr} {items:Array Value} {vl vu:Value} {lo hi:Option Int} {Q:Value->Shared->Prop} (ht:IsTup s.heap t items) (hs:s.heap.IsSliceOf sl vl vu .none) (pl:IsPart vl lo) (pu:IsPart vu hi)
 (hw:¬ (sIx items.size 0 lo=0/\sIx items.size items.size hi=items.size))
 (h:Q (.ref s.heap.objs.size) { s with heap:=s.heap.push { cls := .type "tuple", data := .seq ((items.toList.drop (sIx items.size 0 lo)).take (sIx items.size items.size hi - sIx items.size 0 lo)).toArray } })
 (hsz:items.size<=sizeLine):wpAny (model prog w) A (getItem (.ref t) (.ref sl)) Q E s:=by
 have htake:sizeOk (.seq ((items.toList.drop (sIx items.size 0 lo)).take (sIx items.size items.size hi - sIx items.size 0 lo)).toArray):=by
  show ((items.toList.drop (sIx items.size 0 lo)).take (sIx items.size items.size hi - sIx items.size 0 lo)).toArray.size<=sizeLine
  rw [List.size_toArray,List.length_take,List.length_drop,Array.length_toList]
  omega
 have hj:sIx items.size items.size hi<=items.size:=sIx_le _ _ (Nat.le_refl _) hi
 obtain ⟨os,hos,hcs,hds⟩:=id hs
 have hTs:s.TypeIs (.ref sl) "slice" := ⟨os,hos,hcs⟩
 unfold getItem
 try with_reducible refine wpAny_holding ?_
 first | refine wpAny_bind (wpAny_pure ?_) | skip
 refine wpAny_bind (wpAny_sequenceKey ht.typeIs (by decide) ?_)
 refine wpAny_bind (wpAny_callSpecial?_slot (name:=Str.ofString "__getitem__") ht.typeIs PyProof.Rows.slot_tuple_getitem
  (wpAny_call_entry PyProof.Rows.slot_tuple_getitem ht.typeIs entry_tuple_getitem ?_ (args_tuple_getitem _ _)))
 show wpAny _ _ (Builtin.Tuple.tupleItemsOf (.ref t) >>= _) _ _ s
 refine wpAny_bind (tupleItemsOf_ ht ?_)
 refine wpAny_bind (wpAny_typeOf hTs ?_)
 rw [if_pos (by decide)]
 refine wpAny_bind (sliceApplied_gen hs pl pu ?_)
 have hno:¬ ((((sIx items.size 0 lo:Nat):Int) == 0 && (1:Int) == 1 && (sIx items.size items.size hi - sIx items.size 0 lo) == items.size)=true):=by
  intro q
  rw [Bool.and_eq_true,Bool.and_eq_true] at q
  have q1:((sIx items.size 0 lo:Nat):Int)=0:=eq_of_beq q.1.1
  have q2:sIx items.size items.size hi - sIx items.size 0 lo=items.size:=eq_of_beq q.2
  exact hw ⟨by omega,by omega⟩
 show wpAny _ _ (if (((sIx items.size 0 lo:Nat):Int) == 0 && (1:Int) == 1 && (sIx items.size items.size hi - sIx items.size 0 lo) == items.size)=true then _ else _) _ _ s
 rw [if_neg hno,pick_gen]
 first
  | exact wpAny_bind (m:=Builtin.Tuple.tupleExact _) (wpAny_newObj_type (wpAny_pure ⟨_,rfl,wpAny_pure h⟩) htake)
  | exact wpAny_bind (m:=Builtin.Tuple.tupleExact _) (wpAny_newObj_type (wpAny_bind (wpAny_pure (wpAny_pure ⟨_,rfl,wpAny_pure h⟩))) htake)
  | exact wpAny_bind (wpAny_bind (m:=Builtin.Tuple.tupleExact _) (wpAny_newObj_type (wpAny_pure (wpAny_pure ⟨_,rfl,wpAny_pure h⟩)) htake))
  | exact wpAny_bind (wpAny_bind (m:=Builtin.Tuple.tupleExact _) (wpAny_newObj_type (wpAny_pure ⟨_,rfl,wpAny_pure h⟩) htake))
end
end HT
namespace L2
open PySem PySem.Spec PyProof.Rows
abbrev TO:=St->Hp->(Option Int->Hp->Prop)->Prop
def PO (X:Cx) (e:Option Expr) (t:TO):Prop :=
 ∀ (pins:List (Addr × Obj)) (s:Shared) (σ:St) (H:Hp) (Q:Option Int->Hp->Prop),Inv X pins σ H s->t σ H Q ->
   wpAny (model X.prog X.w) X.A (evalPart e X.env) (fun u s'=>∃ o H',Inv X pins σ H' s'/\IsPart u o/\Q o H') X.xe s
def tNoPart:TO:=fun _ H Q=>Q none H
def tPart (t:TE):TO:=fun σ H Q=>t σ H fun x H1=>∃ i,x = .int i/\Q (some i) H1
section
variable {X : Cx} {e : Expr} {te : TE} {lo hi : Option Expr} {tl th : TO} {pos p2 : Pos}
theorem po_none:PO X none tNoPart:=by
 intro pins s σ H Q I h
 rw [evalPart_none]
 exact wpAny_pure ⟨none,H,I,.none,h⟩
theorem po_some (h:PE X e te):PO X (some e) (tPart te):=by
 intro pins s σ H Q I hw
 rw [evalPart_some]
 refine thn (h pins s σ H _ I hw) fun u s1 ⟨x,H1,I1,r1,q1⟩=>?_
 obtain ⟨i,rfl,q⟩:=q1
 obtain ⟨t,rfl⟩:=r1
 exact ⟨some i,H1,I1,.int i t,q⟩
def SlR (X:Cx) (r:V->Option Int->Option Int->Hp->VK->Prop):Prop :=
 ∀ (pins:List (Addr × Obj)) (s:Shared) (σ:St) (H:Hp) (x:V) (v vl vu:Value) (lo hi:Option Int) (sl:Addr) (Q:VK),Inv X pins σ H s->RelV x v->s.heap.IsSliceOf sl vl vu .none->IsPart vl lo->IsPart vu hi->r x lo hi H Q ->
   ∃ T id,typeLookup (.type T) "__getitem__" = pure (some (.builtin id))/\s.TypeIs v T/\wpAny (model X.prog X.w) X.A (getItem v (.ref sl)) (EP X pins σ Q) X.xe s
theorem SlR.or {r r':V->Option Int->Option Int->Hp->VK->Prop} (h:SlR X r) (h':SlR X r'):SlR X (fun x lo hi H Q=>r x lo hi H Q\/r' x lo hi H Q):=by
 intro pins s σ H x v vl vu lo hi sl Q I rx hs pl pu q
 rcases q with q | q
 ·exact h pins s σ H x v vl vu lo hi sl Q I rx hs pl pu q
 ·exact h' pins s σ H x v vl vu lo hi sl Q I rx hs pl pu q
def tSl (r:V->Option Int->Option Int->Hp->VK->Prop) (te:TE) (tl th:TO):TE:=fun σ H Q=>te σ H fun x H1=>tl σ H1 fun l H2=>th σ H2 fun u H3=>r x l u H3 Q
theorem pe_slice {r:V->Option Int->Option Int->Hp->VK->Prop} (hr:SlR X r) (he:PE X e te) (hl:PO X lo tl) (hu:PO X hi th):PE X (.Subscript e (.Slice lo hi none p2) pos) (tSl r te tl th):=by
 intro pins s σ H Q I h
 refine Subscript_ (thn (he pins s σ H _ I h) fun v s1 ⟨x,H1,I1,r1,q1⟩=>?_)
 refine wpAny_Slice (thn (hl pins s1 σ H1 _ I1 q1) fun vl s2 ⟨l,H2,I2,pl,q2⟩=>thn (hu pins s2 σ H2 _ I2 q2) fun vu s3 ⟨u,H3,I3,pu,q3⟩=>?_)
 rw [evalPart_none]
 refine wpAny_pure ?_
 have I4:Inv X pins σ H3 { s3 with heap:=s3.heap.push { cls := .type "slice", data := .fields #[vl,vu,.none] } }:=I3.kept (t':=s3.toks) fun b ob q=>Heap.get?_push_of_some _ q
 obtain ⟨T,id,hT,ht,hg⟩:=hr pins { s3 with heap:=s3.heap.push { cls := .type "slice", data := .fields #[vl,vu,.none] } } σ H3 x v vl vu l u s3.heap.objs.size Q I4 r1 (Heap.IsSliceOf.new ..) pl pu q3
 show wpAny (model X.prog X.w) X.A (subscriptTail e (.Slice lo hi none p2) v (.ref s3.heap.objs.size)) (EP X pins σ Q) X.xe { s3 with heap:=s3.heap.push { cls := .type "slice", data := .fields #[vl,vu,.none] } }
 exact tail_any (ops := [.ref s3.heap.objs.size,v]) ht hT hg (by with_unfolding_all rfl)
def cutV (xs:List V) (lo hi:Option Int):List V:=(xs.drop (HT.sIx xs.length 0 lo)).take (HT.sIx xs.length xs.length hi - HT.sIx xs.length 0 lo)
theorem cutV_length (xs:List V) (lo hi:Option Int):(cutV xs lo hi).length<=xs.length:=by
 unfold cutV
 rw [List.length_take,List.length_drop]
 omega
def rSlT (K:PySem.W.Frag):V->Option Int->Option Int->Hp->VK->Prop:=fun x lo hi H Q=>∃ a xs,x = .ref a/\SqT K H a xs /\
 ¬ (HT.sIx xs.length 0 lo=0/\HT.sIx xs.length xs.length hi=xs.length)/\∀ p,H p=none->Q (.ref p) (upd H p (.tup (cutV xs lo hi)))
theorem sl_tup:SlR X (rSlT X.K):=by
 intro pins s σ H x v vl vu lo hi sl Q I rx hs pl pu h
 obtain ⟨a,xs,rfl,hx,hw,q⟩:=h
 cases rx
 obtain ⟨its,r,ht,hz⟩:=I.tuple hx
 have hlen:its.toArray.size=xs.length:=by rw [List.size_toArray];exact r.length.symm
 refine ⟨"tuple", _,PyProof.Rows.slot_tuple_getitem.lookup,ht.typeIs,?_⟩
 refine HT.getItem_tuple_cut ht hs pl pu (by rw [hlen];exact hw) ?_ (by rw [hlen];exact hz)
 rw [hlen]
 refine ⟨.ref s.heap.objs.size,_,I.laid (t':=s.toks) (o := .tup (cutV xs lo hi)) (fun b ob q=>Heap.get?_push_of_some _ q) (Nat.le_refl _) ?_,rfl,q _ (I.hok.fresh (Nat.le_refl _))⟩
 exact ⟨Nat.le_trans (cutV_length xs lo hi) hz,_,(r.drop (HT.sIx xs.length 0 lo)).take (HT.sIx xs.length xs.length hi - HT.sIx xs.length 0 lo),IsTup.new _ _⟩
def rCatT (K:PySem.W.Frag):R2:=fun x y H Q=>∃ a b xs ys,x = .ref a/\y = .ref b/\SqT K H a xs/\SqT K H b ys/\xs ≠ []/\xs.length+ys.length<=sizeLine /\
 (ys = []->Q (.ref a) H)/\(ys ≠ []->∀ p,H p=none->Q (.ref p) (upd H p (.tup (xs++ys))))
theorem Vals.nil_iff {xs:List V} {us:List Value} (r:Vals xs us):us = []↔xs = []:=by
 cases r with
 | nil=>simp
 | cons _ _=>simp
theorem op_catT:OpR X (binaryOp .Add) (rCatT X.K):=by
 intro pins s σ H x y v u Q I rx ry h
 obtain ⟨a,b,xs,ys,rfl,rfl,ha,hb,hx,hz,q1,q2⟩:=h
 cases rx
 cases ry
 obtain ⟨its,r1,p1,_⟩:=I.tuple ha
 obtain ⟨its2,r2,p2,_⟩:=I.tuple hb
 refine HT.cat_tup p1 p2 (fun z=>hx (r1.nil_iff.mp z)) (fun z=>⟨.ref a,H,I,rfl,q1 (r2.nil_iff.mp z)⟩) (fun z=>?_) (by rw [<- r1.length,<- r2.length];exact hz)
 refine ⟨.ref s.heap.objs.size,_,I.laid (t':=s.toks) (o := .tup (xs++ys)) (fun b ob q=>Heap.get?_push_of_some _ q) (Nat.le_refl _) ?_,rfl,q2 (fun w=>z (r2.nil_iff.mpr w)) _ (I.hok.fresh (Nat.le_refl _))⟩
 exact ⟨by rw [List.length_append];exact hz,_,r1.append r2,IsTup.new _ _⟩
end
end L2
namespace L2
open PySem PySem.Spec PyProof.Rows
def ixN (n:Nat) (i:Int):Option Nat:=if 0<=i then (if i<n then some i.toNat else none) else if -(n:Int)<=i then some (i+n).toNat else none
def atI {α:Type} (xs:List α) (i:Int):Option α:=(ixN xs.length i).bind fun j=>xs[j]?
theorem ixN_seq {n:Nat} {i:Int} {j:Nat} (h:ixN n i=some j):seqIndex? i n=some j/\j<n/\-(n:Int)<=i/\i<n:=by
 unfold ixN at h
 by_cases h0:0<=i
 ·rw [if_pos h0] at h
  by_cases h1:i<n
  ·rw [if_pos h1] at h
   have e:i.toNat=j:=Option.some.inj h
   exact ⟨by rw [seqIndex_of h0 h1,e],by omega,by omega,h1⟩
  ·rw [if_neg h1] at h;cases h
 ·rw [if_neg h0] at h
  by_cases h1:-(n:Int)<=i
  ·rw [if_pos h1] at h
   have e:(i+n).toNat=j:=Option.some.inj h
   exact ⟨by rw [seqIndex_neg (by omega) h1,e],by omega,h1,by omega⟩
  ·rw [if_neg h1] at h;cases h
theorem atI_get {α:Type} {xs:List α} {i:Int} {v:α} (h:atI xs i=some v):∃ j,seqIndex? i xs.length=some j/\xs[j]? = some v/\j<xs.length/\-(xs.length:Int)<=i/\i<xs.length:=by
 unfold atI at h
 cases e:ixN xs.length i with
 | none=>rw [e] at h;cases h
 | some j =>
   rw [e] at h
   obtain ⟨h1,h2,h3,h4⟩:=ixN_seq e
   exact ⟨j,h1,h,h2,h3,h4⟩
theorem atI_nat {α:Type} {xs:List α} {j:Nat} {v:α} (h:xs[j]? = some v):atI xs (j:Int)=some v:=by
 have hj:j<xs.length:=(List.getElem?_eq_some_iff.mp h).1
 have e:ixN xs.length (j:Int)=some j:=by
  unfold ixN
  rw [if_pos (by omega),if_pos (by omega)];simp
 unfold atI;rw [e];exact h
def PlainIx (b:Expr):Prop:=∀ o i,subscripted b false o i=operate [o,i] (getItem o i)
def IxR (X:Cx) (r:R2):Prop :=
 ∀ (value slice:Expr) (pins:List (Addr × Obj)) (s:Shared) (σ:St) (H:Hp) (x y:V) (v u:Value) (Q:VK),Inv X pins σ H s->RelV x v->RelV y u->r x y H Q ->
   subscripted slice false v u=operate [v,u] (getItem v u)->wpAny (model X.prog X.w) X.A (subscriptTail value slice v u) (EP X pins σ Q) X.xe s
def MtR (X:Cx) (id:String) (r:V->List V->Hp->VK->Prop):Prop :=
 ∀ (pins:List (Addr × Obj)) (s:Shared) (σ:St) (H:Hp) (x:V) (xs:List V) (v:Value) (us:List Value) (Q:VK),Inv X pins σ H s->RelV x v->Vals xs us->r x xs H Q ->
   wpAny (model X.prog X.w) X.A (call (.builtin id) (v::us)) (EP X pins σ Q) X.xe s
section
variable {X : Cx} {a b : Expr} {ta tb : TE} {pos : Pos}
theorem IxR.or {r r':R2} (h:IxR X r) (h':IxR X r'):IxR X (fun x y H Q=>r x y H Q\/r' x y H Q):=by
 intro value slice pins s σ H x y v u Q I rx ry q hs
 rcases q with q | q
 ·exact h value slice pins s σ H x y v u Q I rx ry q hs
 ·exact h' value slice pins s σ H x y v u Q I rx ry q hs
theorem pe_ix {r:R2} (hr:IxR X r) (ha:PE X a ta) (hb:PE X b tb) (hs:PlainIx b):PE X (.Subscript a b pos) (tOp r ta tb):=by
 intro pins s σ H Q I h
 exact Subscript_ (binT ha hb I h fun v u s2 x y H2 I2 rx ry q=>hr a b pins s2 σ H2 x y v u Q I2 rx ry q (hs _ _))
def rIxL (K:PySem.W.Frag):R2:=fun x y H Q=>∃ p xs i v,x = .ref p/\y = .int i/\SqL K H p xs/\atI xs i=some v/\Q v H
def rIxT (K:PySem.W.Frag):R2:=fun x y H Q=>∃ p xs i v,x = .ref p/\y = .int i/\SqT K H p xs/\atI xs i=some v/\Q v H
def rIxS:R2:=fun x y H Q=>∃ z i c,x = .str z/\y = .int i/\z.length<=sizeLine/\atI z.cps.toList i=some c/\Q (.str ⟨#[c]⟩) H
theorem ix_list:IxR X (rIxL X.K):=by
 intro value slice pins s σ H x y v u Q I rx ry h hs
 obtain ⟨p,xs,i,z,rfl,rfl,hq,he,q⟩:=h
 cases rx
 obtain ⟨t,rfl⟩:=ry
 obtain ⟨its,r,pl,hz⟩:=I.list hq
 obtain ⟨j,h1,h2,h3,h4,h5⟩:=atI_get he
 obtain ⟨w,ew,rw'⟩:=r.get h2
 have hl:=r.length
 have hn:=line63
 have fin:EP X pins σ Q w s:=⟨z,H,I,rw',q⟩
 by_cases h0:0<=i
 ·have hj:i.toNat=j:=by
   rw [seqIndex_of h0 h5] at h1
   exact Option.some.inj h1
  exact item_listR pl.isList h0 (by omega) (by rw [hj];simpa using ew) fin hs
 ·have hj:(i+(its.toArray.size:Int)).toNat=j:=by
   rw [seqIndex_neg (by omega) h4] at h1
   rw [List.size_toArray,<- hl]
   exact Option.some.inj h1
  exact subscriptTail_builtinR (x:=w) pl.isList.typeIs slot_list_getitem.lookup
   (wpAny_getItem_list_neg (Q:=fun r s'=>r=w/\EP X pins σ Q r s') pl.isList (by omega) (by rw [List.size_toArray] <;> omega) (by omega) (by rw [hj];simpa using ew) ⟨rfl,fin⟩) hs
theorem ix_tup:IxR X (rIxT X.K):=by
 intro value slice pins s σ H x y v u Q I rx ry h hs
 obtain ⟨p,xs,i,z,rfl,rfl,hq,he,q⟩:=h
 cases rx
 obtain ⟨t,rfl⟩:=ry
 obtain ⟨its,r,pl,hz⟩:=I.tuple hq
 obtain ⟨j,h1,h2,h3,h4,h5⟩:=atI_get he
 obtain ⟨w,ew,rw'⟩:=r.get h2
 have hl:=r.length
 have hn:=line63
 have fin:EP X pins σ Q w s:=⟨z,H,I,rw',q⟩
 exact subscriptTail_builtinR (x:=w) pl.typeIs slot_tuple_getitem.lookup
  (getItem_tuple (j:=j) (Q:=fun r s'=>r=w/\EP X pins σ Q r s') pl (by omega) (by omega) (by rw [List.size_toArray,<- hl];exact h1) (by simpa using ew) ⟨rfl,fin⟩) hs
theorem ix_str:IxR X rIxS:=by
 intro value slice pins s σ H x y v u Q I rx ry h hs
 obtain ⟨z,i,c,rfl,rfl,hz,he,q⟩:=h
 obtain ⟨t,rfl⟩:=rx
 obtain ⟨t',rfl⟩:=ry
 obtain ⟨j,h1,h2,h3,h4,h5⟩:=atI_get he
 have hl:z.cps.toList.length=z.length:=by simp [Str.length]
 rw [hl] at h1 h4 h5
 have hn:=line63
 exact tail_any (typeIs_str s z t) slot_str_getitem.lookup (getItem_str (c:=c) (by
  have e1:decide (i < -(2 ^ 63:Int))=false:=decide_eq_false (by omega)
  have e2:decide (i ≥ 2 ^ 63)=false:=decide_eq_false (by omega)
  rw [e1,e2,Bool.or_false]) (by rw [h1];simpa using h2) ⟨.str ⟨#[c]⟩,H,I.tok _,⟨_,rfl⟩,q⟩) hs
def rIx (K:PySem.W.Frag):R2:=fun x y H Q=>rIxL K x y H Q\/rIxT K x y H Q\/rIxS x y H Q
theorem ix_seq:IxR X (rIx X.K):=ix_list.or (ix_tup.or ix_str)
theorem mapSeq_set (its:List Value) (n j:Nat) (u:Value):Obj.mapSeq (·.setIfInBounds j u) { cls := .type "list", data := .seq its.toArray n } = { cls := .type "list", data := .seq (its.set j u).toArray n }:=by
 simp [Obj.mapSeq]
theorem Inv.lst {pins:List (Addr × Obj)} {σ:St} {H:Hp} {s:Shared} {p:Addr} {xs:List V} (I:Inv X pins σ H s) (h:H p=some (.lst xs)) :
 ∃ (its:List Value) (n:Nat),Vals xs its/\s.heap.get? p=some { cls := .type "list", data := .seq its.toArray n }/\xs.length<=sizeLine:=by
 obtain ⟨z,its,n,r,e⟩:=I.hok p _ h
 exact ⟨its,n,r,e,z⟩
theorem Inv.lstUpd {pins:List (Addr × Obj)} {σ:St} {H:Hp} {s:Shared} {p:Addr} {xs ys:List V} {its its':List Value} {n n':Nat} {f:Obj->Obj} (I:Inv X pins σ H s) (h:H p=some (.lst xs))
 (ho:s.heap.get? p=some { cls := .type "list", data := .seq its.toArray n }) (hf:f { cls := .type "list", data := .seq its.toArray n } = { cls := .type "list", data := .seq its'.toArray n' }) (r:Vals ys its') (hz:ys.length<=sizeLine) (t:Nat) :
 Inv X pins σ (upd H p (.lst ys)) { s with heap:=s.heap.update p f,toks:=t }:=by
 have e:(s.heap.update p f).get? p=some { cls := .type "list", data := .seq its'.toArray n' }:=by
  rw [Heap.get?_update_self f ho (by rw [hf] <;> rfl),hf]
 refine I.write (x:=p) (e:=p) (by rw [h];trivial) (.inl rfl) (fun b u hb q=>(Heap.get?_update_other _ _ (Ne.symm hb)).trans q) ⟨_,e⟩ ?_
 exact ⟨hz,its',n',r,e⟩
def rSetL:V->V->V->Hp->(Hp->Prop)->Prop:=fun o i v H Q=>∃ p xs k j,o = .ref p/\i = .int k/\H p=some (.lst xs)/\ixN xs.length k=some j/\Q (upd H p (.lst (xs.set j v)))
theorem set_list:PSet X rSetL:=by
 intro pins s σ H o i v ov iv u Q I ro ri rv h
 obtain ⟨p,xs,k,j,rfl,rfl,hp,hj,q⟩:=h
 cases ro
 obtain ⟨t,rfl⟩:=ri
 obtain ⟨its,n,r,ho,hz⟩:=I.lst hp
 obtain ⟨h1,h2,h3,h4⟩:=ixN_seq hj
 have hl:=r.length
 have hn:=line63
 have I':Inv X pins σ (upd H p (.lst (xs.set j v))) { s with heap:=s.heap.update p (Obj.mapSeq (·.setIfInBounds j u)) } :=
  I.lstUpd hp ho (mapSeq_set its n j u) (r.set rv j) (by rw [List.length_set];exact hz) s.toks
 by_cases h0:0<=k
 ·have hk:k.toNat=j:=by
   rw [seqIndex_of h0 h4] at h1
   exact Option.some.inj h1
  exact PySem.W.ki_setAt ho h0 (by omega) (by rw [List.size_toArray,<- hl];exact h4) (by rw [hk];exact ⟨_,I',q⟩)
 ·have hk:(k+(its.toArray.size:Int)).toNat=j:=by
   rw [seqIndex_neg (by omega) h3] at h1
   rw [List.size_toArray,<- hl]
   exact Option.some.inj h1
  exact PySem.W.ki_setBack ho (by omega) (by rw [List.size_toArray,<- hl];exact h3) (by omega) (by rw [hk];exact ⟨_,I',q⟩)
theorem slice_bounds (lo hi:Option Int) (n:Nat):(sliceBounds lo hi none n).1=((HT.sIx n 0 lo:Nat):Int)/\(sliceBounds lo hi none n).2.1=((HT.sIx n n hi:Nat):Int)/\(sliceBounds lo hi none n).2.2=1:=by
 refine ⟨?_,?_,rfl⟩
 ·cases lo with
  | none=>simp [sliceBounds,HT.sIx]
  | some i =>
    simp only [sliceBounds,HT.sIx,Option.getD_none,show (1:Int) > 0 by decide,if_true]
    by_cases h:i<0
    ·simp only [h,if_true] <;> omega
    ·simp only [h,if_false] <;> omega
 ·cases hi with
  | none=>simp [sliceBounds,HT.sIx]
  | some i =>
    simp only [sliceBounds,HT.sIx,Option.getD_none,show (1:Int) > 0 by decide,if_true]
    by_cases h:i<0
    ·simp only [h,if_true] <;> omega
    ·simp only [h,if_false] <;> omega
theorem slicePick_cut (its:List Value) (lo hi:Option Int):slicePick its.toArray lo hi none=((its.drop (HT.sIx its.length 0 lo)).take (HT.sIx its.length its.length hi - HT.sIx its.length 0 lo)).toArray:=by
 obtain ⟨h1,h2,h3⟩:=slice_bounds lo hi its.toArray.size
 unfold slicePick
 rw [h1,h2,h3]
 simp only [sliceRange_one,pick_run,List.size_toArray] <;> rfl
def rSlL (K:PySem.W.Frag):V->Option Int->Option Int->Hp->VK->Prop:=fun x lo hi H Q=>∃ a xs,x = .ref a/\SqL K H a xs/\∀ p,H p=none->Q (.ref p) (upd H p (.lst (cutV xs lo hi)))
theorem sl_list:SlR X (rSlL X.K):=by
 intro pins s σ H x v vl vu lo hi sl Q I rx hs pl pu h
 obtain ⟨a,xs,rfl,hx,q⟩:=h
 cases rx
 obtain ⟨its,r,ht,hz⟩:=I.list hx
 have hlen:=r.length
 refine ⟨"list", _,slot_list_getitem.lookup,ht.isList.typeIs,?_⟩
 refine wpAny_getItem_list_slice ht.isList hs pl pu .none (by simp) ?_ (by rw [List.size_toArray] <;> omega)
 rw [slicePick_cut,<- hlen]
 refine ⟨.ref s.heap.objs.size,_,I.laid (t':=s.toks) (o := .lst (cutV xs lo hi)) (fun b ob q=>Heap.get?_push_of_some _ q) (Nat.le_refl _) ?_,rfl,q _ (I.hok.fresh (Nat.le_refl _))⟩
 exact ⟨Nat.le_trans (cutV_length xs lo hi) hz,_,0,(r.drop (HT.sIx xs.length 0 lo)).take (HT.sIx xs.length xs.length hi - HT.sIx xs.length 0 lo),Heap.get?_push_size _ rfl⟩
theorem call_list_of:CallR X (.type "list") (fun xs H Q=>∃ p ys,xs = [.ref p]/\(SqL X.K H p ys\/SqT X.K H p ys)/\∀ l,H l=none->Q (.ref l) (upd H l (.lst ys))):=by
 intro pins s σ H xs us Q I r h
 obtain ⟨p,ys,rfl,hq,q⟩:=h
 obtain ⟨u,rfl,rx⟩:=vals1 r
 cases rx
 have fin:∀ (its:List Value),Vals ys its->ys.length<=sizeLine->∀ (h':Heap) (c':Nat),(∀ b o',s.heap.get? b=some o'->h'.get? b=some o') ->
  h'.get? s.heap.objs.size=some { cls := .type "list", dict:=none,data := .seq its.toArray c',slots:=#[] }->EP X pins σ Q (.ref s.heap.objs.size) { s with heap:=h' }:=fun its r' hz h' c' kp e =>
  ⟨.ref s.heap.objs.size,_,I.laid (t':=s.toks) kp (Nat.le_refl _) (show ObjOk X.prog X.w _ h' _ (.lst ys) from ⟨hz,its,c',r',e⟩),rfl,q _ (I.hok.fresh (Nat.le_refl _))⟩
 rcases hq with hq | hq
 ·obtain ⟨its,r',pl,hz⟩:=I.list hq
  have hlen:=r'.length
  obtain ⟨o,ho,hc,n,hd⟩:=pl.isList
  exact call_list_seq p (.inl rfl) ho hc hd (fun h' c' kp e=>fin its r' hz h' c' kp e) (by simp only [List.size_toArray] <;> omega)
 ·obtain ⟨its,r',pl,hz⟩:=I.tuple hq
  have hlen:=r'.length
  obtain ⟨o,ho,hc,n,hd⟩:=pl
  exact call_list_seq p (.inr rfl) ho hc hd (fun h' c' kp e=>fin its r' hz h' c' kp e) (by simp only [List.size_toArray] <;> omega)
theorem call_tuple_of:CallR X (.type "tuple") (fun xs H Q=>∃ p ys,xs = [.ref p]/\((SqL X.K H p ys/\∀ l,H l=none->Q (.ref l) (upd H l (.tup ys)))\/(SqT X.K H p ys/\Q (.ref p) H))):=by
 intro pins s σ H xs us Q I r h
 obtain ⟨p,ys,rfl,h⟩:=h
 obtain ⟨u,rfl,rx⟩:=vals1 r
 cases rx
 rcases h with ⟨hq,q⟩ | ⟨hq,q⟩
 ·obtain ⟨its,r',pl,hz⟩:=I.list hq
  have hlen:=r'.length
  refine call_tuple_list pl.isList (fun h' kp=>?_) (by simp only [List.size_toArray] <;> omega)
  have I1:Inv X pins σ H { s with heap:=h' }:=I.kept (t':=s.toks) kp
  have I2:Inv X pins σ (upd H h'.objs.size (.tup ys)) { s with heap:=h'.push { cls := .type "tuple", data := .seq its.toArray } } :=
   I1.laid (t':=s.toks) (fun b o e=>Heap.get?_push_of_some _ e) (Nat.le_refl _) (show ObjOk X.prog X.w _ _ _ (.tup ys) from ⟨hz,its,r',IsTup.new _ _⟩)
  exact ⟨.ref h'.objs.size,_,I2,rfl,q _ (I1.hok.fresh (Nat.le_refl _))⟩
 ·obtain ⟨its,r',pl,hz⟩:=I.tuple hq
  exact call_tuple_same pl ⟨.ref p,H,I,rfl,q⟩
def tyV (K:PySem.W.Frag) (T:String) (x:V) (H:Hp):Prop:=match x with
 | .str _=>T = "str"
 | .int _=>T = "int"
 | .ref p=>(T = "list" /\ ∃ xs,SqL K H p xs)\/(T = "tuple" /\ ∃ o,K.lookup p=some o/\o.cls = .type "tuple" /\ o.dict=none) \/
  (T = "dict" /\ ((∃ kvs,H p=some (.dK kvs))\/∃ kvs,H p=some (.dT kvs)))\/(T = "set" /\ ∃ S n,H p=some (.set S n))
 | _=>False
theorem tyV_is {pins:List (Addr × Obj)} {σ:St} {H:Hp} {s:Shared} {T:String} {x:V} {v:Value} (I:Inv X pins σ H s) (r:RelV x v) (ty:tyV X.K T x H) :
 s.TypeIs v T/\∀ a,v = .ref a->∃ ob,s.heap.get? a=some ob/\ob.dict=none:=by
 cases x with
 | str z =>
   obtain ⟨t,rfl⟩:=r
   cases (show T = "str" from ty)
   exact ⟨typeIs_str s z t,fun _ e=>nomatch e⟩
 | int i =>
   obtain ⟨t,rfl⟩:=r
   cases (show T = "int" from ty)
   exact ⟨typeIs_int s i t,fun _ e=>nomatch e⟩
 | ref p =>
   cases r
   rcases ty with ⟨rfl,xs,hq⟩ | ⟨rfl,o,hk,hc,hd⟩ | ⟨rfl,hk⟩ | ⟨rfl,S,n,hk⟩
   ·obtain ⟨its,_,pl,_⟩:=I.list hq
    refine ⟨pl.isList.typeIs,fun a e=>?_⟩
    cases e
    obtain ⟨o,n,e,c,hd,_⟩:=pl
    exact ⟨o,e,hd⟩
   ·refine ⟨⟨o,I.kIn p o hk,hc⟩,fun a e=>?_⟩
    cases e
    exact ⟨o,I.kIn _ o hk,hd⟩
   ·have z:∃ o,s.heap.get? p=some o/\o.ExactDict:=by
     rcases hk with ⟨kvs,hk⟩ | ⟨kvs,hk⟩
     ·obtain ⟨_,_,_,_,o,_,_,e,ex,_⟩:=I.hok p _ hk
      exact ⟨o,e,ex⟩
     ·obtain ⟨_,_,_,_,o,_,_,e,ex,_⟩:=I.hok p _ hk
      exact ⟨o,e,ex⟩
    obtain ⟨o,e,ex⟩:=z
    refine ⟨⟨o,e,ex.1⟩,fun a e2=>?_⟩
    cases e2
    exact ⟨o,e,ex.2.1⟩
   ·obtain ⟨o,_,_,_,e,ex,_⟩:=I.hok p _ hk
    refine ⟨⟨o,e,ex.1⟩,fun a e2=>?_⟩
    cases e2
    exact ⟨o,e,ex.2.1⟩
 | _=>exact False.elim ty
def tBM (K:PySem.W.Frag) (T:String) (r:V->List V->Hp->VK->Prop) (to:TE) (t:TA):TE:=fun σ H Q=>to σ H fun x H1=>tyV K T x H1/\t σ H1 fun xs H2=>r x xs H2 Q
variable {o e : Expr} {es : List Expr} {to : TE} {t : TA} {name : Str} {apos cpos : Pos} {T id : String} {r : V → List V → Hp → VK → Prop}
theorem pe_bm (pa:PlainAttrs T) (slot:Slot T name id) (hty:typeOf (.builtin id)=pure (.type "method_descriptor")) (hm:MtR X id r) (ho:PE X o to) (ha:PA X (e::es) t)
 (hbase:attributeBase o name X.env (eval o X.env)=eval o X.env:=by rfl)
 (hfew:((backTo cpos (starEach (e::es) X.env)).all (fun x=>!x.1) && (backToKw cpos (keywordEach [] X.env)).all (fun x=>x.1.isSome)
  && decide ((e::es).length+([]:List Keyword).length+(if ([]:List Keyword).isEmpty then 0 else 1)<30))=true:=by rfl)
 (hline:(apos.endLine == cpos.line)=true:=by rfl) (hs:starEach (e::es) X.env=(false,eval e X.env)::starEach es X.env:=by rfl) (hplain:(backTo cpos (starEach es X.env)).any (·.1)=false:=by rfl) :
 PE X (.Call (.Attribute o name apos) (e::es) [] cpos) (tBM X.K T r to t):=by
 intro pins s σ H Q I h
 refine wpAny_Call_method_late hbase hfew hline rfl (thn (ho pins s σ H _ I h) fun v s1 ⟨x,H1,I1,r1,ty,q1⟩=>?_)
 obtain ⟨h1,h2⟩:=tyV_is I1 r1 ty
 refine ⟨T,id,pa,slot,hty,h1,h2,?_⟩
 have hA:=ha cpos pins s1 σ H1 _ I1 q1
 rw [hs] at hA ⊢
 refine Calls.callWith_builtin (by show (false || (backTo cpos (starEach es X.env)).any (·.1))=false;rw [hplain] <;> rfl) (Calls.evalArgs_plain ?_)
 exact thn hA fun us s2 ⟨vs,H2,I2,r2,q2⟩=>hm pins s2 σ H2 x vs v us Q I2 r1 r2 q2
/- xs.append(e),list.index on a module's tuple .. are MtR facts of 06m -/
end
end L2
namespace L2
open PySem PySem.Spec PyProof.Rows
def MtM (X:Cx) (id:String) (r:V->List V->Hp->VK->Prop):Prop :=
 ∀ (pins:List (Addr × Obj)) (s:Shared) (σ:St) (H:Hp) (x:V) (xs:List V) (v:Value) (us:List Value) (Q:VK),Inv X pins σ H s->RelV x v->Vals xs us->r x xs H Q ->
   wpAny (model X.prog X.w) X.A (call (.builtin id) (v::us)) (EP X pins σ Q) X.xe s
theorem Vals.one:∀ {x:V} {us:List Value},Vals [x] us->∃ u,us = [u]/\RelV x u
 | _,_,h=>by
   cases h with
   | cons r t=>cases t;exact ⟨_,rfl,r⟩
theorem Vals.two:∀ {x y:V} {us:List Value},Vals [x,y] us->∃ u v,us = [u,v]/\RelV x u/\RelV y v
 | _,_,_,h=>by
   cases h with
   | cons r t =>
     cases t with
     | cons q t=>cases t;exact ⟨_,_,rfl,r,q⟩
theorem Vals.rep {xs:List V} {us:List Value} (h:Vals xs us):∀ k:Nat,Vals (List.replicate k xs).flatten (List.replicate k us).flatten
 | 0 => .nil
 | k+1=>by
   rw [List.replicate_succ,List.replicate_succ,List.flatten_cons,List.flatten_cons]
   exact Vals.append h (Vals.rep h k)
theorem foldl_rep (its:List Value):∀ (k:Nat) (acc:List Value),
 List.foldl (fun x1 x2=>x1++x2) acc.toArray (List.replicate k its.toArray)=(acc++(List.replicate k its).flatten).toArray
 | 0,acc=>by simp
 | k+1,acc=>by
   have e:acc.toArray++its.toArray=(acc++its).toArray:=by simp
   have e2:(acc++its)++(List.replicate k its).flatten=acc++(List.replicate (k+1) its).flatten:=by
    rw [List.replicate_succ,List.flatten_cons,List.append_assoc]
   rw [<- e2,<- foldl_rep its k (acc++its),<- e,List.replicate_succ,List.foldl_cons]
section
variable {X : Cx} {pins : List (Addr × Obj)} {σ : St} {H : Hp} {s : Shared} {l b : Addr} {xs ys zs : List V}
theorem Inv.lset {its its':List Value} {n:Nat} {f:Array Value->Array Value} {t':Nat} (I:Inv X pins σ H s) (hH:H l=some (.lst xs))
 (e:s.heap.get? l=some { cls := .type "list", data := .seq its.toArray n }) (hf:f its.toArray=its'.toArray) (hv:Vals ys its') (hz:ys.length<=sizeLine) :
 Inv X pins σ (upd H l (.lst ys)) { s with heap:=s.heap.update l (Obj.mapSeq f),toks:=t' }:=by
 have q:=PySem.IsL.update e f
 rw [hf] at q
 refine I.write (x:=l) (e:=l) (by rw [hH];exact trivial) (.inl rfl) (fun b' u hb hu=>(Heap.get?_update_other s.heap (Obj.mapSeq f) (Ne.symm hb)).trans hu) ⟨_,q⟩ ?_
 exact ⟨hz,its',_,hv,q⟩
theorem Inv.lnew {its:List Value} {t':Nat} (I:Inv X pins σ H s) (hv:Vals ys its) (hz:ys.length<=sizeLine) :
 Inv X pins σ (upd H s.heap.objs.size (.lst ys)) { s with heap:=s.heap.push { cls := .type "list", data := .seq its.toArray },toks:=t' } :=
 I.laid (fun _ _ q=>Heap.get?_push_of_some _ q) (Nat.le_refl _) ⟨hz,its,0,hv,Heap.get?_push_size _ rfl⟩
theorem Inv.fresh (I:Inv X pins σ H s):H s.heap.objs.size=none:=I.hok.fresh (Nat.le_refl _)
theorem Inv.lstM (I:Inv X pins σ H s) (hH:H l=some (.lst xs)):xs.length<=sizeLine/\∃ (its:List Value) (n:Nat),Vals xs its/\xs.length=its.length/\s.heap.get? l=some { cls := .type "list", data := .seq its.toArray n }:=by
 obtain ⟨z,its,n,r,e⟩:=I.hok l _ hH
 exact ⟨z,its,n,r,r.length,e⟩
theorem notLongL {n:Nat} (h:n<=sizeLine):Builtin.List.listTooLong n=false:=by
 unfold Builtin.List.listTooLong
 exact decide_eq_false (by omega)
end
section
variable {X : Cx}
def rAppend:V->List V->Hp->VK->Prop:=fun x vs H Q=>∃ l xs y,x = .ref l/\vs = [y]/\H l=some (.lst xs)/\xs.length<sizeLine/\Q .non (upd H l (.lst (xs ++ [y])))
theorem mt_append:MtM X "list.append" rAppend:=by
 intro pins s σ H x vs v us Q I rx rv h
 obtain ⟨l,xs,y,rfl,rfl,hH,hz,q⟩:=h
 cases rx
 obtain ⟨u,rfl,ru⟩:=rv.one
 obtain ⟨z,its,n,r,hl,e⟩:=I.lstM hH
 refine call_meets F.slot_list_append ⟨_,e,rfl⟩ F.entry_list_append (F.args_list_append_2 _ _) (PySem.list_append l its.toArray n u (by rw [List.size_toArray];omega)) ⟨e,?_⟩
 refine ⟨.non,_,I.lset (its':=its ++ [u]) hH e (by simp) (r.append (.cons ru .nil)) ?_,rfl,q⟩
 rw [List.length_append,List.length_singleton]
 omega
def rExtend:V->List V->Hp->VK->Prop:=fun x vs H Q=>∃ l b xs zs,x = .ref l/\vs = [.ref b]/\H l=some (.lst xs)/\H b=some (.lst zs)/\xs.length+zs.length<=sizeLine/\Q .non (upd H l (.lst (xs++zs)))
theorem mt_extend:MtM X "list.extend" rExtend:=by
 intro pins s σ H x vs v us Q I rx rv h
 obtain ⟨l,b,xs,zs,rfl,rfl,hH,hB,hz,q⟩:=h
 cases rx
 obtain ⟨u,rfl,ru⟩:=rv.one
 cases ru
 obtain ⟨z,its,n,r,hl,e⟩:=I.lstM hH
 obtain ⟨z2,its2,n2,r2,hl2,e2⟩:=I.lstM hB
 have hsz:its.toArray.size+its2.toArray.size<=sizeLine:=by rw [List.size_toArray,List.size_toArray];omega
 have hlong:¬ (!its.toArray.isEmpty && Builtin.List.listTooLong (its.toArray.size+its2.toArray.size))=true:=by
  rw [notLongL hsz,Bool.and_false]
  exact Bool.false_ne_true
 refine call_meets F.slot_list_extend ⟨_,e,rfl⟩ F.entry_list_extend (F.args_list_extend_2 _ _)
  (AutoSeq1.list_extend_list_list_0 l its.toArray n b its2.toArray n2 hlong (by rw [List.size_toArray];omega) (by omega)) ⟨e,e2,?_⟩
 refine ⟨.non,_,I.lset (its':=its++its2) hH e (by simp) (r.append r2) ?_,rfl,q⟩
 rw [List.length_append]
 omega
def rCat:R2:=fun x y H Q=>∃ l b xs zs,x = .ref l/\y = .ref b/\H l=some (.lst xs)/\H b=some (.lst zs)/\xs.length+zs.length<=sizeLine/\∀ p,H p=none->Q (.ref p) (upd H p (.lst (xs++zs)))
theorem op_cat:OpR X (binaryOp .Add) rCat:=by
 intro pins s σ H x y v u Q I rx ry h
 obtain ⟨l,b,xs,zs,rfl,rfl,hH,hB,hz,q⟩:=h
 cases rx
 cases ry
 obtain ⟨z,its,n,r,hl,e⟩:=I.lstM hH
 obtain ⟨z2,its2,n2,r2,hl2,e2⟩:=I.lstM hB
 refine PySem.P.add_list e e2 ?_ (by rw [List.size_toArray,List.size_toArray];omega)
 have ea:its.toArray++its2.toArray=(its++its2).toArray:=by simp
 rw [ea]
 exact ⟨.ref _,_,I.lnew (t':=s.toks) (r.append r2) (by rw [List.length_append];omega),rfl,q _ I.fresh⟩
def rRep:R2:=fun x y H Q=>∃ l k xs,x = .ref l/\y = .int k/\H l=some (.lst xs)/\-(2 ^ 63)<=k/\k<2 ^ 63/\xs.length * k.toNat<=sizeLine /\
 ∀ p,H p=none->Q (.ref p) (upd H p (.lst (List.replicate k.toNat xs).flatten))
theorem len_rep {α:Type} (xs:List α) (k:Nat):(List.replicate k xs).flatten.length=k * xs.length:=by
 induction k with
 | zero=>simp
 | succ k ih=>rw [List.replicate_succ,List.flatten_cons,List.length_append,ih,Nat.succ_mul,Nat.add_comm]
theorem op_rep:OpR X (binaryOp .Mult) rRep:=by
 intro pins s σ H x y v u Q I rx ry h
 obtain ⟨l,k,xs,rfl,rfl,hH,h1,h2,hz,q⟩:=h
 cases rx
 obtain ⟨t,rfl⟩:=ry
 obtain ⟨z,its,n,r,hl,e⟩:=I.lstM hH
 have hlen:its.toArray.size * k.toNat<=sizeLine:=by rw [List.size_toArray,<- hl];exact hz
 have hcap:¬ its.toArray.size * k.toNat > (2 ^ 63 - 1) / 8:=by
  have:(sizeLine:Nat)<=(2 ^ 63 - 1) / 8:=by decide
  omega
 have hfit:¬ (!Builtin.List.listFitsIndex k)=true:=by
  rw [fitsIndex_both h1 h2]
  exact Bool.false_ne_true
 have hlong:¬ Builtin.List.listTooLong (its.toArray.size * k.toNat)=true:=by
  rw [notLongL hlen]
  exact Bool.false_ne_true
 have hnew:List.foldl (fun x1 x2=>x1++x2) #[] (List.replicate (if its.toArray.isEmpty=true then 0 else k.toNat) its.toArray)=(List.replicate k.toNat its).flatten.toArray:=by
  have f0:∀ m:Nat,List.foldl (fun x1 x2=>x1++x2) #[] (List.replicate m its.toArray)=(List.replicate m its).flatten.toArray:=fun m=>by
   have:=foldl_rep its m []
   rw [List.nil_append] at this
   exact this
  rw [f0]
  cases its with
  | nil=>simp
  | cons a r'=>rw [if_neg (by simp)]
 refine wpAny_binaryOp_repeat_ref (T := "list") (U := "int") (by decide) ⟨_,e,rfl⟩ (fun s'=>typeIs_int s' k t) noFill_list_mul F.fills_int_mul F.slot_int_rmul repeat_list F.slot_int_index.lookup
  (call_meets F.slot_int_rmul (typeIs_int s k t) F.entry_int_rmul (F.args_int_rmul_2 _ _) (int___rmul___int_list k t l its.toArray n)
   ⟨e,rfl,⟨_,e,rfl⟩,call_meets F.slot_list_mul ⟨_,e,rfl⟩ F.entry_list_mul (F.args_list_mul_2 _ _) (AutoListH.list___mul___list_int_3 l its.toArray n k t hfit hcap hlong) ⟨e,?_⟩⟩)
 rw [hnew]
 exact ⟨.ref _,_,I.lnew (t':=s.toks) (r.rep k.toNat) (by rw [len_rep,Nat.mul_comm];exact hz),rfl,q _ I.fresh⟩
end
end L2
namespace L2
open PySem PySem.Spec PyProof.Rows
section
variable {κ : Type} [DecidableEq κ]
def valV (kvs:List (κ × V)) (k:κ):Option V:=(kvs.find? fun kv=>decide (kv.1=k)).map (·.2)
theorem valV_pos {p:κ × V} {r:List (κ × V)} {k:κ} (e:p.1=k):valV (p::r) k=some p.2:=by simp [valV,List.find?_cons,e]
theorem valV_neg {p:κ × V} {r:List (κ × V)} {k:κ} (e:¬ p.1=k):valV (p::r) k=valV r k:=by simp [valV,List.find?_cons,e]
theorem RelO.isSome_eq {o:Option V} {u:Option Value} (r:RelO o u):o.isSome=u.isSome:=by
 cases o with
 | none=>cases u with
   | none=>rfl
   | some _=>exact (show False from r).elim
 | some _=>cases u with
   | none=>exact (show False from r).elim
   | some _=>rfl
theorem KV.val {kvs:List (κ × V)} {vs:List (κ × Value)} (r:KV kvs vs) (k:κ):RelO (valV kvs k) (valueAt vs k):=by
 unfold KV at r
 induction r with
 | nil=>exact True.intro
 | @cons p q ps qs h t ih =>
   obtain ⟨h1,h2⟩:=h
   by_cases e:p.1=k
   ·have e':q.1=k:=h1.symm.trans e
    have b:valueAt (q::qs) k=some q.2:=by simp [valueAt,List.find?_cons,e']
    rw [valV_pos e,b];exact h2
   ·have e':¬ q.1=k:=fun z=>e (h1.trans z)
    have b:valueAt (q::qs) k=valueAt qs k:=by simp [valueAt,List.find?_cons,e']
    rw [valV_neg e,b];exact ih
end
theorem kV_is {P:Program} {w:World} {k:Key} {u:Value} (r:RelV (kV k) u):(mixKind P w).is k u=true:=by
 cases k with
 | inl i=>obtain ⟨t,e⟩:=(show ∃ t,u=Value.int i t from r);subst e;exact mixKind_int P w i t
 | inr x=>obtain ⟨t,e⟩:=(show ∃ t,u=Value.str x t from r);subst e;exact mixKind_str P w x t
def NoSl (i:Expr):Prop:=∀ ov iv,subscripted i false ov iv=operate [ov,iv] (getItem ov iv)
theorem subD_of {prog:Program} {w:World} {A:Around} {E:Value->Shared->Prop} {s:Shared} {env:Env} {value slice:Expr} {pos:Pos} {T id:String} {Q:Value->Shared->Prop}
 (hl:typeLookup (.type T) "__getitem__" = pure (some (.builtin id))) (hs:NoSl slice)
 (h:wpAny (model prog w) A (eval value env) (fun o s₁=>wpAny (model prog w) A (eval slice env) (fun i s₂=>s₂.TypeIs o T/\wpAny (model prog w) A (getItem o i) Q E s₂) E s₁) E s) :
 wpAny (model prog w) A (eval (.Subscript value slice pos) env) Q E s:=by
 refine Subscript_ (wpAny_mono h (fun o s₁ h₁=>wpAny_mono h₁ (fun i s₂ h₂=>?_) fun _ _ x=>x) fun _ _ x=>x)
 obtain ⟨hT,h₂⟩:=h₂
 unfold subscriptTail
 refine wpAny_bind ?_
 rw [getitemInPython_of_ne hT.not_modules]
 refine wpAny_bind (wpAny_specialOf hT hl ?_)
 have fin:wpAny (model prog w) A (subscripted slice false o i) (fun r s₃=>wpAny (model prog w) A (letTemporaryGo value o r >>= fun _=>pure r) Q E s₃) E s₂:=by
  rw [hs o i]
  exact wpAny_operating (wpAny_mono h₂ (fun r s₃ h₃=>wpAny_bind (wpAny_letTemporaryGo (wpAny_pure h₃))) fun _ _ x=>x)
 first
  | exact wpAny_pure (wpAny_bind fin)
  | exact wpAny_bind (wpAny_pure (wpAny_bind fin))
  | exact wpAny_bind fin
end L2
namespace Att
open PySem PySem.W PySem.Calls PyProof.Rows
theorem ints_of_wellAll {P:Params} {h:Heap}:∀ (ns:List Int) (vs:List Value),WellAll P h vs (ns.map WData.int)->IntsAre vs ns:=by
 intro ns
 induction ns with
 | nil =>
   intro vs w
   rw [List.map_nil] at w
   cases w
   exact .nil
 | cons n ns ih =>
   intro vs w
   rw [List.map_cons] at w
   cases w with
   | cons a b =>
     cases a
     exact .cons _ _ (ih _ b)
theorem script_of {l:OpenLaw} {n:Nat} (hn:l.most=some n) {P:Params} {h:Heap} {args:List WData} {vals:List Value}
 (hpre:l.row.toRowW.claim.pre args=true) (hwl:WellAll P h vals args) :
 ∃ a vs ns,vals = [Value.ref a]/\args = [WData.list (ns.map WData.int)]/\h.get? a=some { cls := .type "list", data := .seq vs.toArray }/\IntsAre vs ns/\ns.length<=n:=by
 have hsh:WShape.hasAll [] args [.list .int]=true:=(pre_splitW hpre).1
 have hc:l.pre.holds [] { args:=args }=true:=(pre_splitW hpre).2
 obtain ⟨d,r,rfl,h1,h2⟩:=hasAllW_cons hsh
 obtain rfl:=hasAllW_nil h2
 obtain ⟨xs,rfl,h3⟩:=hasW_list h1
 obtain ⟨ns,rfl⟩:=items_int h3
 have hlen:ns.length<=n:=by
  unfold OpenLaw.pre at hc
  have h4:(WTm.not (.lt (.lit (.int (n:Int))) (.len (.arg 0)))).holds [] { args := [.list (ns.map .int)] }=true:=by
   have h4:=(holds_andW hc).1
   rw [hn] at h4
   exact h4
  have h5:=condW_of h4 (w_not (w_lt w_lit (w_len_list (w_arg rfl))))
  rw [List.length_map] at h5
  refine Nat.le_of_not_lt fun q=>?_
  have q':(n:Int)<((ns.length:Nat):Int):=by omega
  first
   | (rw [decide_eq_true q'] at h5;exact absurd h5 (by decide))
   | (simp at h5;omega)
 cases hwl with
 | cons w1 w2 =>
   cases w2
   cases w1 with
   | list ho hall=>exact ⟨_,_,ns,rfl,rfl,ho,ints_of_wellAll ns _ hall,hlen⟩
theorem post_true (l:OpenLaw) (args:List WData):l.row.toRowW.claim.post args (.bool true) args=true :=
 postW_of (r:=l.row.toRowW) (X:=(true == true))
  (show WShape.has [] (.bool true) .bool=true by first | rfl | decide | simp [WShape.has,WShape.arms,WShape.armsAll])
  (show (WTm.eq .res (.lit (.bool true))).value [] { args:=args,res:=some (.bool true),after:=args }=some (.bool (true == true)) from w_eq_bool (w_res rfl) w_lit) rfl
theorem attach_call {l:OpenLaw} {n:Nat} {q:Program} {loose:List Str} {XP:(Str->Option Value)->Heap->Prop} {YP:World->Heap->Prop} {d:DefRec}
 (hn:l.most=some n) (hdf:d.params.defaults = [])
 (call:∀ (w:World) (s₀ s₁:Shared) (mg mb:Str->Option Value) (fa:Addr) (o:Obj) (pm cd doc:Value) (a:Addr) (vs:List Value) (ns:List Int),
  Ground q loose [] XP w s₀ mg mb s₁.heap->YP w s₁.heap ->
  s₁.heap.get? fa=some o->o.data = .func (docDef d.name d.params d.body d.scope pm cd doc)->s₁.heap.CodeRec cd d.name->mg d.name=some (.ref fa) ->
  s₁.heap.get? a=some { cls := .type "list", data := .seq vs.toArray }->IntsAre vs ns->ns.length<=n->s₁.gens = #[] ->
  codeAny (model l.prog w) callerA (.call (.ref fa) ⟨[.ref a],[]⟩) (fun r s'=>r = .ok (.ret (.bool true))/\OldK s₁.heap s'.heap/\s'.os=s₁.os/\AllBare s'.gens) s₁) :
 WalkO q loose XP YP l.row.toRowW d [] (fun f vs=>PySem.call f vs):=by
 intro w s₀ s₁ mg mb G Y fa o pm cd doc dV kV ho hd hcd hD hmg hg args vals as hpre hlay hrd hwl hlo
 obtain rfl:dV = .none:=Dflts.none hD hdf
 obtain rfl:kV = .none:=Dflts.noKw hD
 obtain ⟨a,vs,ns,rfl,rfl,hobj,hints,hlen⟩:=script_of hn hpre hwl
 refine enter_call (codeAny_mono (call w s₀ s₁ mg mb fa o pm cd doc a vs ns G Y ho (fd_plain hd) hcd hmg hobj hints hlen hg) fun r s' hq=>?_)
 obtain ⟨rfl,h2,h3,h4⟩:=hq
 exact ⟨.inl ⟨.bool true,.bool true,[],rfl,fun _=>rfl,.bool true,post_true l _,fun _=>⟨List.Pairwise.nil,fun _ hm=>(nomatch hm)⟩⟩,h2,h3,h4⟩
end Att
namespace L2
open PySem PySem.Spec PyProof.Rows
theorem vals_ints:∀ {vs:List Value} {ns:List Int},IntsAre vs ns->Vals (ns.map V.int) vs
 | _,_,.nil => .nil
 | _,_,.cons n t h => .cons ⟨t,rfl⟩ (vals_ints h)
def Only (H:Hp):Prop:=∀ b,H b=none\/∃ o xs,H b=some (.frz o (.lst xs))
theorem law_call {P:Program} {w:World} {K:PySem.W.Frag} {mg mb:Str->Option Value} {CX:CXT} {k:Nat} {fa a:Addr} {fd:FuncData} {x:Str} {sp:Sp} {s₁:Shared} {vs:List Value} {ns:List Int}
 (KX:K.In s₁.heap) (hns:s₁.heap.Ns mainGlobals mg) (hb:s₁.heap.Ns builtinsNs mb) (hbb:∀ x:Str,x ≠ "__name__" -> mb x=bootBuiltins x) (hlim:s₁.heap.NoLimit) (hg:s₁.gens = #[])
 (ha:s₁.heap.get? a=some { cls := .type "list", data := .seq vs.toArray }) (hi:IntsAre vs ns) (hl:ns.length<=sizeLine) (hr:Room k callerA)
 (F:∀ base:Heap,K.In base->base.Ns mainGlobals mg->FnOk P w K mg base CX k fa fd [x] sp) (hbind:∀ (s:Shared) (u:Value),BindsTo s fd ⟨[u],[]⟩ [(x,u)])
 (hsp:∀ H:Hp,Only H->SqL K H a (ns.map V.int)->sp [.ref a] H (fun v _=>v = .bl true) fun _ _ _=>False)
 (hCX:∀ H e s',CX [] H s₁ (fun _ _ _=>False) e s'->False) :
 codeAny (model P w) callerA (.call (.ref fa) ⟨[.ref a],[]⟩) (fun r s'=>r = .ok (.ret (.bool true))/\OldK s₁.heap s'.heap/\s'.os=s₁.os/\AllBare s'.gens) s₁:=by
 have rv:=vals_ints hi
 have lenV:=hi.length
 -- from an abstract heap in which nothing but the script may be tracked
 have core:∀ H:Hp,Only H->SqL K H a (ns.map V.int)->HOk P w H s₁.heap->(∀ b,H b ≠ none->b=a)->(H a ≠ none->K.lookup a=none) ->
  codeAny (model P w) callerA (.call (.ref fa) ⟨[.ref a],[]⟩) (fun r s'=>r = .ok (.ret (.bool true))/\OldK s₁.heap s'.heap/\s'.os=s₁.os/\AllBare s'.gens) s₁:=by
  intro H hO hS hok hA hK
  have base_of:∀ {b:Addr} {o:Obj},s₁.heap.get? b=some o->H b=none->(hidT s₁.heap H).get? b=some o:=fun e n=>hidT_get e n
  have noA:∀ {b:Addr} {o:Obj} {es:Array DictEntry} {ep:Nat},s₁.heap.get? b=some o->o.data = .dict es ep->H b=none:=fun {b o es ep} e d=>by
   cases q:H b with
   | none=>rfl
   | some u =>
     have e':b=a:=hA b (by rw [q];simp)
     subst e'
     rw [ha] at e;cases e
     have d':Data.seq vs.toArray _=Data.dict es ep:=d
     cases d'
  have nsK:∀ {b:Addr} {m:Str->Option Value},s₁.heap.Ns b m->(hidT s₁.heap H).Ns b m:=fun {b m} ⟨o,es,ep,e,d,r⟩=>⟨o,es,ep,base_of e (noA e d),d,r⟩
  have hKb:K.In (hidT s₁.heap H):=fun b o e=>base_of (KX b o e) (by
   cases q:H b with
   | none=>rfl
   | some u =>
     have e':b=a:=hA b (by rw [q];simp)
     subst e'
     rw [hK (by rw [q];simp)] at e;cases e)
  have hM:Mod K mg (hidT s₁.heap H):=⟨hKb,nsK hns,⟨mb,nsK hb,hbb⟩,let ⟨mc,h1,h2⟩:=hlim; ⟨mc,nsK h1,h2⟩⟩
  have e0:Env0 P w K mg (hidT s₁.heap H) callerA [] s₁ H:=⟨rfl,hM,fun b o e=>of_hidT e,Nat.le_of_eq (hidT_size _ _),trivial,fun b hb=>absurd (show b ∈ ([]:List Addr) from hb) (by simp),hok,.of_eq hg⟩
  refine codeAny_mono ((F _ hKb (nsK hns)).run callerA [] s₁ H ⟨[.ref a],[]⟩ [.ref a] [.ref a] _ _ hr e0 (hbind s₁ (.ref a)) (.cons rfl .nil) (hsp H hO hS)) fun r s' h=>?_
  cases r with
  | error e=>exact (hCX H e s' h).elim
  | ok fl =>
    cases fl with
    | next=>exact False.elim h
    | brk=>exact False.elim h
    | cont=>exact False.elim h
    | ret u =>
      obtain ⟨v,H',os,bare,un,hok',r',q⟩:=h
      have q':v = .bl true:=q
      subst q'
      obtain rfl:u=Value.bool true:=r'
      refine ⟨rfl,OldK.of_keep fun b o e=>?_,os,bare⟩
      cases q:H b with
      | none=>exact un.keep b o e q (by intro z;exact absurd (show b ∈ ([]:List Addr) from z) (by simp)) (by simp)
      | some u =>
        rcases hO b with z | ⟨ob,xs,z⟩
        ·rw [q] at z;cases z
        ·have z2:=un.frzs b ob _ z
         obtain ⟨e1,_⟩:=hok b _ z
         obtain ⟨e2,_⟩:=hok' b _ z2
         rw [e] at e1;cases e1
         exact e2
 cases hk:K.lookup a with
 | some o =>
   -- the script is one of the module's own objects
   have e:=KX a o hk
   rw [ha] at e
   cases e
   refine core (fun _=>none) (fun _ => .inl rfl) (.inr ⟨_,vs.toArray,_,hk,rfl,rfl,rfl,by rw [List.size_toArray,lenV];exact hl,by simpa using rv⟩) (fun b u z=>by have z':(none:Option HO)=some u:=z;cases z') (fun b z=>absurd rfl z) fun z=>absurd rfl z
 | none =>
   refine core (fun b=>if b=a then some (.frz { cls := .type "list", data := .seq vs.toArray } (.lst (ns.map V.int))) else none) (fun b=>?_) (.inl (.inr ⟨{ cls := .type "list", data := .seq vs.toArray },if_pos rfl⟩)) (fun b u z=>?_) (fun b z=>?_) fun _=>hk
   ·by_cases hb:b=a
    ·exact .inr ⟨_,_,if_pos hb⟩
    ·exact .inl (if_neg hb)
   ·by_cases hb:b=a
    ·have z':=(if_pos hb).symm.trans z
     cases z'
     subst hb
     exact ⟨ha,by rw [List.length_map];exact hl,vs,_,rv,ha⟩
    ·have z':=(if_neg hb).symm.trans z
     cases z'
   ·by_cases hb:b=a
    ·exact hb
    ·exact absurd (if_neg hb) z
end L2
namespace L2
open PySem PySem.Spec PyProof.Rows
theorem walk_of {l:PySem.W.OpenLaw} {n k:Nat} {q:Program} {loose:List Str} {XP:(Str->Option Value)->Heap->Prop} {YP:World->Heap->Prop} {d:DefRec} {K:Params->PySem.W.Frag} {CX:World->CXT} {sp:World->Sp} {x:Str}
 (hn:l.most=some n) (hn2:n<=sizeLine) (hdf:d.params.defaults = []) (hr:Room k callerA)
 (hY:∀ (w:World) (h:Heap),YP w h->(K w.params).In h)
 (F:∀ (w:World) (mg:Str->Option Value) (fa:Addr) (h:Heap),(K w.params).In h->h.Ns mainGlobals mg->mg d.name=some (.ref fa) ->
  ∃ fd:FuncData,(∀ (s:Shared) (u:Value),BindsTo s fd ⟨[u],[]⟩ [(x,u)]) /\
    ∀ base:Heap,(K w.params).In base->base.Ns mainGlobals mg->FnOk l.prog w (K w.params) mg base (CX w) k fa fd [x] (sp w))
 (hsp:∀ (w:World) (H:Hp) (a:Addr) (ns:List Int),ns.length<=n->Only H->SqL (K w.params) H a (ns.map V.int)->sp w [.ref a] H (fun v _=>v = .bl true) fun _ _ _=>False)
 (hCX:∀ (w:World) (H:Hp) (s:Shared) (e:Value) (s':Shared),CX w [] H s (fun _ _ _=>False) e s'->False) :
 PySem.W.WalkO q loose XP YP l.row.toRowW d [] (fun f vs=>PySem.call f vs):=by
 refine Att.attach_call hn hdf fun w s₀ s₁ mg mb fa o pm cd doc a vs ns G Y ho hd hcd hmg hobj hints hlen hg=>?_
 have KX:=hY w _ Y
 obtain ⟨fd,hb,hF⟩:=F w mg fa _ KX G.T.g hmg
 exact law_call KX G.T.g G.T.b G.T.builtins G.T.nolimit hg hobj hints (Nat.le_trans hlen hn2) hr hF hb (fun H hO hS=>hsp w H a ns hlen hO hS) fun H e s'=>hCX w H s₁ e s'
end L2
namespace L2
open PySem PySem.Spec PyProof.Rows
def defArgs (s:Stmt):Arguments:=match s with
 | .FunctionDef _ a _ _ _ _ _ _ _ _=>a
 | _=>{ posonlyargs := [],args := [],vararg:=none,kwonlyargs := [],kw_defaults := [],kwarg:=none,defaults := [] }
def defBody (s:Stmt):List Stmt:=match s with
 | .FunctionDef _ _ b _ _ _ _ _ _ _=>b
 | _ => []
def defScope (s:Stmt):Scope:=match s with
 | .FunctionDef _ _ _ _ _ _ sc _ _ _=>sc
 | _=>{ kind := .function,names := [],isGenerator:=false,isCoroutine:=false }
abbrev CX0:CXT:=fun _ _ _ _ _ _=>False
abbrev E0:XK:=fun _ _ _=>False
theorem pass0 {X:Cx}:Passes CX0 X E0:=fun _ _ _ _ _ _ _ h=>h.elim
structure Fun (K:PySem.W.Frag) (x qual:Str) (st:Stmt) (f:Addr) (fd:FuncData):Prop where
 ex:∃ (oc:Value) (od:Option Addr) (kV doc pm:Value) (an:Option Addr) (cdv ct:Value) (osl:Array (Option Value)),
  fd=PySem.W.fnOf x qual (defArgs st) (defBody st) (defScope st) .none kV doc pm an cdv ct/\K.lookup f=some ⟨oc,od,.func fd,osl⟩/\PySem.W.codeIn K cdv qual=true
 kp:PySem.W.keepIn K (.ref f)=true
section
variable {P : Program} {w : World} {K : PySem.W.Frag} {mg : Str → Option Value} {base : Heap}
theorem Fun.ok {x qual:Str} {st:Stmt} {f:Addr} {fd:FuncData} {N ps:List Str} {k:Nat} {sp:Sp} (F:Fun K x qual st f fd) (S:FnScope N ps (defScope st)) (len:∀ vs H Q E,sp vs H Q E->vs.length=ps.length)
 (hbody:∀ (cdv:Value) (A:Around) (outer:List Env) (s:Shared) (H:Hp) (vs:List V) (Q:VK) (E:XK),Room k (A.deeper (envOfC qual (defScope st) s.heap.objs.size f cdv))->sp vs H Q E ->
  ∃ t,PSs (cxOf CX0 P w K mg base N qual (defScope st) f cdv A outer s H E).nox (defBody st) t/\t { nx:=fun _ H'=>Q .non H',rt:=Q } (start N vs) H):FnOk P w K mg base CX0 (k+1) f fd ps sp:=by
 obtain ⟨oc,od,kV,doc,pm,an,cdv,ct,osl,rfl,lk,hcd⟩:=F.ex
 refine fn_of lk hcd S len fun A outer s H vs Q E hr hsp=>?_
 obtain ⟨t,h,q⟩:=hbody cdv A outer s H vs Q E hr hsp
 exact ⟨t,h.nox,q⟩
theorem Fun.binds {x qual:Str} {st:Stmt} {f:Addr} {fd:FuncData} {ps:List Str} (F:Fun K x qual st f fd)
 (h:∀ (kV doc pm:Value) (an:Option Addr) (cdv ct:Value) (us:List Value),us.length=ps.length->bindArgs (PySem.W.fnOf x qual (defArgs st) (defBody st) (defScope st) .none kV doc pm an cdv ct) ⟨us,[]⟩=pure (ps.zip us)):Binds K fd ps []:=by
 obtain ⟨oc,od,kV,doc,pm,an,cdv,ct,osl,rfl,lk,hcd⟩:=F.ex
 exact .all (h kV doc pm an cdv ct)
theorem fun_mk {x qual:Str} {st:Stmt} {f:Addr} {oc:Value} {od an:Option Addr} {osl:Array (Option Value)} {kV doc pm cdv ct:Value} (l:K.lookup f=some ⟨oc,od,.func (PySem.W.fnOf x qual (defArgs st) (defBody st) (defScope st) .none kV doc pm an cdv ct),osl⟩)
 (c:PySem.W.codeIn K cdv qual=true) (k:PySem.W.keepIn K (.ref f)=true):Fun K x qual st f (PySem.W.fnOf x qual (defArgs st) (defBody st) (defScope st) .none kV doc pm an cdv ct):=⟨⟨oc,od,kV,doc,pm,an,cdv,ct,osl,rfl,l,c⟩,k⟩
end
theorem iteF {A B:Prop} (h:B):if false=true then A else B:=by
 rw [if_neg Bool.false_ne_true]
 exact h
theorem iteT {A B:Prop} (h:A):if true=true then A else B:=by
 rw [if_pos rfl]
 exact h
theorem ite2 {c A B:Prop} [Decidable c] (h1:c->A) (h2:¬ c->B):if c then A else B:=by
 by_cases h:c
 ·rw [if_pos h]
  exact h1 h
 ·rw [if_neg h]
  exact h2 h
def Same (H H':Hp):Prop:=∀ b o,H b=some o->H' b=some o
theorem Same.refl (H:Hp):Same H H:=fun _ _ h=>h
end L2
set_option maxHeartbeats 4000000
namespace L3
open PySem PySem.Spec
open PyProof.Rows hiding St
open L2
theorem forIn_pure {α β:Type} {l:List α} {f:α->β->Sem (ForInStep β)} (g:α->β->β):∀ (c:β),(∀ x ∈ l,∀ c,f x c=pure (.yield (g x c)))->forIn l c f=pure (l.foldl (fun c x=>g x c) c):=by
 induction l with
 | nil=>intro c _;rfl
 | cons x l ih =>
   intro c h
   rw [List.forIn_cons,h x List.mem_cons_self,pure_bind]
   exact ih (g x c) fun y hy=>h y (List.mem_cons_of_mem _ hy)
def clOf (ns:List (Str × NameKind)) (env:Env):List (Str × Addr):=ns.foldl (fun cs x=>if x.2 == .free then (x.1,(env.cells.lookup x.1).getD 0)::cs else cs) []
theorem closure_ok {scope:Scope} {env:Env} (h:∀ p ∈ scope.names,p.2 = .free->∃ c,env.cells.lookup p.1=some c):closureFor scope env=pure (clOf scope.names env):=by
 simp only [closureFor]
 unfold clOf
 rw [forIn_pure (fun (x:Str × NameKind) (cs:List (Str × Addr))=>if x.2 == .free then (x.1,(env.cells.lookup x.1).getD 0)::cs else cs)]
 ·rfl
 ·intro x hx c
  obtain ⟨n,k⟩:=x
  dsimp only
  by_cases hk:k = .free
  ·subst hk
   obtain ⟨a,ha⟩:=h _ hx rfl
   have ha':env.cells.lookup n=some a:=ha
   simp only [beq_self_eq_true,if_true,cellOf,ha',pure_bind,Option.getD_some]
  ·have hb:(k == NameKind.free)=false:=by simpa using hk
   simp only [hb,Bool.false_eq_true,if_false]
theorem cl_fold {env:Env} {x:Str}:∀ (ns:List (Str × NameKind)) (acc:List (Str × Addr)) (c:Addr),
 (ns.foldl (fun cs y=>if y.2 == .free then (y.1,(env.cells.lookup y.1).getD 0)::cs else cs) acc).lookup x=some c->acc.lookup x=some c\/((x,NameKind.free) ∈ ns/\c=(env.cells.lookup x).getD 0):=by
 intro ns
 induction ns with
 | nil=>intro acc c h;exact .inl h
 | cons y r ih =>
   intro acc c h
   obtain ⟨n,k⟩:=y
   rw [List.foldl_cons] at h
   rcases ih _ c h with h1 | ⟨h1,h2⟩
   ·by_cases hk:k = .free
    ·subst hk
     simp only [beq_self_eq_true,if_true] at h1
     by_cases hx:x=n
     ·subst hx
      rw [List.lookup_cons_self] at h1
      cases h1
      exact .inr ⟨List.mem_cons_self,rfl⟩
     ·have hb:(x == n)=false:=by simpa using hx
      rw [List.lookup_cons,hb] at h1
      exact .inl h1
    ·have hb:(k == NameKind.free)=false:=by simpa using hk
     simp only [hb,Bool.false_eq_true,if_false] at h1
     exact .inl h1
   ·exact .inr ⟨List.mem_cons_of_mem _ h1,h2⟩
theorem cl_fold_has {env:Env} {x:Str}:∀ (ns:List (Str × NameKind)) (acc:List (Str × Addr)),(acc.lookup x).isSome=true\/(x,NameKind.free) ∈ ns ->
 ((ns.foldl (fun cs y=>if y.2 == .free then (y.1,(env.cells.lookup y.1).getD 0)::cs else cs) acc).lookup x).isSome=true:=by
 intro ns
 induction ns with
 | nil => intro acc h;rcases h with h | h
          ·exact h
          ·exact absurd h (by simp)
 | cons y r ih =>
   intro acc h
   obtain ⟨n,k⟩:=y
   rw [List.foldl_cons]
   refine ih _ ?_
   by_cases hk:k = .free
   ·subst hk
    simp only [beq_self_eq_true,if_true]
    by_cases hx:x=n
    ·subst hx
     left
     rw [List.lookup_cons_self]
     rfl
    ·have hb:(x == n)=false:=by simpa using hx
     rw [List.lookup_cons,hb]
     rcases h with h | h
     ·exact .inl h
     ·rcases List.mem_cons.mp h with z | z
      ·injection z with z1 _
       exact absurd z1 hx
      ·exact .inr z
   ·have hb:(k == NameKind.free)=false:=by simpa using hk
    simp only [hb,Bool.false_eq_true,if_false]
    rcases h with h | h
    ·exact .inl h
    ·rcases List.mem_cons.mp h with z | z
     ·injection z with _ z2
      exact absurd z2.symm hk
     ·exact .inr z
theorem cl_of {ns:List (Str × NameKind)} {env:Env} {x:Str} {c:Addr} (h:(clOf ns env).lookup x=some c):(x,NameKind.free) ∈ ns/\c=(env.cells.lookup x).getD 0:=by
 rcases cl_fold ns [] c h with z | z
 ·cases z
 ·exact z
theorem cl_has {ns:List (Str × NameKind)} {env:Env} {x:Str} {c:Addr} (h:(x,NameKind.free) ∈ ns) (e:env.cells.lookup x=some c):(clOf ns env).lookup x=some c:=by
 obtain ⟨d,hd⟩:=Option.isSome_iff_exists.mp (cl_fold_has (env:=env) ns [] (.inr h))
 have hd':(clOf ns env).lookup x=some d:=hd
 rw [hd',(cl_of hd').2,e]
 rfl
theorem lookup_relabel {env:Env} {x:Str}:∀ (names:List (Str × NameKind)),
 (names.map fun (n,k)=>if (k == NameKind.free && env.scope.kind == .function && env.kindOf n == some .cell) then (n,NameKind.cell) else (n,k)).lookup x =
  (names.lookup x).map fun k=>if (k == NameKind.free && env.scope.kind == .function && env.kindOf x == some .cell) then NameKind.cell else k
 | []=>rfl
 | (n,k)::r=>by
   have ih:=lookup_relabel (env:=env) (x:=x) r
   show List.lookup x ((if (k == NameKind.free && env.scope.kind == .function && env.kindOf n == some .cell)=true then (n,NameKind.cell) else (n,k))::_)=_
   by_cases hx:x=n
   ·subst hx
    by_cases hc:(k == NameKind.free && env.scope.kind == .function && env.kindOf x == some .cell)=true
    ·rw [if_pos hc,List.lookup_cons_self,List.lookup_cons_self,Option.map_some,if_pos hc]
    ·rw [if_neg hc,List.lookup_cons_self,List.lookup_cons_self,Option.map_some,if_neg hc]
   ·have hb:(x == n)=false:=by simpa using hx
    by_cases hc:(k == NameKind.free && env.scope.kind == .function && env.kindOf n == some .cell)=true
    ·rw [if_pos hc,List.lookup_cons,hb,List.lookup_cons,hb];exact ih
    ·rw [if_neg hc,List.lookup_cons,hb,List.lookup_cons,hb];exact ih
def compCx (X:Cx) (scope:Scope) (N':List Str) (C:Addr) (s:Shared) (H:Hp) (ex:List Addr):Cx :=
 { X with N:=N',s₀:=s,H₀:=H,env:=compEnvC scope (clOf scope.names X.env) C X.env,outer:=X.stack,stack:=X.stack,ex:=ex,fn:=fun _=>false,pn := [],xe:=fun _ _=>False }
def scopeOk (h:Nat) (N' N:List Str) (names sc:List (Str × NameKind)):Bool :=
 decide (N'.length=h+N.length) && decide N'.Nodup
 && (names.all fun p=>p.2 != .cell && (p.2 != .local || names.lookup p.1 == some .local) && (p.2 != .free || (names.lookup p.1 == some .free && (sc.lookup p.1 == some .cell || sc.lookup p.1 == some .free))))
 && (((N'.drop h).zip N).all fun p=>match names.lookup p.1 with | some .free=>p.1 == p.2 | some .local=>false | some .cell=>false | _=>true)
structure ScopeOk (h:Nat) (N' N:List Str) (scope:Scope) (sc:Scope):Prop where
 kind:scope.kind = .function
 len:N'.length=h+N.length
 nd:N'.Nodup
 nocell:∀ y ∈ scope.names,y.2 ≠ .cell
 loc:∀ y ∈ scope.names,y.2 = .local->scope.names.lookup y.1=some .local
 free:∀ y ∈ scope.names,y.2 = .free->scope.names.lookup y.1=some .free/\(sc.names.lookup y.1=some .cell\/sc.names.lookup y.1=some .free)
 out:∀ (i:Nat) (x:Str) (k:NameKind),N'[h+i]? = some x->scope.names.lookup x=some k->(k = .local\/k = .cell\/k = .free)->N[i]? = some x/\k = .free
theorem ScopeOk.of {h:Nat} {N' N:List Str} {scope sc:Scope} (hk:scope.kind = .function) (e:scopeOk h N' N scope.names sc.names=true):ScopeOk h N' N scope sc:=by
 unfold scopeOk at e
 simp only [Bool.and_eq_true,decide_eq_true_eq,List.all_eq_true] at e
 obtain ⟨⟨⟨e1,e2⟩,e3⟩,e4⟩:=e
 refine ⟨hk,e1,e2,fun y hy z=>?_,fun y hy z=>?_,fun y hy z=>?_,fun i x k hx hl hkk=>?_⟩
 ·have:=e3 y hy
  rw [z] at this
  simp at this
 ·have:=e3 y hy
  rw [z] at this
  simpa using this
 ·have:=e3 y hy
  rw [z] at this
  simpa using this
 ·have h1:(N'.drop h)[i]? = some x:=by rw [List.getElem?_drop];exact hx
  have hi:i<N.length:=by
   obtain ⟨z,_⟩:=List.getElem?_eq_some_iff.mp hx
   omega
  have h2:N[i]? = some N[i]:=List.getElem?_eq_getElem hi
  have hm:(x,N[i]) ∈ (N'.drop h).zip N:=by
   refine List.mem_of_getElem? (i:=i) ?_
   rw [List.getElem?_zip_eq_some]
   exact ⟨h1,h2⟩
  have q:=e4 _ hm
  rw [hl] at q
  rcases hkk with rfl | rfl | rfl
  ·exact absurd q (by simp)
  ·exact absurd q (by simp)
  ·have q':x=N[i]:=by simpa using q
   exact ⟨by rw [h2,<- q'],rfl⟩
def PF (X:Cx) (ifs:List Expr) (t:TT):Prop :=
 ∀ (pins:List (Addr × Obj)) (s:Shared) (σ:St) (H:Hp) (Q:Bool->Hp->Prop),Inv X pins σ H s->t σ H Q ->
   wpAny (model X.prog X.w) X.A (forIn ifs true fun c r=>if r=true then do let ok <- isTrue c X.env (eval c X.env);pure (ForInStep.yield ok) else pure (ForInStep.yield r)) (TP X pins σ Q) X.xe s
def tYes:TT:=fun _ H Q=>Q true H
theorem pf_nil {X:Cx}:PF X [] tYes:=fun _ _ _ H _ I h=>wpAny_tests_nil ⟨H,I,h⟩
theorem pf_one {X:Cx} {c:Expr} {t:TT} (h:PT X c t):PF X [c] t:=fun pins s σ H Q I q=>wpAny_tests_one (h pins s σ H Q I q)
def OwnG (h:Nat) (g:TG):Prop:=∀ v (σ:St) H Q,h<=σ.length->g v σ H Q->g v σ H fun σ2 H2=>Q σ2 H2/\σ2.length=σ.length/\σ2.drop h=σ.drop h
theorem own_name {h i:Nat} (hi:i<h):OwnG h (gName i):=fun v σ H Q hl q=>⟨q,by simp,by rw [List.drop_set_of_lt hi]⟩
def OwnGs (h:Nat) (g:TGs):Prop:=∀ vs (σ:St) H Q,h<=σ.length->g vs σ H Q->g vs σ H fun σ2 H2=>Q σ2 H2/\σ2.length=σ.length/\σ2.drop h=σ.drop h
theorem own_nil {h:Nat}:OwnGs h gNil:=fun vs σ H Q _ q=>⟨q.1,q.2,rfl,rfl⟩
def MonG (g:TG):Prop:=∀ v σ H (Q Q':St->Hp->Prop),(∀ σ H,Q σ H->Q' σ H)->g v σ H Q->g v σ H Q'
def MonGs (g:TGs):Prop:=∀ v σ H (Q Q':St->Hp->Prop),(∀ σ H,Q σ H->Q' σ H)->g v σ H Q->g v σ H Q'
theorem mon_name {i:Nat}:MonG (gName i):=fun _ _ _ _ _ h q=>h _ _ q
theorem mon_nil:MonGs gNil:=fun _ _ _ _ _ h q=>⟨q.1,h _ _ q.2⟩
theorem mon_cons {g:TG} {gs:TGs} (a:MonG g) (b:MonGs gs):MonGs (gCons g gs):=fun vs σ H Q Q' h ⟨v,r,e,q⟩=>⟨v,r,e,a _ _ _ _ _ (fun σ' H' z=>b _ _ _ _ _ h z) q⟩
theorem own_cons {h:Nat} {g:TG} {gs:TGs} (m:MonG g) (m2:MonGs gs) (a:OwnG h g) (b:OwnGs h gs):OwnGs h (gCons g gs):=fun vs σ H Q hl ⟨v,r,e,q⟩=>by
 refine ⟨v,r,e,m _ _ _ _ _ (fun σ' H' z=>?_) (a v σ H _ hl q)⟩
 obtain ⟨z1,z2,z3⟩:=z
 exact m2 _ _ _ _ _ (fun σ2 H2 ⟨y1,y2,y3⟩=>⟨y1,y2.trans z2,y3.trans z3⟩) (b r σ' H' Q (by omega) z1)
theorem own_tup {K:PySem.W.Frag} {h n:Nat} {gs:TGs} (b:OwnGs h gs):OwnG h (gTup K n gs):=fun v σ H Q hl ⟨a,xs,e1,e2,e3,q⟩=>⟨a,xs,e1,e2,e3,b xs σ H Q hl q⟩
def tComp (h:Nat) (wi:TI) (g:TG) (tf:TT) (te:TE):TE:=fun σ H Q=>wi σ H fun J H1=>∀ D,H1 D=none->∃ W:Nat->Nat->List V->Hp->Prop,(∃ m,W 0 m [] (upd H1 D (.lst [])))/\∀ i m ys H,W i m ys H ->
 H D=some (.lst ys)/\((J.stop i H/\Q (.ref D) H)\/(J.go i H/\∀ x H',J.yld i H x H'->g x (List.replicate h none++σ) H' fun σ2 H2=>tf σ2 H2 fun c H3 =>
   if c=true then te σ2 H3 fun y H4=>H4 D=some (.lst ys)/\ys.length<sizeLine/\∃ m',m'<m/\W (i+1) m' (ys ++ [y]) (upd H4 D (.lst (ys ++ [y]))) else ∃ m',m'<m/\W (i+1) m' ys H3))
theorem compLoop_go {prog:Program} {w:World} {A:Around} {R:Result->Shared->Prop} {s:Shared} {elt target iter:Expr} {ifs:List Expr} {scope:Scope} {pos:Pos} {it acc:Value} {env:Env} (I:Nat->Shared->Prop)
 (turn:∀ n s,I n s->wpAny (model prog w) A (pyNext it) (fun r s₁=>match r with
  | none=>R (.ok .next) s₁
  | some v=>wpAny (model prog w) A (letOwnedTupleGo target it v) (fun _ s₀=>wpAny (model prog w) A (assign target env v) (fun _ s₂ =>
   wpAny (model prog w) A (forIn ifs true fun c r=>if r=true then do let ok <- isTrue c env (eval c env);pure (ForInStep.yield ok) else pure (ForInStep.yield r)) (fun ok s₃ =>
    if ok=true then wpAny (model prog w) A (eval elt env) (fun x s₄ =>
     wpAny (model prog w) A (call (.builtin "list.append") [acc,x]) (fun _ s₅=>∃ m,m<n/\I m s₅) (fun _ _=>False) s₄) (fun _ _=>False) s₃
    else ∃ m,m<n/\I m s₃) (fun _ _=>False) s₂) (fun _ _=>False) s₀) (fun _ _=>False) s₁) (fun _ _=>False) s)
 (n:Nat) (h:I n s):codeAny (model prog w) A (.compLoop (.ListComp elt [⟨target,iter,ifs,0⟩] scope pos) 0 it acc env) R s:=by
 refine codeAny_loop rfl I (fun n s hI=>?_) n h
 show wpAny _ A ((compTurn (.ListComp elt [⟨target,iter,ifs,0⟩] scope pos) 0 it acc env).onRaise (fun x=>do noteFrame x env;theTreesLotGoes x)) _ _ s
 refine wpAny_noted ?_
 rw [compTurn_list]
 refine wpAny_bind (wpAny_standAt (wpAny_bind (wpAny_mono (turn n s hI) (fun r s₁ h₁=>?_) fun _ _ h'=>h'.elim)))
 cases r with
 | none=>exact wpAny_pure h₁
 | some v =>
   refine wpAny_bind (wpAny_mono h₁ (fun _ s₀ h₀=>?_) fun _ _ h'=>h'.elim)
   refine wpAny_bind (wpAny_mono h₀ (fun _ s₂ h₂=>wpAny_bind (wpAny_mono h₂ (fun ok s₃ h₃=>?_) fun _ _ h'=>h'.elim)) fun _ _ h'=>h'.elim)
   cases ok with
   | false=>exact wpAny_pure ⟨rfl,h₃⟩
   | true =>
     exact wpAny_bind (wpAny_bind (wpAny_mono h₃ (fun x s₄ h₄=>wpAny_bind (wpAny_mono h₄ (fun _ s₅ h₅=>wpAny_pure (wpAny_pure ⟨rfl,h₅⟩)) fun _ _ h'=>h'.elim)) fun _ _ h'=>h'.elim))
section
variable {X : Cx} {pins : List (Addr × Obj)} {σ : St} {H : Hp} {s : Shared}
theorem comp_ok {h:Nat} {N':List Str} {scope:Scope} {fp:List Addr} (I:Inv X pins σ H s) (S:ScopeOk h N' X.N scope X.env.scope) (hf:∀ b ∈ fp,FpOk X pins H b) (hlt:∀ b ∈ fp,b<s.heap.objs.size) :
 (compCx X scope N' s.heap.objs.size s H fp).Ok:=by
 have cl:∀ x c,(clOf scope.names X.env).lookup x=some c->X.env.cells.lookup x=some c:=fun x c e=>by
  obtain ⟨h1,h2⟩:=cl_of e
  obtain ⟨d,hd⟩:=I.ok.has x (S.free _ h1 rfl).2
  rw [hd] at h2 ⊢
  rw [h2];rfl
 refine ⟨I.ok.mod,?_,I.ok.glob,I.ok.blt,Nat.le_refl _,fun x y c e1 e2=>I.ok.inj x y c (cl x c e1) (cl y c e2),fun x hx=>?_,fun x c z=>?_,I.ok.hd,I.ok.frames,.inl rfl,fun b hb=>⟨Nat.ne_of_lt (hlt b hb),fun x c e=>(hf b hb).2.2.2.2.1 x c (cl x c e)⟩,fun b o e=>I.bs b o e,Nat.le_trans I.ok.bsz I.sz,fun b o e hb=>?_,fun b hb z=>?_,I.stack,I.stkFree⟩
 ·exact S.kind
 ·have hx':(relabel scope X.env).names.lookup x=some .cell\/(relabel scope X.env).names.lookup x=some .free:=hx
  have e:=lookup_relabel (env:=X.env) (x:=x) scope.names
  have hl:scope.names.lookup x=some .free:=by
   cases q:scope.names.lookup x with
   | none=>rw [q] at e;rcases hx' with z | z <;> (have z':=e.symm.trans z;cases z')
   | some k =>
     rw [q,Option.map_some] at e
     by_cases hk:k = .free
     ·rw [hk]
     ·have hc:¬ (k == NameKind.free && X.env.scope.kind == .function && X.env.kindOf x == some .cell)=true:=by
       have:(k == NameKind.free)=false:=by simpa using hk
       rw [this];simp
      rw [if_neg hc] at e
      rcases hx' with z | z
      ·have z':=e.symm.trans z
       cases z'
       exact absurd rfl (S.nocell _ (PySem.mem_of_lookup q))
      ·have z':=e.symm.trans z
       cases z'
       rfl
  have hm:=PySem.mem_of_lookup hl
  obtain ⟨c,hc⟩:=I.ok.has x (S.free _ hm rfl).2
  exact ⟨c,cl_has hm hc⟩
 ·exact absurd z Bool.false_ne_true
 ·rcases (hf b hb).2.2.2.1 with z | z
  ·exact I.ok.noex b o e z
  ·exact absurd (Nat.lt_of_lt_of_le (Heap.lt_size (I.ok.bs b o e).1) z) (Nat.lt_irrefl _)
 ·obtain ⟨_,f1,f2,_⟩:=hf b hb
  rcases List.mem_cons.mp (I.stkSub b z) with q | q
  ·exact f1 q
  ·exact f2 q
theorem comp_cl {h:Nat} {N':List Str} {scope:Scope} (I:Inv X pins σ H s) (S:ScopeOk h N' X.N scope X.env.scope):∀ x c,(clOf scope.names X.env).lookup x=some c->X.env.cells.lookup x=some c:=fun x c e=>by
 obtain ⟨h1,h2⟩:=cl_of e
 obtain ⟨d,hd⟩:=I.ok.has x (S.free _ h1 rfl).2
 rw [hd] at h2 ⊢
 rw [h2];rfl
theorem comp_start {h:Nat} {N':List Str} {scope:Scope} {fp:List Addr} {h':Heap} {tk:Nat} (I:Inv X pins σ H s) (S:ScopeOk h N' X.N scope X.env.scope) (hf:∀ b ∈ fp,FpOk X pins H b) (hlt:∀ b ∈ fp,b<s.heap.objs.size)
 (hn:h'.Ns s.heap.objs.size fun _=>none) (kp:∀ b o,s.heap.get? b=some o->h'.get? b=some o) :
 Inv (compCx X scope N' s.heap.objs.size s H fp) [] (List.replicate h none++σ) H { s with heap:=h',toks:=tk }:=by
 have ok:=comp_ok I S hf hlt
 have cl:=comp_cl I S
 refine ⟨ok,rfl,I.bare,Un.kept kp,⟨_,hn,fun i x v e1 e2 e3=>?_⟩,fun x c e=>?_,I.hok.fresh (Nat.le_refl _),fun x c e=>I.freeC x c (cl x c e),fun p hp=>absurd (show p ∈ ([]:List (Addr × Obj)) from hp) (by simp),I.hok.kept kp,?_⟩
 ·have e1:N'[i]? = some x:=e1
  by_cases hi:i<h
  ·rw [List.getElem?_append_left (by simpa using hi),List.getElem?_replicate,if_pos hi] at e2
   cases e2
  ·obtain ⟨j,rfl⟩:∃ j,i=h+j:=⟨i - h,by omega⟩
   rw [List.getElem?_append_right (by simp),List.length_replicate,Nat.add_sub_cancel_left] at e2
   have e3:Vis (relabel scope X.env) x:=e3
   have er:=lookup_relabel (env:=X.env) (x:=x) scope.names
   have hl:∃ k,scope.names.lookup x=some k/\(k = .local\/k = .cell\/k = .free)/\(relabel scope X.env).names.lookup x=some (if (k == NameKind.free && X.env.scope.kind == .function && X.env.kindOf x == some .cell) then NameKind.cell else k):=by
    cases q:scope.names.lookup x with
    | none=>rw [q] at er;rcases e3 with z | z | z <;> (have z':=er.symm.trans z;cases z')
    | some k =>
      rw [q,Option.map_some] at er
      refine ⟨k,rfl,?_,er⟩
      by_cases hc:(k == NameKind.free && X.env.scope.kind == .function && X.env.kindOf x == some .cell)=true
      ·simp only [Bool.and_eq_true,beq_iff_eq] at hc
       exact .inr (.inr hc.1.1)
      ·rw [if_neg hc] at er
       rcases e3 with z | z | z <;> (have z':=er.symm.trans z;cases z';simp)
   obtain ⟨k,hk,hkk,hre⟩:=hl
   obtain ⟨hN,rfl⟩:=S.out j x k e1 hk hkk
   have hm:=PySem.mem_of_lookup hk
   have hfr:=(S.free _ hm rfl).2
   obtain ⟨m,hnm,hlk⟩:=I.loc
   obtain ⟨u,ru,lk⟩:=hlk j x v hN e2 (by rcases hfr with z | z;exact .inr (.inl z);exact .inr (.inr z))
   refine ⟨u,ru,?_⟩
   rcases lk with ⟨hloc,_⟩ | ⟨hkd,c,hc,hcell⟩
   ·have hloc:X.env.scope.names.lookup x=some .local:=hloc
    rcases hfr with z | z <;> (rw [hloc] at z;cases z)
   ·refine .inr ⟨?_,c,cl_has hm hc,?_⟩
    ·show (relabel scope X.env).names.lookup x=some .cell\/(relabel scope X.env).names.lookup x=some .free
     rw [hre]
     split
     ·exact .inl rfl
     ·exact .inr rfl
    ·obtain ⟨o,ho,hd⟩:=hcell
     exact ⟨o,kp c o ho,hd⟩
 ·obtain ⟨v,o,ho,hd⟩:=I.cell x c (cl x c e)
  exact ⟨v,o,kp c o ho,hd⟩
 ·show (List.replicate h none++σ).length=N'.length
  rw [List.length_append,List.length_replicate,S.len,I.len]
theorem comp_end {h:Nat} {N':List Str} {scope:Scope} {fp:List Addr} {pins':List (Addr × Obj)} {σ':St} {H':Hp} {s':Shared} {h':Heap} (I:Inv X pins σ H s) (S:ScopeOk h N' X.N scope X.env.scope) (hf:∀ b ∈ fp,FpOk X pins H b)
 (J:Inv (compCx X scope N' s.heap.objs.size s H fp) pins' σ' H' s') (hs:Heap.SameBut s.heap.objs.size s'.heap h'):Inv X pins σ H' { s' with heap:=h' }:=by
 have ne:∀ b o,s.heap.get? b=some o->b ≠ s.heap.objs.size:=fun b o e=>Nat.ne_of_lt (Heap.lt_size e)
 have u:Un (frs X.stack) fp H H' s.heap s'.heap:=J.base
 have hC:H' s.heap.objs.size=none:=J.free
 obtain ⟨m0,⟨oC,_,_,hoC,_⟩,_⟩:=id J.loc
 refine I.call' (s':={ s' with heap:=h' }) (ch:=fp) J.os ⟨fun b o e n hb hx=>(hs.2 b (ne b o e)).trans (u.keep b o e n hb hx),fun b o e n hb hx=>?_,u.free,fun b o e hx=>?_,u.tups,u.frzs,u.tbls⟩ (fun b ob e=>?_) J.bare fun b hb=>?_
 ·obtain ⟨sl,z⟩:=u.slot b o e n hb hx
  exact ⟨sl,(hs.2 b (ne b o e)).trans z⟩
 ·obtain ⟨o',z⟩:=u.there b o e hx
  exact ⟨o',(hs.2 b (ne b o e)).trans z⟩
 ·refine (J.hok b ob e).stay (fun c w' hc q=>(hs.2 c ?_).trans q) (fun _ q=>q) fun _ _ q=>q
  rintro rfl
  rcases hc with z | z
  ·rw [<- z,hC] at e;cases e
  ·rw [hC] at z;cases z
 ·obtain ⟨_,f1,_,f3,f4,f5⟩:=hf b hb
  exact ⟨f3,f1,f4,f5⟩
end
theorem pe_comp {X:Cx} {elt tg iter:Expr} {ifs:List Expr} {scope:Scope} {pos:Pos} {wi:TI} {g:TG} {tf:TT} {te:TE} {N':List Str} (h:Nat) (S:ScopeOk h N' X.N scope X.env.scope) (hc:X.calm=true) (hi:PI X tg iter wi)
 (hg:∀ C s H ex,PG (compCx X scope N' C s H ex) tg g) (ho:OwnG h g) (ht:∀ C s H ex,PF (compCx X scope N' C s H ex) ifs tf) (he:∀ C s H ex,PE (compCx X scope N' C s H ex) elt te)
 (hs:∀ x,foldedSetIterable iter X.env x=pure x:=by intro _;rfl) :
 PE X (.ListComp elt [⟨tg,iter,ifs,0⟩] scope pos) (tComp h wi g tf te):=by
 intro pins s σ H Q I hq
 rw [eval_ListComp]
 refine wpAny_comprehension_free (use:=none) rfl hs (closure_ok (env:=X.env) fun p hp hk=>I.ok.has p.1 (S.free p hp hk).2) S.kind S.loc ?_
 refine thn (hi pins s σ H _ I hq) fun v s1 h1=>thn h1 fun itv s2 h2=>?_
 obtain ⟨it,fp,tn,J,H2,rfl,I2,T,st2,f2,hq⟩:=h2
 refine wpAny_newObj_type ?_ (by show 0<=sizeLine;exact Nat.zero_le _)
 have hD:H2 s2.heap.objs.size=none:=I2.hok.fresh (Nat.le_refl _)
 have I3:Inv X pins σ (upd H2 s2.heap.objs.size (.lst [])) { s2 with heap:=s2.heap.push { cls := .type "list", data := .seq ([]:List Value).toArray },toks:=s2.toks }:=I2.lnew (t':=s2.toks) .nil (Nat.zero_le _)
 generalize hs3:({ s2 with heap:=s2.heap.push { cls := .type "list", data := .seq ([]:List Value).toArray },toks:=s2.toks }:Shared)=s3 at I3
 have hs3':({ s2 with heap:=s2.heap.push { cls := .type "list", data := .seq ([]:List Value).toArray } }:Shared)=s3:=hs3
 obtain ⟨W,⟨m0,w0⟩,turn⟩:=hq s2.heap.objs.size hD
 have olt:∀ b ∈ fp,b<s2.heap.objs.size:=fun b hb=>by
  obtain ⟨o,e,_⟩:=T.obj _ _ st2 b hb
  exact Heap.lt_size e
 have hsz:s3.heap.objs.size=s2.heap.objs.size+1:=by rw [<- hs3];exact Heap.size_push ..
 have k23:∀ b o,s2.heap.get? b=some o->s3.heap.get? b=some o:=fun b o e=>by rw [<- hs3];exact Heap.get?_push_of_some _ e
 have f3:∀ b ∈ fp,FpOk X pins (upd H2 s2.heap.objs.size (.lst [])) b:=fun b hb=>⟨by rw [upd_ne (Nat.ne_of_lt (olt b hb))];exact (f2 b hb).1,(f2 b hb).2⟩
 have lt3:∀ b ∈ fp,b<s3.heap.objs.size:=fun b hb=>by rw [hsz];exact Nat.lt_succ_of_lt (olt b hb)
 refine wpAny_newFunctionEnv S.nocell (by intro y hy;simp at hy) (fun h4 hn4 hsb4=>?_) S.kind
 have k34:∀ b o,s3.heap.get? b=some o->h4.get? b=some o:=fun b o e=>hsb4.extBut b o (Nat.ne_of_lt (Heap.lt_size e)) (Heap.get?_push_of_some _ e)
 have I4:=comp_start (h':=h4) (tk:=s3.toks+([]:List (Str × Value)).length) I3 S f3 lt3 hn4 k34
 have st4:tn 0 h4:=T.keep _ _ _ st2 fun b hb o e=>k34 b o (k23 b o e)
 generalize hX:compCx X scope N' s3.heap.objs.size s3 (upd H2 s2.heap.objs.size (.lst [])) fp=X' at I4
 have hA:X'.A=X.A:=by rw [<- hX];rfl
 -- the iterator's objects,in the block
 have fpX:∀ {H':Hp} {pl:List (Addr × Obj)},(∀ b ∈ fp,H' b=none)->pl = []->∀ b ∈ fp,FpOk X' pl H' b:=fun {H' pl} hn0 hpl b hb=>by
  subst hpl
  obtain ⟨q0,q1,q2,q3,q4,q5⟩:=f3 b hb
  subst hX
  refine ⟨hn0 b hb,Nat.ne_of_lt (lt3 b hb),fun z=>?_,.inl hb,fun x c e=>q4 x c (comp_cl I3 S x c e),fun p hp=>absurd (show p ∈ ([]:List (Addr × Obj)) from hp) (by simp)⟩
  rcases List.mem_cons.mp (I3.stkSub b z) with z | z
  ·exact q1 z
  ·exact q2 z
 have hcX:X'.calm=true:=by rw [<- hX];exact hc
 have hR:∀ s':Shared,(∃ (m:Nat) (i:Nat) (ys:List V) (H':Hp),Inv X' [] (List.replicate h none++σ) H' s'/\tn i s'.heap/\(∀ b ∈ fp,H' b=none)/\W i m ys H')->True:=fun _ _=>trivial
 have loop:∀ (sL:Shared),(Inv X' [] (List.replicate h none++σ) (upd H2 s2.heap.objs.size (.lst [])) sL)->tn 0 sL.heap ->
  codeAny (model X.prog X.w) X.A (.compLoop (.ListComp elt [⟨tg,iter,ifs,0⟩] scope pos) 0 (.ref it) (.ref s2.heap.objs.size) X'.env)
   (compPost (model X.prog X.w) X.A X.xe none (EP X pins σ Q) (.ref s2.heap.objs.size) s3.heap.objs.size) sL:=by
  intro sL IL stL
  refine compLoop_go (fun n s'=>∃ i ys H',Inv X' [] (List.replicate h none++σ) H' s'/\tn i s'.heap/\(∀ b ∈ fp,H' b=none)/\W i n ys H') ?_ m0 ⟨0,[],_,IL,stL,fun b hb=>(f3 b hb).1,w0⟩
  rintro n s5 ⟨i,ys,H5,I5,st5,fr5,w5⟩
  obtain ⟨hDy,hh⟩:=turn i n ys H5 w5
  have eP:X'.prog=X.prog:=by rw [<- hX];rfl
  have eW:X'.w=X.w:=by rw [<- hX];rfl
  have eK:X'.K=X.K:=by rw [<- hX];rfl
  have eE:X'.xe=fun _ _=>False:=by rw [<- hX];rfl
  rcases hh with ⟨stop,qn⟩ | ⟨go,step⟩
  ·have:=T.done X' eP eW eK hcX i [] s5 _ H5 (fun _ _=>False) I5 (fpX fr5 rfl) st5 stop
   rw [hA] at this
   refine thn this fun r s6 ⟨hr,I6⟩=>?_
   subst hr
   obtain ⟨m6,hm6,_⟩:=id I6.loc
   refine ⟨m6,?_,fun h7 hs7=>?_⟩
   ·rw [<- hX] at hm6;exact hm6
   ·rw [<- hX] at I6
    exact ⟨.ref s2.heap.objs.size,H5,comp_end I3 S f3 I6 hs7,rfl,qn⟩
  ·have:=T.item X' eP eW eK hcX i [] s5 _ H5 (fun _ _=>False) I5 (fpX fr5 rfl) st5 go
   rw [hA] at this
   refine thn this fun r s6 ⟨u,hr,h6⟩=>?_
   subst hr
   refine thn h6 fun _ s7 ⟨x,H7,I7,r7,y7,st7,fr7⟩=>?_
   have I7':=I7.pinned (fpX fr7 rfl) (T.obj _ _ st7)
   have back:∀ {σ':St} {H':Hp} {s':Shared},Inv X' ([]++pinsAt fp s7.heap) σ' H' s'->σ'.length=(List.replicate h none++σ:St).length->σ'.drop h=(List.replicate h none++σ:St).drop h ->
    Inv X' [] (List.replicate h none++σ) H' s'/\tn (i+1) s'.heap/\∀ b ∈ fp,H' b=none:=by
    intro σ' H' s' I' hl hd
    refine ⟨I'.unpinned.weak hl.symm fun j v e=>?_,T.keep _ _ _ st7 fun b hb o e=>?_,fun b hb=>?_⟩
    ·by_cases hj:j<h
     ·rw [List.getElem?_append_left (by simpa using hj),List.getElem?_replicate,if_pos hj] at e
      cases e
     ·have e1:(σ'.drop h)[j - h]? = σ'[j]?:=by rw [List.getElem?_drop];congr 1;omega
      have e2:((List.replicate h none++σ:St).drop h)[j - h]? = (List.replicate h none++σ:St)[j]?:=by rw [List.getElem?_drop];congr 1;omega
      rw [<- e1,hd,e2];exact e
    ·exact (I'.pin (b,o) (List.mem_append_right _ (List.mem_append_right _ (mem_pinsAt hb e)))).1
    ·obtain ⟨o,e,_⟩:=T.obj _ _ st7 b hb
     exact (I'.pin (b,o) (List.mem_append_right _ (List.mem_append_right _ (mem_pinsAt hb e)))).2.1
   have hg':=hg s3.heap.objs.size s3 (upd H2 s2.heap.objs.size (.lst [])) fp
   have ht':=ht s3.heap.objs.size s3 (upd H2 s2.heap.objs.size (.lst [])) fp
   have he':=he s3.heap.objs.size s3 (upd H2 s2.heap.objs.size (.lst [])) fp
   rw [hX] at hg' ht' he'
   have hl0:h<=(List.replicate h none++σ:St).length:=by simp
   have a1:=hg' _ s7 _ H7 x u _ I7' r7 (ho x _ H7 _ hl0 (step x H7 y7))
   rw [hA,eP,eW,eE] at a1
   refine thn a1 fun _ s8 ⟨σ8,H8,I8,q8,l8,d8⟩=>?_
   have a2:=ht' _ s8 σ8 H8 _ I8 q8
   rw [hA,eP,eW,eE] at a2
   refine thn a2 fun c s9 ⟨H9,I9,q9⟩=>?_
   cases c with
   | false =>
     obtain ⟨m',hm',w'⟩:=q9
     obtain ⟨b1,b2,b3⟩:=back I9 l8 d8
     exact ⟨m',hm',i+1,ys,H9,b1,b2,b3,w'⟩
   | true =>
     have a3:=he' _ s9 σ8 H9 _ I9 q9
     rw [hA,eP,eW,eE] at a3
     refine thn a3 fun yv s10 ⟨y,H10,I10,r10,hD10,hz10,m',hm',w'⟩=>?_
     have a4:=mt_append (X:=X') _ s10 σ8 H10 (.ref s2.heap.objs.size) [y] (.ref s2.heap.objs.size) [yv] (fun _ Hz=>Hz=upd H10 s2.heap.objs.size (.lst (ys ++ [y]))) I10 rfl (.cons r10 .nil) ⟨_,ys,y,rfl,rfl,hD10,hz10,rfl⟩
     rw [hA,eP,eW,eE] at a4
     refine thn a4 fun _ s11 ⟨_,H11,I11,_,e11⟩=>?_
     subst e11
     obtain ⟨b1,b2,b3⟩:=back I11 l8 d8
     exact ⟨m',hm',i+1,ys ++ [y],_,b1,b2,b3,w'⟩
 have fin:=codeAny_compStart_list (prog:=X.prog) (w:=X.w) (A:=X.A) (R:=compPost (model X.prog X.w) X.A X.xe none (EP X pins σ Q) (.ref s2.heap.objs.size) s3.heap.objs.size) (elt:=elt) (target:=tg) (iter:=iter) (ifs:=ifs) (rest := []) (scope:=scope) (pos:=pos) (it := .ref it) (acc := .ref s2.heap.objs.size) (env:=X'.env)
  (loop _ I4 st4) (T.self _ 0 _ _ _ st4 (loop _ I4 st4))
 have hE:X'.env=compEnvC scope (clOf scope.names X.env) s3.heap.objs.size X.env:=by rw [<- hX];rfl
 rw [hE] at fin
 exact fin
theorem ps_setComp {X:Cx} {elt tg iter:Expr} {ifs:List Expr} {scope:Scope} {pos py spos:Pos} {wi:TI} {g:TG} {tf:TT} {te:TE} {N':List Str} {n0:Nat} {x0:Str} (hN0:X.N.Nodup) (hi0:X.N[n0]? = some x0) (hx0:X.env.scope.names.lookup x0=some .local) (hsw:swapsWith (.ListComp elt [⟨tg,iter,ifs,0⟩] scope pos) (some (.Name x0 py)) spos.line X.env=pure true) (h:Nat) (S:ScopeOk h N' X.N scope X.env.scope) (hc:X.calm=true) (hi:PI X tg iter wi)
 (hg:∀ C s H ex,PG (compCx X scope N' C s H ex) tg g) (ho:OwnG h g) (ht:∀ C s H ex,PF (compCx X scope N' C s H ex) ifs tf) (he:∀ C s H ex,PE (compCx X scope N' C s H ex) elt te)
 (hs:∀ x,foldedSetIterable iter X.env x=pure x:=by intro _;rfl) :
 PS X (.Assign [.Name x0 py] (.ListComp elt [⟨tg,iter,ifs,0⟩] scope pos) spos) (tAsg (tComp h wi g tf te) (gName n0)):=by
 intro pins s σ H DD I hq
 rw [exec_Assign_Name_used _ _ _ _ hsw]
 refine wpAny_bind (wpAny_standAt (wpAny_bind ?_))
 show wpAny _ X.A (do let _ <- comprehension (.ListComp elt [⟨tg,iter,ifs,0⟩] scope pos) scope X.env _ (newList []) false (eval iter X.env) (some (assign (.Name x0 py) X.env))) _ _ s
 refine wpAny_bind (wpAny_mono (wpAny_comprehension_free (use:=some (assign (.Name x0 py) X.env)) (Q:=fun _ s'=>SP X pins DD .next s') rfl hs (closure_ok (env:=X.env) fun p hp hk=>I.ok.has p.1 (S.free p hp hk).2) S.kind S.loc ?_) (fun _ s' hq=>wpAny_pure (wpAny_pure hq)) fun _ _ e=>e)
 refine thn (hi pins s σ H _ I hq) fun v s1 h1=>thn h1 fun itv s2 h2=>?_
 obtain ⟨it,fp,tn,J,H2,rfl,I2,T,st2,f2,hq⟩:=h2
 refine wpAny_newObj_type ?_ (by show 0<=sizeLine;exact Nat.zero_le _)
 have hD:H2 s2.heap.objs.size=none:=I2.hok.fresh (Nat.le_refl _)
 have I3:Inv X pins σ (upd H2 s2.heap.objs.size (.lst [])) { s2 with heap:=s2.heap.push { cls := .type "list", data := .seq ([]:List Value).toArray },toks:=s2.toks }:=I2.lnew (t':=s2.toks) .nil (Nat.zero_le _)
 generalize hs3:({ s2 with heap:=s2.heap.push { cls := .type "list", data := .seq ([]:List Value).toArray },toks:=s2.toks }:Shared)=s3 at I3
 have hs3':({ s2 with heap:=s2.heap.push { cls := .type "list", data := .seq ([]:List Value).toArray } }:Shared)=s3:=hs3
 obtain ⟨W,⟨m0,w0⟩,turn⟩:=hq s2.heap.objs.size hD
 have olt:∀ b ∈ fp,b<s2.heap.objs.size:=fun b hb=>by
  obtain ⟨o,e,_⟩:=T.obj _ _ st2 b hb
  exact Heap.lt_size e
 have hsz:s3.heap.objs.size=s2.heap.objs.size+1:=by rw [<- hs3];exact Heap.size_push ..
 have k23:∀ b o,s2.heap.get? b=some o->s3.heap.get? b=some o:=fun b o e=>by rw [<- hs3];exact Heap.get?_push_of_some _ e
 have f3:∀ b ∈ fp,FpOk X pins (upd H2 s2.heap.objs.size (.lst [])) b:=fun b hb=>⟨by rw [upd_ne (Nat.ne_of_lt (olt b hb))];exact (f2 b hb).1,(f2 b hb).2⟩
 have lt3:∀ b ∈ fp,b<s3.heap.objs.size:=fun b hb=>by rw [hsz];exact Nat.lt_succ_of_lt (olt b hb)
 refine wpAny_newFunctionEnv S.nocell (by intro y hy;simp at hy) (fun h4 hn4 hsb4=>?_) S.kind
 have k34:∀ b o,s3.heap.get? b=some o->h4.get? b=some o:=fun b o e=>hsb4.extBut b o (Nat.ne_of_lt (Heap.lt_size e)) (Heap.get?_push_of_some _ e)
 have I4:=comp_start (h':=h4) (tk:=s3.toks+([]:List (Str × Value)).length) I3 S f3 lt3 hn4 k34
 have st4:tn 0 h4:=T.keep _ _ _ st2 fun b hb o e=>k34 b o (k23 b o e)
 generalize hX:compCx X scope N' s3.heap.objs.size s3 (upd H2 s2.heap.objs.size (.lst [])) fp=X' at I4
 have hA:X'.A=X.A:=by rw [<- hX];rfl
 -- the iterator's objects,in the block
 have fpX:∀ {H':Hp} {pl:List (Addr × Obj)},(∀ b ∈ fp,H' b=none)->pl = []->∀ b ∈ fp,FpOk X' pl H' b:=fun {H' pl} hn0 hpl b hb=>by
  subst hpl
  obtain ⟨q0,q1,q2,q3,q4,q5⟩:=f3 b hb
  subst hX
  refine ⟨hn0 b hb,Nat.ne_of_lt (lt3 b hb),fun z=>?_,.inl hb,fun x c e=>q4 x c (comp_cl I3 S x c e),fun p hp=>absurd (show p ∈ ([]:List (Addr × Obj)) from hp) (by simp)⟩
  rcases List.mem_cons.mp (I3.stkSub b z) with z | z
  ·exact q1 z
  ·exact q2 z
 have hcX:X'.calm=true:=by rw [<- hX];exact hc
 have hR:∀ s':Shared,(∃ (m:Nat) (i:Nat) (ys:List V) (H':Hp),Inv X' [] (List.replicate h none++σ) H' s'/\tn i s'.heap/\(∀ b ∈ fp,H' b=none)/\W i m ys H')->True:=fun _ _=>trivial
 have loop:∀ (sL:Shared),(Inv X' [] (List.replicate h none++σ) (upd H2 s2.heap.objs.size (.lst [])) sL)->tn 0 sL.heap ->
  codeAny (model X.prog X.w) X.A (.compLoop (.ListComp elt [⟨tg,iter,ifs,0⟩] scope pos) 0 (.ref it) (.ref s2.heap.objs.size) X'.env)
   (compPost (model X.prog X.w) X.A X.xe (some (assign (.Name x0 py) X.env)) (fun _ s'=>SP X pins DD .next s') (.ref s2.heap.objs.size) s3.heap.objs.size) sL:=by
  intro sL IL stL
  refine compLoop_go (fun n s'=>∃ i ys H',Inv X' [] (List.replicate h none++σ) H' s'/\tn i s'.heap/\(∀ b ∈ fp,H' b=none)/\W i n ys H') ?_ m0 ⟨0,[],_,IL,stL,fun b hb=>(f3 b hb).1,w0⟩
  rintro n s5 ⟨i,ys,H5,I5,st5,fr5,w5⟩
  obtain ⟨hDy,hh⟩:=turn i n ys H5 w5
  have eP:X'.prog=X.prog:=by rw [<- hX];rfl
  have eW:X'.w=X.w:=by rw [<- hX];rfl
  have eK:X'.K=X.K:=by rw [<- hX];rfl
  have eE:X'.xe=fun _ _=>False:=by rw [<- hX];rfl
  rcases hh with ⟨stop,qn⟩ | ⟨go,step⟩
  ·have:=T.done X' eP eW eK hcX i [] s5 _ H5 (fun _ _=>False) I5 (fpX fr5 rfl) st5 stop
   rw [hA] at this
   refine thn this fun r s6 ⟨hr,I6⟩=>?_
   subst hr
   obtain ⟨m6,hm6,_⟩:=id I6.loc
   have hC6:H5 s3.heap.objs.size=none:=by rw [<- hX] at I6;exact I6.free
   have hm6:s6.heap.Ns s3.heap.objs.size m6:=by rw [<- hX] at hm6;exact hm6
   have J6:Inv X pins σ H5 s6:=by rw [<- hX] at I6;exact comp_end I3 S f3 I6 (Heap.SameBut.refl ..)
   have neL:s3.heap.objs.size ≠ X.env.locals:=Nat.ne_of_gt I3.lt
   have neC:∀ x c,X.env.cells.lookup x=some c->c ≠ s3.heap.objs.size:=fun x c e=>by
    obtain ⟨v,z⟩:=I3.cell x c e
    exact Nat.ne_of_lt z.lt
   show wpAny (model X.prog X.w) X.A (assign (.Name x0 py) X.env (.ref s2.heap.objs.size)) _ _ s6
   refine wpAny_assign_Name (store_ok2 (v := .ref s2.heap.objs.size) J6 hN0 hi0 (.inl hx0) rfl (fun s7 I7 ⟨a,hsb,ha⟩=>?_) (.inr hx0))
   have hac:s3.heap.objs.size ≠ a:=by
    rcases ha with rfl | ha
    ·exact neL
    ·exact Ne.symm (neC _ _ ha)
   refine ⟨m6,hm6.sameBut hsb hac,fun h8 hs8=>⟨_,H5,I7.turned (t':=s7.toks) (it:=s3.heap.objs.size) (fun b o hb e=>(hs8.2 b hb).trans e) hC6 neL (.inr I3.sz) neC (fun p hp=>?_),qn⟩⟩
   exact Nat.ne_of_lt (Heap.lt_size (I3.pin p hp).1)
  ·have:=T.item X' eP eW eK hcX i [] s5 _ H5 (fun _ _=>False) I5 (fpX fr5 rfl) st5 go
   rw [hA] at this
   refine thn this fun r s6 ⟨u,hr,h6⟩=>?_
   subst hr
   refine thn h6 fun _ s7 ⟨x,H7,I7,r7,y7,st7,fr7⟩=>?_
   have I7':=I7.pinned (fpX fr7 rfl) (T.obj _ _ st7)
   have back:∀ {σ':St} {H':Hp} {s':Shared},Inv X' ([]++pinsAt fp s7.heap) σ' H' s'->σ'.length=(List.replicate h none++σ:St).length->σ'.drop h=(List.replicate h none++σ:St).drop h ->
    Inv X' [] (List.replicate h none++σ) H' s'/\tn (i+1) s'.heap/\∀ b ∈ fp,H' b=none:=by
    intro σ' H' s' I' hl hd
    refine ⟨I'.unpinned.weak hl.symm fun j v e=>?_,T.keep _ _ _ st7 fun b hb o e=>?_,fun b hb=>?_⟩
    ·by_cases hj:j<h
     ·rw [List.getElem?_append_left (by simpa using hj),List.getElem?_replicate,if_pos hj] at e
      cases e
     ·have e1:(σ'.drop h)[j - h]? = σ'[j]?:=by rw [List.getElem?_drop];congr 1;omega
      have e2:((List.replicate h none++σ:St).drop h)[j - h]? = (List.replicate h none++σ:St)[j]?:=by rw [List.getElem?_drop];congr 1;omega
      rw [<- e1,hd,e2];exact e
    ·exact (I'.pin (b,o) (List.mem_append_right _ (List.mem_append_right _ (mem_pinsAt hb e)))).1
    ·obtain ⟨o,e,_⟩:=T.obj _ _ st7 b hb
     exact (I'.pin (b,o) (List.mem_append_right _ (List.mem_append_right _ (mem_pinsAt hb e)))).2.1
   have hg':=hg s3.heap.objs.size s3 (upd H2 s2.heap.objs.size (.lst [])) fp
   have ht':=ht s3.heap.objs.size s3 (upd H2 s2.heap.objs.size (.lst [])) fp
   have he':=he s3.heap.objs.size s3 (upd H2 s2.heap.objs.size (.lst [])) fp
   rw [hX] at hg' ht' he'
   have hl0:h<=(List.replicate h none++σ:St).length:=by simp
   have a1:=hg' _ s7 _ H7 x u _ I7' r7 (ho x _ H7 _ hl0 (step x H7 y7))
   rw [hA,eP,eW,eE] at a1
   refine thn a1 fun _ s8 ⟨σ8,H8,I8,q8,l8,d8⟩=>?_
   have a2:=ht' _ s8 σ8 H8 _ I8 q8
   rw [hA,eP,eW,eE] at a2
   refine thn a2 fun c s9 ⟨H9,I9,q9⟩=>?_
   cases c with
   | false =>
     obtain ⟨m',hm',w'⟩:=q9
     obtain ⟨b1,b2,b3⟩:=back I9 l8 d8
     exact ⟨m',hm',i+1,ys,H9,b1,b2,b3,w'⟩
   | true =>
     have a3:=he' _ s9 σ8 H9 _ I9 q9
     rw [hA,eP,eW,eE] at a3
     refine thn a3 fun yv s10 ⟨y,H10,I10,r10,hD10,hz10,m',hm',w'⟩=>?_
     have a4:=mt_append (X:=X') _ s10 σ8 H10 (.ref s2.heap.objs.size) [y] (.ref s2.heap.objs.size) [yv] (fun _ Hz=>Hz=upd H10 s2.heap.objs.size (.lst (ys ++ [y]))) I10 rfl (.cons r10 .nil) ⟨_,ys,y,rfl,rfl,hD10,hz10,rfl⟩
     rw [hA,eP,eW,eE] at a4
     refine thn a4 fun _ s11 ⟨_,H11,I11,_,e11⟩=>?_
     subst e11
     obtain ⟨b1,b2,b3⟩:=back I11 l8 d8
     exact ⟨m',hm',i+1,ys ++ [y],_,b1,b2,b3,w'⟩
 have fin:=codeAny_compStart_list (prog:=X.prog) (w:=X.w) (A:=X.A) (R:=compPost (model X.prog X.w) X.A X.xe (some (assign (.Name x0 py) X.env)) (fun _ s'=>SP X pins DD .next s') (.ref s2.heap.objs.size) s3.heap.objs.size) (elt:=elt) (target:=tg) (iter:=iter) (ifs:=ifs) (rest := []) (scope:=scope) (pos:=pos) (it := .ref it) (acc := .ref s2.heap.objs.size) (env:=X'.env)
  (loop _ I4 st4) (T.self _ 0 _ _ _ st4 (loop _ I4 st4))
 have hE:X'.env=compEnvC scope (clOf scope.names X.env) s3.heap.objs.size X.env:=by rw [<- hX];rfl
 rw [hE] at fin
 exact fin
end L3
namespace L3
open PySem PySem.Spec
open PyProof.Rows hiding St
open L2
structure Fly (h:Heap) (e:Addr) (cls:Value) (dx:Option Addr) (T:Option Addr):Prop where
 obj:∃ oe vs,h.get? e=some oe/\oe.cls=cls/\oe.dict=dx/\oe.data = .fields vs/\1<vs.size/\vs[1]? = some (T.elim .none .ref)
 note:∀ t,T=some t->t ≠ e/\∃ oT ts,h.get? t=some oT/\oT.data = .fields ts/\ts[3]? = some .none
structure Flew (fs:List Addr) (e:Addr) (T:Option Addr) (h h':Heap):Prop where
 keep:∀ b o,b ≠ e->T ≠ some b->b ∉ fs->h.get? b=some o->h'.get? b=some o
 slot:∀ b o,b ∈ fs->h.get? b=some o->∃ sl,h'.get? b=some { o with slots:=sl }
section
variable {M : Model} {A : Around} {E : Value → Shared → Prop} {s : Shared} {base : Heap} {env : Env} {outer : List Env} {L e : Addr}
theorem dict_mapFields (o:Obj) (f):(o.mapFields f).dict=o.dict:=by
 obtain ⟨c,d,dt,sl⟩:=o
 cases dt <;> rfl
theorem fly_entry {cls:Value} {dx:Option Addr} {head:Value} {hn:Bool} {Q:Unit->Shared->Prop} {oe:Obj} {vs:Array Value} (hfr:A.frames=some (env::outer)) (hl:s.heap.FunFrames base (env::outer)) (hf:env.frame=some L)
 (he:s.heap.get? e=some oe) (hc:oe.cls=cls) (hx:oe.dict=dx) (hd:oe.data = .fields vs) (hz:1<vs.size)
 (q:∀ h' t,Fly h' e cls dx (some t)->s.heap.objs.size<=t->Flew (frs (env::outer)) e none s.heap h'->h'.FunFrames base (env::outer)->Q () { s with heap:=h' }) :
 wpAny M A (do let a <- frameOf env;let pl <- entryPlaceOf L hn;let b <- EntryCells.newEntry head a .none (rawInt L) .none pl;setField (.ref e) 1 b) (fun _ s'=>wpAny M A (setFlight (.ref e) none) Q E s') E s:=by
 have ne:e ∉ frs (env::outer):=fun m=>by
  obtain ⟨_,o,ho,nf⟩:=hl.mem m
  rw [he] at ho
  cases ho
  exact nf vs hd
 refine wpAny_bind (wpAny_frameOf_fun hfr hl hf fun h1 s1=>?_)
 refine wpAny_bind (wpAny_entryPlaceOf fun pl hp=>?_)
 unfold EntryCells.newEntry newFields
 refine wpAny_bind (wpAny_newObj_type ?_ (hp.sizeOk5 _ _ _ _ _))
 generalize ho:({ cls := .type "traceback", dict:=none,data := .fields ([head,.ref L,.none,rawInt L,.none]++(if pl.isEmpty then List.replicate 6 Value.none else pl)).toArray }:Obj)=nt
 have z3:3<([head,.ref L,.none,rawInt L,.none]++(if pl.isEmpty then List.replicate 6 Value.none else pl)).toArray.size:=by simp only [List.size_toArray,List.length_append,List.length_cons] <;> omega
 generalize hts:([head,.ref L,.none,rawInt L,.none]++(if pl.isEmpty then List.replicate 6 Value.none else pl)).toArray=ts at ho z3
 have dn:nt.data = .fields ts:=by rw [<- ho]
 have fn:nt.isFreed=false:=Obj.isFreed_of_fields dn
 have e1:h1.get? e=some oe:=(s1.2.1 e ne).trans he
 have e2:=Heap.get?_push_of_some nt e1
 refine wpAny_setField e2 hd hz ?_
 have te:h1.objs.size ≠ e:=Nat.ne_of_gt (Heap.lt_size e1)
 have d3:=Obj.data_mapFields hd (·.setIfInBounds 1 (Value.ref h1.objs.size))
 have e3:=Heap.get?_update_self (Obj.mapFields (·.setIfInBounds 1 (Value.ref h1.objs.size))) e2 (Obj.isFreed_of_fields d3)
 have t3:=(Heap.get?_update_other (h1.push nt) (Obj.mapFields (·.setIfInBounds 1 (Value.ref h1.objs.size))) (Ne.symm te)).trans (Heap.get?_push_size h1 fn)
 unfold setFlight
 refine wpAny_bind (wpAny_field e3 d3 (x := .ref h1.objs.size) (by simp [hz]) ?_)
 rw [if_pos (by simp)]
 have d4:=Obj.data_mapFields dn (·.setIfInBounds 3 ((none:Option Addr).elim Value.none fun f=>rawInt f))
 have t4:=Heap.get?_update_self (Obj.mapFields (·.setIfInBounds 3 ((none:Option Addr).elim Value.none fun f=>rawInt f))) t3 (Obj.isFreed_of_fields d4)
 have kp:∀ b o,b ≠ e->h1.get? b=some o->(((h1.push nt).update e (Obj.mapFields (·.setIfInBounds 1 (Value.ref h1.objs.size)))).update h1.objs.size (Obj.mapFields (·.setIfInBounds 3 ((none:Option Addr).elim Value.none fun f=>rawInt f)))).get? b=some o:=fun b o nb hb=>by
  rw [Heap.get?_update_other _ _ (Nat.ne_of_gt (Heap.lt_size hb)),Heap.get?_update_other _ _ (Ne.symm nb)]
  exact Heap.get?_push_of_some nt hb
 refine wpAny_setField t3 dn z3 (q _ h1.objs.size ⟨⟨_,_,(Heap.get?_update_other _ _ te).trans e3,(Obj.cls_mapFields _ _).trans hc,(dict_mapFields _ _).trans hx,d3,by simpa using hz,by simp [hz]⟩,fun t et=>?_⟩ ?_ ⟨fun b o nb _ nf hb=>?_,fun b o mb hb=>?_⟩ ?_)
 ·cases et
  exact ⟨te,_,_,t4,d4,by simp [z3]⟩
 ·exact Nat.le_of_eq s1.1.symm
 ·exact kp b o nb ((s1.2.1 b nf).trans hb)
 ·obtain ⟨sl,h2⟩:=s1.2.2 b o hb
  exact ⟨sl,kp b _ (fun z=>ne (z ▸ mb)) h2⟩
 ·refine hl.of_keeps fun b o hb nf=>?_
  obtain ⟨sl,h2⟩:=s1.2.2 b o hb
  exact ⟨_,kp b _ (fun z=>by rw [z,he] at hb;cases hb;exact nf vs hd) h2,rfl⟩
theorem fly_note {cls:Value} {dx T:Option Addr} {Q:Unit->Shared->Prop} (hfr:A.frames=some (env::outer)) (hl:s.heap.FunFrames base (env::outer)) (hf:env.frame=some L) (hb:∀ t,T=some t->base.get? t=none)
 (F:Fly s.heap e cls dx T) (q:∀ h' t,Fly h' e cls dx (some t)->s.heap.objs.size<=t->Flew (frs (env::outer)) e T s.heap h'->h'.FunFrames base (env::outer)->Q () { s with heap:=h' }) :
 wpAny M A (noteFrame (.ref e) env) (fun _ s'=>wpAny M A (setFlight (.ref e) none) Q E s') E s:=by
 obtain ⟨⟨oe,vs,he,hc,hx,hd,hz,h1⟩,nt⟩:=F
 unfold noteFrame
 simp only [hf]
 refine wpAny_bind (wpAny_field he hd h1 ?_)
 cases T with
 | none =>
   rw [if_neg (by decide)]
   exact fly_entry hfr hl hf he hc hx hd hz q
 | some t =>
   obtain ⟨tne,oT,ts,ht,dt,t3⟩:=nt t rfl
   have z3:3<ts.size:=(Array.getElem?_eq_some_iff.mp t3).1
   rw [if_pos (show ((some t).elim Value.none Value.ref != Value.none)=true by simp)]
   refine wpAny_bind (wpAny_field ht dt t3 ?_)
   rw [if_neg (by simp [rawInt])]
   refine wpAny_bind (wpAny_setField ht dt z3 ?_)
   have ot:∀ b,b ≠ t->(s.heap.update t (Obj.mapFields (·.setIfInBounds 3 Value.none))).get? b=s.heap.get? b:=fun b nb=>Heap.get?_update_other _ _ (Ne.symm nb)
   have rcd:∀ b o,s.heap.get? b=some o->(∀ vs,o.data ≠ .fields vs)->b ≠ t:=fun b o gb nf z=>by
    rw [z,ht] at gb
    cases gb
    exact nf ts dt
   have nfr:t ∉ frs (env::outer):=fun m=>by
    obtain ⟨_,o,go,nf⟩:=hl.mem m
    rw [ht] at go
    cases go
    exact nf ts dt
   refine fly_entry (s:={ s with heap:=s.heap.update t (Obj.mapFields (·.setIfInBounds 3 Value.none)) }) hfr (hl.of_keeps fun b o gb nf=>⟨o,(ot b (rcd b o gb nf)).trans gb,rfl⟩) hf ((ot e (Ne.symm tne)).trans he) hc hx hd hz fun h' u F' nu W fr=>?_
   exact q h' u F' (by rw [<- Heap.size_after_update s.heap t];exact nu) ⟨fun b o nb nT nf gb=>W.keep b o nb (by simp) nf ((ot b fun z=>nT (by rw [z])).trans gb),fun b o mb gb=>W.slot b o mb ((ot b fun z=>nfr (z ▸ mb)).trans gb)⟩ fr
theorem fly_leave {cls:Value} {dx T:Option Addr} {Q:Unit->Shared->Prop} (hfr:A.frames=some (env::outer)) (hl:s.heap.FunFrames base (env::outer)) (hf:env.frame=some L) (hb:∀ t,T=some t->base.get? t=none)
 (F:Fly s.heap e cls dx T) (q:∀ h' t,Fly h' e cls dx (some t)->s.heap.objs.size<=t->Flew (frs (env::outer)) e T s.heap h'->h'.FunFrames base (env::outer)->Q () { s with heap:=h' }) :
 wpAny M A (leaving env (.ref e)) Q E s:=wpAny_bind (fly_note hfr hl hf hb F q)
end
end L3
namespace L3
open PySem PySem.Spec
open PyProof.Rows hiding St
open L2
section
variable {P : Program} {w : World} {H : Hp} {h h' : Heap} {fs : List Addr} {e : Addr} {T : Option Addr}
theorem Flew.hok (W:Flew fs e T h h') (hok:HOk P w H h) (he:H e=none) (hT:∀ t,T=some t->H t=none) (hf:∀ b ∈ fs,H b=none):HOk P w H h':=fun a o q =>
 (hok a o q).stay (fun b u hb g=>by
  have nb:H b ≠ none:=by
   rcases hb with z | z
   ·rw [z,q];simp
   ·rw [z];simp
  exact W.keep b u (fun z=>nb (by rw [z];exact he)) (fun z=>nb (hT b z)) (fun z=>nb (hf b z)) g) (fun _ z=>z) fun _ _ z=>z
end
def CX1 (P:Program) (w:World):CXT:=fun outer H s E e s'=>∃ (a C dx:Addr) (T:Option Addr) (H':Hp),e = .ref a/\s'.os=s.os/\AllBare s'.gens/\Un (frs outer) [] H H' s.heap s'.heap/\HOk P w H' s'.heap /\
 Fly s'.heap a (.ref C) (some dx) T/\H' a=none/\s.heap.objs.size<=a/\(∀ t,T=some t->H' t=none/\s.heap.objs.size<=t)/\E (.ref C) (some dx) H'
structure Bdy (P:Program) (w:World) (X:Cx) (E:XK):Prop where
 prog:X.prog=P
 wld:X.w=w
 stk:X.stack=X.env::X.outer
 fr:X.env.frame=some X.env.locals
 ex:X.ex = []
 xe:X.xe=fun e s'=>wpAny (model P w) X.A (leaving X.env e) (fun _ s''=>CX1 P w X.outer X.H₀ X.s₀ E e s'') (fun e' s''=>CX1 P w X.outer X.H₀ X.s₀ E e' s'') s'
section
variable {P : Program} {w : World} {X : Cx} {E : XK} {pins : List (Addr × Obj)} {σ : St} {H : Hp} {s : Shared} {a C dx : Addr} {T : Option Addr}
theorem Bdy.out (B:Bdy P w X E) (I:Inv X pins σ H s) (F:Fly s.heap a (.ref C) (some dx) T) (na:H a=none) (fa:X.s₀.heap.objs.size<=a) (hT:∀ t,T=some t->H t=none/\X.s₀.heap.objs.size<=t) (q:E (.ref C) (some dx) H):X.xe (.ref a) s:=by
 have fr0:X.A.frames=some (X.env::X.outer):=by rw [I.ok.frames,B.stk]
 have st0:s.heap.FunFrames X.base (X.env::X.outer):=by have:=I.stack;rwa [B.stk] at this
 have bT:∀ t,T=some t->X.base.get? t=none:=fun t z=>by
  cases g:X.base.get? t with
  | none=>rfl
  | some o=>exact absurd (Heap.lt_size (I.ok.bs t o g).1) (Nat.not_lt.mpr (hT t z).2)
 rw [B.xe]
 refine fly_leave fr0 st0 B.fr bT F fun h' t F' nt W fr=>?_
 have frn:∀ b ∈ frs (X.env::X.outer),H b=none:=by have:=I.stkFree;rwa [B.stk] at this
 have hok:=B.prog ▸ B.wld ▸ W.hok I.hok na (fun t z=>(hT t z).1) frn
 have bu:=I.base
 rw [B.ex] at bu
 have s0:∀ b o,X.s₀.heap.get? b=some o->b ≠ a/\T ≠ some b/\b ≠ X.env.locals:=fun b o g=>by
  refine ⟨fun z=>?_,fun z=>?_,fun z=>?_⟩
  ·rw [z] at g;exact absurd (Heap.lt_size g) (Nat.not_lt.mpr fa)
  ·exact absurd (Heap.lt_size g) (Nat.not_lt.mpr (hT b z).2)
  ·rw [z] at g;exact absurd (Nat.lt_of_lt_of_le (Heap.lt_size g) I.ok.above) (Nat.lt_irrefl _)
 have nf:∀ b,b ≠ X.env.locals->b ∉ X.fs->b ∉ frs (X.env::X.outer):=fun b h1 h2 m=>by
  have m2:b ∈ X.env.locals::X.fs:=by
   have:frs (X.env::X.outer)=X.env.locals::X.fs:=by
    show List.filterMap _ (X.env::X.outer)=_
    rw [List.filterMap_cons,B.fr]
    rfl
   rwa [this] at m
  rcases List.mem_cons.mp m2 with z | z
  ·exact h1 z
  ·exact h2 z
 have mf:∀ b,b ∈ X.fs->b ∈ frs (X.env::X.outer):=fun b m=>by
  show b ∈ List.filterMap _ (X.env::X.outer)
  rw [List.filterMap_cons,B.fr]
  exact List.mem_cons_of_mem _ m
 have un:Un (frs X.outer) [] X.H₀ H X.s₀.heap h':={
  keep:=fun b o g n hb hx=>let ⟨z1,z2,z3⟩:=s0 b o g;W.keep b o z1 z2 (nf b z3 hb) (bu.keep b o g n hb hx)
  slot:=fun b o g n hb hx=>by
   obtain ⟨sl,g1⟩:=bu.slot b o g n hb hx
   obtain ⟨sl2,g2⟩:=W.slot b _ (mf b hb) g1
   exact ⟨sl2,g2⟩
  free:=bu.free
  there:=fun b o g hx=>by
   obtain ⟨o1,g1⟩:=bu.there b o g hx
   obtain ⟨z1,z2,z3⟩:=s0 b o g
   by_cases hb:b ∈ X.fs
   ·obtain ⟨sl2,g2⟩:=W.slot b _ (mf b hb) g1
    exact ⟨_,g2⟩
   ·exact ⟨o1,W.keep b o1 z1 z2 (nf b z3 hb) g1⟩
  tups:=bu.tups
  frzs:=bu.frzs
  tbls:=bu.tbls }
 refine ⟨a,C,dx,some t,H,rfl,I.os,I.bare,un,hok,F',na,fa,fun u z=>?_,q⟩
 cases z
 exact ⟨I.hok.fresh nt,Nat.le_trans I.sz nt⟩
theorem Bdy.pass (B:Bdy P w X E):Passes (CX1 P w) X E:=fun pins σ H s e s' I h=>by
 obtain ⟨a,C,dx,T,H',rfl,os,bare,un,hok,F,na,fa,hT,q⟩:=h
 have I':Inv X pins σ H' s':=I.call' os un (B.prog.symm ▸ B.wld.symm ▸ hok) bare (fun b z=>absurd z (by simp))
 exact B.out I' F na (Nat.le_trans I.sz fa) (fun t z=>⟨(hT t z).1,Nat.le_trans I.sz (hT t z).2⟩) q
end
end L3
namespace L3
open PySem PySem.Spec PySem.Calls
open PyProof.Rows hiding St
open L2
theorem ownTail_of {K:PySem.W.Frag} {h:Heap} {A1:Addr} {c0:Value} {dd od:Option Addr} {cd:ClassData} {sl osl:Array (Option Value)} {es:Array DictEntry} {ep:Nat} {oc:Value} {bmB tl:List Value} (x:K.In h)
 (hA:K.lookup A1=some ⟨c0,dd,.cls cd,sl⟩) (hN:K.lookup cd.ns=some ⟨oc,od,.dict es ep,osl⟩) (sk:StrKeys es) (ni:nsFind es "__init__" = none) (T:OwnTail h bmB tl):OwnTail h bmB (.ref A1::tl) :=
 .own (x _ _ hA) ⟨_,es,ep,x _ _ hN,rfl,sk,fun _=>rfl⟩ ni T
abbrev tupOf (us:List Value):Obj:={ cls := .type "tuple", data := .seq us.toArray }
abbrev excOf (C t:Addr):Obj:={ cls := .ref C,data := .fields #[.ref t,.none,.none,.none,.bool false,.none] }
section
variable {prog : Program} {w : World} {A : Around} {K : PySem.W.Frag} {C N f : Addr} {R : Result → Shared → Prop} {s : Shared} {us : List Value}
variable {nm q : Str} {bs bm bmB : List Value} {sn : List Str} {sub : List Value} {ab : Bool} {col : Option Bool} {dd : Option Addr} {k0 k1 k2 k3 k5 : Option Value} {B newId initId : String}
theorem make_x (X:K.In s.heap) (hC:K.lookup C=some (excClassObj nm q C N bs bm true sn sub ab col dd k0 k1 k2 k3 k5 newId)) (T:OwnTail s.heap bmB bm) (F:ExcBaseFacts B newId initId bmB)
 (hi:PySem.W.findIn K (.ref C) "__init__" = some (some (.ref f))) (hf:PySem.W.typeIn K (.ref f)=some (.type "function")) (hu:us.length<=sizeLine)
 (h:codeAny (model prog w) (A.under (.builtin "type.__call__" ⟨.ref C::us,[]⟩)) (.call (.ref f) ⟨.ref (s.heap.objs.size+1)::us,[]⟩) (PySem.W.InitBack (s.heap.objs.size+1) R)
  { s with heap:=(s.heap.push (tupOf us)).push (excOf C s.heap.objs.size) }) :
 codeAny (model prog w) A (.call (.ref C) ⟨us,[]⟩) R s:=by
 obtain ⟨hh,g,d,tk,os⟩:=s
 have gC:=X _ _ hC
 have t1:=tc_lookup
 have t2:=tc_bind (.ref C)
 have tT:(⟨hh,g,d,tk,os⟩:Shared).TypeIs (.ref C) "type" := ⟨_,gC,rfl⟩
 refine codeAny_of_tree ?_
 show wpAny _ _ (callAny (.ref C) _) _ _ _
 repeat (any_goals (first | assumption | with_reducible refine wpAny_loadPart_at gC ?_ | wp_step))
 refine ⟨rfl,?_⟩
 refine codeAny_call_builtin_at (Code.quiet_builtin _ (by decide +kernel)) entry_typeCall (wpAny_check_type_call_sub gC ?_)
 repeat (first | with_reducible refine wpAny_loadPart_at gC ?_ | with_reducible refine wpAny_madeBy_exc gC ?_ | wp_step)
 refine codeAny_call_builtin_code (Code.quiet_builtin _ F.quiet) (wpAny_check_new_subT F T gC (codeAny_exc_new_subT F T gC ?_ hu))
 show wpAny _ _ _ _ _ _
 have kp:∀ b o,hh.get? b=some o->((hh.push (tupOf us)).push (excOf C hh.objs.size)).get? b=some o:=fun b o z=>Heap.get?_push_of_some _ (Heap.get?_push_of_some _ z)
 have gC1:=kp _ _ gC
 have X1:=X.keeps kp
 have gx:((hh.push (tupOf us)).push (excOf C hh.objs.size)).get? (hh.objs.size+1)=some (excOf C hh.objs.size):=by heap_get
 have cC:(Value.ref C::bm).contains (.ref C)=true:=by simp
 have tx:PySem.W.Looks (model prog w) ((hh.push (tupOf us)).push (excOf C hh.objs.size)) (typeOf (.ref (hh.objs.size+1))) (.ref C):=(PySem.W.Looks.ld gx).andThen .now
 have sx:PySem.W.Looks (model prog w) ((hh.push (tupOf us)).push (excOf C hh.objs.size)) (isSubtype (.ref C) (.ref C)) true:=fun A1 Q1 E1 s1 k1 z1=>by
  obtain ⟨h1,g1,d1,u1,o1⟩:=s1
  refine wpAny_isSubtype_exc (k1 _ _ gC1) ?_
  rw [cC]
  exact z1
 have ix:=PySem.W.looks_findIn (M:=model prog w) X1 hi
 have bx:=PySem.W.bind_fn (M:=model prog w) X1 (.ref (hh.objs.size+1)) hf
 have nx:PySem.W.Looks (model prog w) ((hh.push (tupOf us)).push (excOf C hh.objs.size)) (isInstance (.ref (hh.objs.size+1)) (.ref C)) true:=tx.andThen sx
 refine wpAny_bind (nx.here ?_)
 rw [if_neg (by decide)]
 unfold callSpecial? specialOf
 refine wpAny_bind (wpAny_holding (wpAny_bind (wpAny_bind (tx.here ?_))))
 refine ix.here ?_
 refine wpAny_holding (wpAny_bind (bx.here ?_))
 refine wpAny_bind (wpAny_call (codeAny_mono h fun r s' z=>?_))
 rcases r with e | (v | _ | _ | _)
 ·exact z
 ·exact z.elim
 ·exact z.elim
 ·exact z.elim
 ·obtain ⟨rfl,z⟩:=z
  exact wpAny_pure (wpAny_pure z)
end
end L3
namespace L3
open PySem PySem.Spec PySem.Calls Builtin Builtin.ObjectAttr
open PyProof.Rows hiding St
open L2
structure XCls (K:PySem.W.Frag) (C:Addr) (f:Str):Prop where
 cls:∃ cd,PySem.W.clsIn K C=some cd/\cd.hasDict=true/\cd.mro.isEmpty=false/\cd.mro.contains (.type "object")=true/\∀ v,refuseLoop v "__setattr__" cd.mro=pure ()
 sa:PySem.W.findIn K (.ref C) "__setattr__" = some (some (.builtin "object.__setattr__"))
 no:PySem.W.findIn K (.ref C) f=some none
section
variable {prog : Program} {w : World} {A : Around} {E : Value → Shared → Prop} {K : PySem.W.Frag} {C x : Addr} {s : Shared} {f : Str} {v : Value} {o : Obj} {vs : Array Value} {Q : Unit → Shared → Prop} {R : Result → Shared → Prop}
theorem osa_x {tk:Tok} (X:K.In s.heap) (c:XCls K C f) (hx:s.heap.get? x=some o) (hc:o.cls = .ref C)
 (h:wpAny (model prog w) A.in1 (storeInOwnDict (.ref x) (.ref C) (.str f tk) f v false)
  (fun fin s'=>match fin with | .done z=>R (.ok z) s' | .again c'=>c'.quiet=true/\codeAny (model prog w) A c' R s') (fun e s'=>R (.error e) s') s) :
 codeAny (model prog w) A (.call (.builtin "object.__setattr__") ⟨[.ref x,.str f tk,v],[]⟩) R s:=by
 obtain ⟨⟨cd,c1,c2,c3,c4,c5⟩,sa,no⟩:=c
 have S:=PySem.F.store_object
 have ty:PySem.W.Looks (model prog w) s.heap (typeOf (.ref x)) (.ref C):=by
  obtain ⟨oc,od,dt,sl⟩:=o
  cases hc
  exact (PySem.W.Looks.ld hx).andThen .now
 have sb:PySem.W.Looks (model prog w) s.heap (isInstance (.ref x) (.type "object")) true:=ty.andThen (PySem.W.looks_mroIn X (by unfold PySem.W.mroIn;rw [c1,Option.bind_some,if_neg (by rw [c3];decide),c4]))
 refine codeAny_call_builtin S.slot.plain S.entry (@PySem.W.check_slot (model prog w) _ _ s "object.__setattr__" "object" "__setattr__" (.ref x) [.str f tk,v] [] _ S.kind S.split sb (S.args (.ref x) (.str f tk) v) ?_)
 have mr:PySem.W.Looks (model prog w) s.heap (mroOf (.ref C)) cd.mro:=(PySem.W.looks_clsIn X c1).andThen .now
 rw [PySem.W.osa_eq,refuse_eq]
 refine wpAny_bind (wpAny_bind (ty.here (wpAny_bind (mr.here ?_))))
 rw [c5]
 refine wpAny_pure (wpAny_bind (ty.here (wpAny_bind ((PySem.W.looks_findIn X no).here (wpAny_bind (wpAny_pure ?_))))))
 exact h
theorem set_x (X:K.In s.heap) (c:XCls K C f) (hx:s.heap.get? x=some o) (hc:o.cls = .ref C)
 (h:wpAny (model prog w) A.in1 (storeInOwnDict (.ref x) (.ref C) (.str f s.toks) f v false) (fun fin s'=>match fin with | .done (.ret _)=>Q () s' | _=>False) E { s with toks:=s.toks+1 }) :
 wpAny (model prog w) A (setAttr (.ref x) f v) Q E s:=by
 have ty:PySem.W.Looks (model prog w) s.heap (typeOf (.ref x)) (.ref C):=by
  obtain ⟨oc,od,dt,sl⟩:=o
  cases hc
  exact (PySem.W.Looks.ld hx).andThen .now
 unfold setAttr callSpecial? specialOf
 refine wpAny_bind (wpAny_mkText (wpAny_bind (wpAny_bind (wpAny_bind (PySem.W.Looks.here (s:={ s with toks:=s.toks+1 }) ty ?_)))))
 refine PySem.W.Looks.here (s:={ s with toks:=s.toks+1 }) (PySem.W.looks_findIn X c.sa) ?_
 refine wpAny_holding ?_
 rw [PySem.F.store_object.slot.bind]
 refine wpAny_bind (wpAny_pure (wpAny_bind (wpAny_call (osa_x (s:={ s with toks:=s.toks+1 }) X c hx hc (wpAny_mono h (fun fin s' z=>?_) fun e s' z=>z)))))
 rcases fin with (_ | _ | _ | u) | c'
 ·exact z.elim
 ·exact z.elim
 ·exact z.elim
 ·exact wpAny_pure (wpAny_pure z)
 ·exact z.elim
theorem set_x1 (X:K.In s.heap) (c:XCls K C f) (hx:s.heap.get? x=some o) (hc:o.cls = .ref C) (hd:o.data = .fields vs) (hn:o.dict=none)
 (h:∀ h' d tk,h'.get? x=some { o with dict:=some d }->h'.Ns1 d (fun y=>if y=f then some v else none)->d=s.heap.objs.size->(∀ b u,b ≠ x->s.heap.get? b=some u->h'.get? b=some u)->Q () { s with heap:=h',toks:=tk }) :
 wpAny (model prog w) A (setAttr (.ref x) f v) Q E s:=by
 refine set_x X c hx hc ?_
 obtain ⟨⟨cd,c1,c2,c3,c4,c5⟩,sa,no⟩:=c
 obtain ⟨hh,g,d,tk,os⟩:=s
 obtain ⟨oc,od,dt,sl⟩:=o
 cases hc
 cases hd
 cases hn
 have gx:(hh.push PySem.W.emptyDict).get? x=some ⟨.ref C,none,.fields vs,sl⟩:=Heap.get?_push_of_some _ hx
 have nx:x ≠ hh.objs.size:=Nat.ne_of_lt (Heap.lt_size hx)
 unfold storeInOwnDict ownDictForStores instanceDict
 refine wpAny_bind (wpAny_pure (wpAny_bind (wpAny_bind (wpAny_loadPart hx (wpAny_bind (PySem.W.Looks.here (s:=⟨hh,g,d,tk+1,os⟩) (PySem.W.looks_clsIn X c1) ?_))))))
 rw [c2]
 refine wpAny_bind (wpAny_alloc ?_)
 refine wpAny_bind (wpAny_update gx ?_)
 refine wpAny_pure ?_
 have g2:((hh.push PySem.W.emptyDict).update x fun o=>{ cls:=o.cls,dict:=some hh.objs.size,data:=o.data,slots:=o.slots }).get? hh.objs.size=some PySem.W.emptyDict:=(Heap.get?_update_other _ _ nx).trans (Heap.get?_push_at rfl rfl)
 have g3:((hh.push PySem.W.emptyDict).update x fun o=>{ cls:=o.cls,dict:=some hh.objs.size,data:=o.data,slots:=o.slots }).get? x=some ⟨.ref C,some hh.objs.size,.fields vs,sl⟩:=Heap.get?_update_self _ gx rfl
 have n2:((hh.push PySem.W.emptyDict).update x fun o=>{ cls:=o.cls,dict:=some hh.objs.size,data:=o.data,slots:=o.slots }).Ns hh.objs.size (fun _=>none):=⟨_,#[],_,g2,rfl,fun e he=>absurd he (by simp),fun _=>rfl⟩
 show wpAny _ _ (storeInDict hh.objs.size (.str f tk) f v) _ _ _
 unfold storeInDict newKeyGuard
 refine wpAny_bind (wpAny_pure (wpAny_bind (wpAny_nsSet1 (Heap.Ns1.of_empty n2) fun h' m1 sb=>?_)))
 obtain ⟨oD,eD,pD,hoD,hdD,hcD⟩:=m1.count (Within.cons f v Within.nil)
 refine wpAny_bind (wpAny_lookBehind hoD (by rw [hdD];exact pastItsLine_dict (Nat.le_trans hcD (by rw [List.length_cons,List.length_nil,sizeLine_eq];omega))) (wpAny_pure ?_))
 refine h h' hh.objs.size _ ((sb.2 x nx).trans g3) m1 rfl fun b u nb hb=>?_
 exact (sb.2 b (Nat.ne_of_lt (Heap.lt_size hb))).trans ((Heap.get?_update_other _ _ (Ne.symm nb)).trans (Heap.get?_push_of_some _ hb))
theorem set_x2 {dx:Addr} {mA:Str->Option Value} {ns:List Str} (X:K.In s.heap) (c:XCls K C f) (hx:s.heap.get? x=some o) (hc:o.cls = .ref C) (hd:o.data = .fields vs) (hn:o.dict=some dx) (m:s.heap.Ns1 dx mA) (hw:Within mA ns) (hz:ns.length<=1000)
 (h:∀ h' tk,h'.Ns1 dx (fun y=>if y=f then some v else mA y)->(∀ b u,b ≠ dx->s.heap.get? b=some u->h'.get? b=some u)->Q () { s with heap:=h',toks:=tk }) :
 wpAny (model prog w) A (setAttr (.ref x) f v) Q E s:=by
 refine set_x X c hx hc ?_
 obtain ⟨⟨cd,c1,c2,c3,c4,c5⟩,sa,no⟩:=c
 obtain ⟨hh,g,d,tk,os⟩:=s
 obtain ⟨oc,od,dt,sl⟩:=o
 cases hc
 cases hd
 cases hn
 unfold storeInOwnDict ownDictForStores instanceDict
 refine wpAny_bind (wpAny_pure (wpAny_bind (wpAny_bind (wpAny_loadPart hx (wpAny_bind (PySem.W.Looks.here (s:=⟨hh,g,d,tk+1,os⟩) (PySem.W.looks_clsIn X c1) ?_))))))
 rw [c2]
 refine wpAny_pure (a:=some dx) ?_
 show wpAny _ _ (storeInDict dx (.str f tk) f v) _ _ _
 unfold storeInDict newKeyGuard
 refine wpAny_bind (wpAny_pure (wpAny_bind (wpAny_nsSet1 m fun h' m1 sb=>?_)))
 obtain ⟨oD,eD,pD,hoD,hdD,hcD⟩:=m1.count (Within.cons f v hw)
 refine wpAny_bind (wpAny_lookBehind hoD (by rw [hdD];exact pastItsLine_dict (Nat.le_trans hcD (by rw [List.length_cons,sizeLine_eq];omega))) (wpAny_pure ?_))
 exact h h' _ m1 fun b u nb hb=>(sb.2 b nb).trans hb
end
end L3
namespace L3
open PySem PySem.Spec PySem.Calls
open PyProof.Rows hiding St
open L2
abbrev excAt (C t:Addr) (dx:Option Addr):Obj:={ cls := .ref C,dict:=dx,data := .fields #[.ref t,.none,.none,.none,.bool false,.none] }
def XO (x C:Addr) (dx:Option Addr):HO := .ext fun h=>∃ t:Addr,h.get? x=some (excAt C t dx)
def MutX:Option HO->Prop
 | some (.ext _)=>True
 | some (.xd _)=>True
 | _=>False
section
variable {X : Cx} {pins : List (Addr × Obj)} {σ : St} {H H' : Hp} {s : Shared} {h' : Heap}
theorem Inv.chg {t':Nat} (I:Inv X pins σ H s) (S:Addr->Prop) (hS:∀ b,S b->(H b=none/\s.heap.objs.size<=b)\/MutX (H b)) (k:∀ b u,¬ S b->s.heap.get? b=some u->h'.get? b=some u) (ex:∀ b,S b->∃ u,h'.get? b=some u)
 (ag:∀ b,¬ S b->H' b=H b) (new:∀ b o,S b->H' b=some o->ObjOk X.prog X.w H' h' b o):Inv X pins σ H' { s with heap:=h',toks:=t' }:=by
 have nS:∀ b u,H b=some u->¬ MutX (some u)->¬ S b:=fun b u e n z=>by
  rcases hS b z with q | q
  ·rw [q.1] at e;cases e
  ·rw [e] at q;exact n q
 have nF:∀ b o,s.heap.get? b=some o->H b=none->¬ S b:=fun b o g n z=>by
  rcases hS b z with q | q
  ·exact absurd (Heap.lt_size g) (Nat.not_lt.mpr q.2)
  ·rw [n] at q;exact q
 refine I.un ⟨fun b o g n _ _=>k b o (nF b o g n) g,fun b o g n _ _=>⟨o.slots,k b o (nF b o g n) g⟩,fun b o g n _=>by rw [ag b (nF b o g n)];exact n,fun b o g _=>?_,fun b xs q=>?_,fun b o u q=>?_,fun b ps q=>?_⟩ fun b o q=>?_
 ·by_cases z:S b
  ·exact ex b z
  ·exact ⟨o,k b o z g⟩
 ·rw [ag b (nS b _ q fun z=>z)];exact q
 ·rw [ag b (nS b _ q fun z=>z)];exact q
 ·exact ⟨#[],by rw [ag b (nS b _ q fun z=>z),Array.append_empty];exact q⟩
 ·by_cases z:S b
  ·exact new b o z q
  ·rw [ag b z] at q
   refine (I.hok b o q).stay (fun c u hc g=>k c u ?_ g) (fun c r=>?_) fun c xs r=>?_
   ·rcases hc with rfl | hc
    ·exact z
    ·exact nS c _ hc fun z=>z
   ·rw [ag c (nS c _ r fun z=>z)];exact r
   ·rw [ag c (nS c _ r fun z=>z)];exact r
theorem xo_ok {x C t:Addr} {dx:Option Addr} (e:h'.get? x=some (excAt C t dx)):ObjOk X.prog X.w H' h' x (XO x C dx) :=
 ⟨⟨t,e⟩,⟨_,e⟩,fun h1 h2 ⟨u,g⟩ k=>⟨u,k _ g⟩⟩
theorem XO.at {x C:Addr} {dx:Option Addr} (I:Inv X pins σ H s) (e:H x=some (XO x C dx)):∃ t:Addr,s.heap.get? x=some (excAt C t dx):=(I.hok x _ e).1
def rSetX (K:PySem.W.Frag) (f:Str) (v y:V) (H:Hp) (Q:Hp->Prop):Prop:=∃ x C,v = .ref x/\XCls K C f /\
 ((H x=some (XO x C none)/\∀ d,H d=none->d ≠ x->Q (upd (upd H d (.xd [(f,y)])) x (XO x C (some d)))) \/
  ∃ d fs,H x=some (XO x C (some d))/\H d=some (.xd fs)/\fs.length<1000/\Q (upd H d (.xd (putF f y fs))))
theorem setattr_x {A:Around} {E:Value->Shared->Prop} {f:Str} {v y:V} {u uv:Value} {Q:Unit->Shared->Prop} {Qh:Hp->Prop} (I:Inv X pins σ H s) (rv:RelV v uv) (ry:RelV y u) (h:rSetX X.K f v y H Qh)
 (q:∀ s' H',Inv X pins σ H' s'->Qh H'->Q () s'):wpAny (model X.prog X.w) A (setAttr uv f u) Q E s:=by
 obtain ⟨x,C,rfl,c,⟨hx,hq⟩ | ⟨d,fs,hx,hd,hl,hq⟩⟩:=h
 ·obtain rfl:uv=Value.ref x:=rv
  obtain ⟨t,g⟩:=XO.at I hx
  refine set_x1 I.kIn c g rfl rfl rfl fun h' d tk g' m ed kp=>?_
  have nd:H d=none:=I.hok.fresh (Nat.le_of_eq ed.symm)
  have dx:d ≠ x:=fun w=>by rw [w,hx] at nd;cases nd
  refine q _ _ ?_ (hq d nd dx)
  refine Inv.chg I (fun b=>b=x\/b=d) (fun b hb=>?_) (fun b u nb g=>kp b u (fun z=>nb (.inl z)) g) (fun b hb=>?_) (fun b nb=>?_) fun b o hb e=>?_
  ·rcases hb with rfl | rfl
   ·right;rw [hx];exact trivial
   ·left;exact ⟨nd,Nat.le_of_eq ed.symm⟩
  ·rcases hb with rfl | rfl
   ·exact ⟨_,g'⟩
   ·obtain ⟨o,_,_,e,_⟩:=m;exact ⟨o,e⟩
  ·rw [upd_ne (fun z=>nb (.inl z)),upd_ne (fun z=>nb (.inr z))]
  ·rcases hb with rfl | rfl
   ·rw [upd_same] at e;cases e;exact xo_ok g'
   ·rw [upd_ne dx,upd_same] at e
    cases e
    refine ⟨_,m,fun g=>?_⟩
    show RelO (List.lookup g [(f,y)]) (if g=f then some u else none)
    by_cases w:g=f
    ·subst w;rw [List.lookup_cons_self,if_pos rfl];exact ry
    ·have hb:(g == f)=false:=beq_eq_false_iff_ne.mpr w
     rw [List.lookup_cons,hb,if_neg w]
     exact trivial
 ·obtain rfl:uv=Value.ref x:=rv
  obtain ⟨t,g⟩:=XO.at I hx
  obtain ⟨mA,m,rl⟩:=I.hok d _ hd
  have wi:Within mA (fs.map (·.1)):=fun g hg=>by
   have:=rl g
   cases l:fs.lookup g with
   | none=>rw [l] at this;cases w:mA g with
     | none=>exact absurd w hg
     | some _=>rw [w] at this;exact this.elim
   | some v=>exact List.mem_map.mpr ⟨(g,v),PySem.mem_of_lookup l,rfl⟩
  refine set_x2 I.kIn c g rfl rfl rfl m wi (by rw [List.length_map];omega) fun h' tk m' kp=>?_
  have dx:d ≠ x:=fun w=>by rw [w,hx] at hd;cases hd
  refine q _ _ ?_ hq
  refine Inv.chg I (fun b=>b=d) (fun b hb=>?_) (fun b u nb g=>kp b u nb g) (fun b hb=>?_) (fun b nb=>upd_ne nb) fun b o hb e=>?_
  ·subst hb;right;rw [hd];exact trivial
  ·subst hb;obtain ⟨o,_,_,e,_⟩:=m';exact ⟨o,e⟩
  ·subst hb
   rw [upd_same] at e
   cases e
   refine ⟨_,m',fun g=>?_⟩
   show RelO ((putF f y fs).lookup g) (if g=f then some u else mA g)
   rw [lookup_putF]
   by_cases w:g=f
   ·rw [if_pos w,if_pos w];exact ry
   ·rw [if_neg w,if_neg w];exact rl g
def sFldX (K:PySem.W.Frag) (ta tv:TE) (f:Str):TS:=fun D σ H=>tv σ H fun y H1=>ta σ H1 fun v H2=>rSetX K f v y H2 fun H3=>D.nx σ H3
theorem ps_fldx {o value:Expr} {f:Str} {pos pos':Pos} {ta tv:TE} (ha:PE X o ta) (hv:PE X value tv) (hs:swapsWith value (some (.Attribute o f pos')) pos.line X.env=pure false):PS X (.Assign [.Attribute o f pos'] value pos) (sFldX X.K ta tv f):=by
 intro pins s σ H D I h
 refine plainObj_wpAny_Assign_Attribute (thn (hv pins s σ H _ I h) fun u s1 ⟨y,H1,I1,ry,q⟩=>thn (ha pins s1 σ H1 _ I1 q) fun ov s2 ⟨x,H2,I2,rx,q2⟩=>?_) hs
 exact setattr_x I2 rx ry q2 fun s3 H3 I3 q3=>⟨σ,_,I3,q3⟩
end
end L3
namespace L3
open PySem PySem.Spec PySem.Calls
open PyProof.Rows hiding St
open L2
def spInit (K:PySem.W.Frag) (ns:List Str):Sp:=fun vs H Q _=>∃ x C ys,vs = .ref x::ys/\ys.length=ns.length/\(∀ n ∈ ns,XCls K C n)/\H x=some (XO x C none)/\∀ d,H d=none->d ≠ x->Q .non (upd (upd H d (.xd (ns.zip ys))) x (XO x C (some d)))
theorem spInit_len {K:PySem.W.Frag} {ns ps:List Str} (h:ps.length=ns.length+1):∀ vs H Q E,spInit K ns vs H Q E->vs.length=ps.length:=fun vs H Q E ⟨x,C,ys,e,l,_⟩=>by rw [e,List.length_cons,l,h]
structure XMk (K:PySem.W.Frag) (C f:Addr) (ns:List Str):Prop where
 cls:∃ (nm q:Str) (N:Addr) (bs bm bmB:List Value) (sn:List Str) (sub:List Value) (ab:Bool) (col:Option Bool) (dd:Option Addr) (k0 k1 k2 k3 k5:Option Value) (B newId initId:String),
  K.lookup C=some (excClassObj nm q C N bs bm true sn sub ab col dd k0 k1 k2 k3 k5 newId)/\(∀ h:Heap,K.In h->OwnTail h bmB bm)/\ExcBaseFacts B newId initId bmB
 init:PySem.W.findIn K (.ref C) "__init__" = some (some (.ref f))
 fn:PySem.W.typeIn K (.ref f)=some (.type "function")
 kp:PySem.W.keepIn K (.ref C)=true
 fld:∀ n ∈ ns,XCls K C n
section
variable {X : Cx} {pins : List (Addr × Obj)} {σ : St} {H : Hp} {s : Shared} {k : Nat} {C f : Addr} {fd : FuncData} {ps ns : List Str} {us : List Value} {vs : List V} {Q : Value → Shared → Prop}
theorem run_makex (M:XMk X.K C f ns) (F:FnOk X.prog X.w X.K X.mg X.base CX0 k f fd ps (spInit X.K ns)) (hr:Room (k+1) X.A) (hb:Binds X.K fd ps []) (I:Inv X pins σ H s) (r:Vals vs us) (hl:vs.length=ns.length) (hz:ns.length<=1000)
 (h:∀ s' x d,Inv X pins σ (upd (upd H d (.xd (ns.zip vs))) x (XO x C (some d))) s'->s.heap.objs.size<=x->H x=none->H d=none->d ≠ x->Q (.ref x) s'):wpAny (model X.prog X.w) X.A (call (.ref C) us) Q X.xe s:=by
 obtain ⟨nm,q,N,bs,bm,bmB,sn,sub,ab,col,dd,k0,k1,k2,k3,k5,B,newId,initId,hC,T,EB⟩:=M.cls
 have lu:us.length<=sizeLine:=by rw [<- r.length,hl,sizeLine_eq];omega
 have kp:∀ b o,s.heap.get? b=some o->((s.heap.push (tupOf us)).push (excOf C s.heap.objs.size)).get? b=some o:=fun b o z=>Heap.get?_push_of_some _ (Heap.get?_push_of_some _ z)
 have gx:((s.heap.push (tupOf us)).push (excOf C s.heap.objs.size)).get? (s.heap.objs.size+1)=some (excOf C s.heap.objs.size):=by heap_get
 have nx:H (s.heap.objs.size+1)=none:=I.hok.fresh (Nat.le_succ _)
 have I2:Inv X pins σ (upd H (s.heap.objs.size+1) (XO (s.heap.objs.size+1) C none)) { s with heap:=(s.heap.push (tupOf us)).push (excOf C s.heap.objs.size),toks:=s.toks } :=
  Inv.chg I (fun b=>b=s.heap.objs.size+1) (fun b hb => .inl (by subst hb;exact ⟨nx,Nat.le_succ _⟩)) (fun b u _ g=>kp b u g) (fun b hb=>by subst hb;exact ⟨_,gx⟩) (fun b nb=>upd_ne nb) fun b o hb e=>by
   subst hb
   rw [upd_same] at e
   cases e
   exact xo_ok gx
 have r2:Vals (V.ref (s.heap.objs.size+1)::vs) (Value.ref (s.heap.objs.size+1)::us) := .cons rfl r
 have sp:spInit X.K ns (V.ref (s.heap.objs.size+1)::vs) (upd H (s.heap.objs.size+1) (XO (s.heap.objs.size+1) C none)) (fun v H2=>v = .non/\∃ d,H d=none/\d ≠ s.heap.objs.size+1/\H2=upd (upd H d (.xd (ns.zip vs))) (s.heap.objs.size+1) (XO (s.heap.objs.size+1) C (some d))) E0 :=
  ⟨_,C,vs,rfl,hl,M.fld,upd_same,fun d hd dx=>⟨rfl,d,by rw [upd_ne dx] at hd;exact hd,dx,by
   funext b
   unfold upd
   by_cases e1:b=s.heap.objs.size+1
   ·rw [if_pos e1,if_pos e1]
   ·rw [if_neg e1,if_neg e1,if_neg e1]⟩⟩
 have hl2:(Value.ref (s.heap.objs.size+1)::us).length=ps.length:=by rw [<- r2.length];exact F.len _ _ _ _ sp
 refine wpAny_call (make_x I.kIn hC (T _ I.kIn) EB M.init M.fn lu (codeAny_mono (F.run _ X.stack _ _ ⟨Value.ref (s.heap.objs.size+1)::us,[]⟩ (Value.ref (s.heap.objs.size+1)::us) _ _ E0 (hr.make C us []) (I2.env0.make C us []) ?_ r2 sp) fun r s' hq=>?_))
 ·have:=hb _ (Value.ref (s.heap.objs.size+1)::us) I2.kIn (by rw [List.append_nil];exact hl2)
  rwa [List.append_nil] at this
 ·cases r with
  | error e=>exact hq.elim
  | ok fl =>
    cases fl with
    | ret u =>
      obtain ⟨v,H',I3,rv,ev,d,hd,dx,e2⟩:=I2.after hq
      subst ev e2
      exact ⟨rv,h s' _ d I3 (Nat.le_succ _) nx hd dx⟩
    | next=>exact hq.elim
    | brk=>exact hq.elim
    | cont=>exact hq.elim
def dropA (H:Hp) (x:Addr):Hp:=fun b=>if b=x then none else H b
theorem drop_ne {H:Hp} {x b:Addr} (h:b ≠ x):dropA H x b=H b:=if_neg h
theorem drop_same {H:Hp} {x:Addr}:dropA H x x=none:=if_pos rfl
theorem Inv.drop {x:Addr} (I:Inv X pins σ H s) (m:MutX (H x)):Inv X pins σ (dropA H x) s:=by
 have ne:∀ b u,H b=some u->¬ MutX (some u)->b ≠ x:=fun b u e n z=>by rw [<- z,e] at m;exact n m
 have dn:∀ b,H b=none->dropA H x b=none:=fun b e=>by
  by_cases z:b=x
  ·rw [z];exact drop_same
  ·rw [drop_ne z];exact e
 refine ⟨I.ok,I.os,I.bare,⟨I.base.keep,I.base.slot,fun b o g n hx=>dn b (I.base.free b o g n hx),I.base.there,fun b xs q=>?_,fun b o u q=>?_,fun b ps q=>?_⟩,I.loc,I.cell,dn _ I.free,fun y c e=>dn _ (I.freeC y c e),fun p hp=>?_,fun b o q=>?_,I.len⟩
 ·have:=I.base.tups b xs q
  rw [drop_ne (ne b _ this fun z=>z)];exact this
 ·have:=I.base.frzs b o u q
  rw [drop_ne (ne b _ this fun z=>z)];exact this
 ·obtain ⟨mo,this⟩:=I.base.tbls b ps q
  exact ⟨mo,by rw [drop_ne (ne b _ this fun z=>z)];exact this⟩
 ·obtain ⟨a1,a2,a3⟩:=I.pin p hp
  exact ⟨a1,dn _ a2,a3⟩
 ·have nb:b ≠ x:=fun z=>by rw [z,drop_same] at q;cases q
  rw [drop_ne nb] at q
  refine (I.hok b o q).stay (fun c u _ g=>g) (fun c r=>?_) fun c xs r=>?_
  ·rw [drop_ne (ne c _ r fun z=>z)];exact r
  ·rw [drop_ne (ne c _ r fun z=>z)];exact r
def tRaise (C:Addr) (ns:List Str) (E:XK) (t:TA):TS:=fun D σ H=>t σ H fun vs H1=>vs.length=ns.length/\∀ d,H1 d=none->E (.ref C) (some d) (upd H1 d (.xd (ns.zip vs)))
section
variable {A : Around} {E : Value → Shared → Prop} {x C N : Addr} {M : Model} {env : Env} {ev : Sem Value}
variable {nm q : Str} {bs bm : List Value} {sn : List Str} {sub : List Value} {ab : Bool} {col : Option Bool} {dd : Option Addr} {k0 k1 k2 k3 k5 : Option Value} {newId : String}
theorem raise_go {Q:Flow->Shared->Prop} (hm:bm.contains (.type "BaseException")=true) (hh:A.handled=none)
 (h:wpAny M A ev (fun v s1=>∃ x t dx,v = .ref x/\s1.heap.get? C=some (excClassObj nm q C N bs bm true sn sub ab col dd k0 k1 k2 k3 k5 newId)/\s1.heap.get? x=some (excAt C t dx)/\E (.ref x) s1) E s) :
 wpAny M A (raiseStmt env (some ev) none) Q E s:=by
 have cB:(Value.ref C::bm).contains (.type "BaseException")=true:=by rw [List.contains_cons,hm,Bool.or_true]
 unfold raiseStmt
 refine wpAny_bind (wpAny_mono h (fun v s1 h1=>?_) fun _ _ z=>z)
 obtain ⟨x,t,dx,rfl,gC,gx,z⟩:=h1
 obtain ⟨h1,g1,d1,u1,o1⟩:=s1
 repeat (first | with_reducible refine wpAny_loadPart_at gx ?_ | with_reducible refine wpAny_loadPart_at gC ?_ | (with_reducible refine wpAny_isSubtype_exc gC ?_;rw [cB]) | wp_step)
 exact wpAny_raiseNew_none hh z
end
theorem ps_raise {P:Program} {w:World} {E:XK} {x:Str} {e:Expr} {es:List Expr} {np cpos pos:Pos} {t:TA} (B:Bdy P w X E) (hc:X.calm=true) (M:XMk X.K C f ns) (F:FnOk X.prog X.w X.K X.mg X.base CX0 k f fd ps (spInit X.K ns)) (hr:Room (k+1) X.A) (hb:Binds X.K fd ps []) (hz:ns.length<=1000)
 (hg:Gl X x) (hm:X.mg x=some (.ref C)) (ha:PA X (e::es) t) (hdb:(x == ("__debug__" : Str))=false:=by decide) (he:starEach (e::es) X.env=(false,eval e X.env)::starEach es X.env:=by rfl) (hpl:(backTo cpos (starEach es X.env)).any (·.1)=false:=by rfl) :
 PS X (.Raise (some (.Call (.Name x np) (e::es) [] cpos)) none pos) (tRaise C ns E t):=by
 intro pins s σ H D I h
 obtain ⟨nm,q,N,bs,bm,bmB,sn,sub,ab,col,dd,k0,k1,k2,k3,k5,B1,newId,initId,hC,T,EB⟩:=id M.cls
 have hb2:bm.contains (.type "BaseException")=true:=(T _ I.kIn).hasType EB.hasBase
 rw [arm_exec_Raise]
 refine wpAny_bind (wpAny_standAt (raise_go (C:=C) (nm:=nm) (q:=q) (N:=N) (bs:=bs) (sn:=sn) (sub:=sub) (ab:=ab) (col:=col) (dd:=dd) (k0:=k0) (k1:=k1) (k2:=k2) (k3:=k3) (k5:=k5) (newId:=newId) hb2 (I.ok.hd hc) ?_))
 refine wpAny_bind (wpAny_Call_Name_kw (ld_glob I hg hm ?_ hdb))
 refine PySem.W.callWith_K (h₀:=X.base) I.ok.mod.kin M.kp (thn (ha cpos pins s σ H _ I h) fun us s1 ⟨vs,H1,I1,r,hl,hq⟩=>⟨I1.kIn,?_⟩) he hpl
 refine run_makex M F hr hb I1 r hl hz fun s' x d I2 sx nx nd dx=>wpAny_bind (wpAny_standAt (wpAny_pure ?_))
 obtain ⟨t,g⟩:=XO.at I2 upd_same
 refine ⟨x,t,some d,rfl,I2.kIn _ _ hC,g,?_⟩
 have eH:dropA (upd (upd H1 d (.xd (ns.zip vs))) x (XO x C (some d))) x=upd H1 d (.xd (ns.zip vs)):=by
  funext b
  by_cases z:b=x
  ·rw [z,drop_same,upd_ne (Ne.symm dx),nx]
  ·rw [drop_ne z,upd_ne z]
 have I3:=Inv.drop I2 (x:=x) (by rw [upd_same];exact trivial)
 rw [eH] at I3
 refine B.out I3 (T:=none) ⟨⟨_,_,g,rfl,rfl,rfl,Nat.lt_of_lt_of_le (by decide:1<6) (Nat.le_refl _),rfl⟩,fun t z=>nomatch z⟩ (by rw [upd_ne (Ne.symm dx)];exact nx) ?_ (fun t z=>nomatch z) (hq d nd)
 exact Nat.le_trans I1.sz sx
end
end L3
namespace L3
open PySem PySem.Spec PySem.Calls
open PyProof.Rows hiding St
open L2
section
variable {X : Cx} {pins : List (Addr × Obj)} {σ : St} {H : Hp} {s : Shared} {a : Addr}
def XR (a C dx:Addr):HO := .ext fun h=>∃ o vs,h.get? a=some o/\o.cls = .ref C/\o.dict=some dx/\o.data = .fields vs
end
end L3
namespace L3
open PySem PySem.Spec
open PyProof.Rows hiding St
open L2
mutual
inductive Is (K:PySem.W.Frag) (F:Addr->Prop) (H:Hp):V->PyData->Prop
 | none:Is K F H .non .none
 | bool (b):Is K F H (.bl b) (.bool b)
 | int (i):Is K F H (.int i) (.int i)
 | str (x):Is K F H (.str x) (.str x)
 | list {a xs ds}:F a->H a=some (.lst xs)->IsAll K F H xs ds->Is K F H (.ref a) (.list ds)
 | tuple {a xs ds}:SqT K H a xs->IsAll K F H xs ds->Is K F H (.ref a) (.tuple ds)
inductive IsAll (K:PySem.W.Frag) (F:Addr->Prop) (H:Hp):List V->List PyData->Prop
 | nil:IsAll K F H [] []
 | cons {v vs d ds}:Is K F H v d->IsAll K F H vs ds->IsAll K F H (v::vs) (d::ds)
end
section
variable {K : PySem.W.Frag} {F F' : Addr → Prop} {H H' : Hp}
mutual
theorem Is.to (hL:∀ a xs,F a->H a=some (.lst xs)->F' a/\H' a=some (.lst xs)) (hT:∀ a xs,SqT K H a xs->SqT K H' a xs):∀ {v d},Is K F H v d->Is K F' H' v d
 | _,_,.none => .none
 | _,_,.bool b => .bool b
 | _,_,.int i => .int i
 | _,_,.str x => .str x
 | _,_,.list f q r => .list (hL _ _ f q).1 (hL _ _ f q).2 (IsAll.to hL hT r)
 | _,_,.tuple q r => .tuple (hT _ _ q) (IsAll.to hL hT r)
theorem IsAll.to (hL:∀ a xs,F a->H a=some (.lst xs)->F' a/\H' a=some (.lst xs)) (hT:∀ a xs,SqT K H a xs->SqT K H' a xs):∀ {vs ds},IsAll K F H vs ds->IsAll K F' H' vs ds
 | _,_,.nil => .nil
 | _,_,.cons r t => .cons (Is.to hL hT r) (IsAll.to hL hT t)
end
theorem IsAll.length:∀ {vs ds},IsAll K F H vs ds->vs.length=ds.length
 | _,_,.nil=>rfl
 | _,_,.cons _ t=>by rw [List.length_cons,List.length_cons,IsAll.length t]
theorem IsAll.get:∀ {vs ds} {i:Nat} {d},IsAll K F H vs ds->ds[i]? = some d->∃ v,vs[i]? = some v/\Is K F H v d
 | _,_,_,_,.nil,e=>by simp at e
 | _,_,0,_,.cons r _,e=>by simp at e;subst e;exact ⟨_,rfl,r⟩
 | _,_,i+1,d,.cons _ t,e=>by
   obtain ⟨v,h1,h2⟩:=IsAll.get (i:=i) (d:=d) t (by simpa using e)
   exact ⟨v,by simpa using h1,h2⟩
theorem IsAll.append:∀ {vs ds ws es},IsAll K F H vs ds->IsAll K F H ws es->IsAll K F H (vs++ws) (ds++es)
 | _,_,_,_,.nil,s=>s
 | _,_,_,_,.cons r t,s => .cons r (IsAll.append t s)
theorem IsAll.snoc {vs ds v d} (h:IsAll K F H vs ds) (r:Is K F H v d):IsAll K F H (vs ++ [v]) (ds ++ [d]):=h.append (.cons r .nil)
theorem IsAll.take:∀ {vs ds} (n:Nat),IsAll K F H vs ds->IsAll K F H (vs.take n) (ds.take n)
 | _,_,0,_ => .nil
 | _,_,_+1,.nil => .nil
 | _,_,n+1,.cons r t => .cons r (IsAll.take n t)
theorem IsAll.drop:∀ {vs ds} (n:Nat),IsAll K F H vs ds->IsAll K F H (vs.drop n) (ds.drop n)
 | _,_,0,r=>r
 | _,_,_+1,.nil => .nil
 | _,_,n+1,.cons _ t=>IsAll.drop n t
end
def SameB (M:Addr->Prop) (H H':Hp):Prop:=∀ a o,H a=some o->¬ M a->H' a=some o
theorem SameB.refl (M:Addr->Prop) (H:Hp):SameB M H H:=fun _ _ h _=>h
theorem SameB.trans {M:Addr->Prop} {H H1 H2:Hp} (a:SameB M H H1) (b:SameB M H1 H2):SameB M H H2:=fun c o h n=>b c o (a c o h n) n
theorem SameB.of {M:Addr->Prop} {H H':Hp} (s:Same H H'):SameB M H H':=fun a o h _=>s a o h
theorem SameB.free {M:Addr->Prop} {H H':Hp} (e:SameB M H H') {l:Addr} (hm:¬ M l) (h:H' l=Option.none):H l=Option.none:=by
 cases q:H l with
 | none=>rfl
 | some o=>rw [e l o q hm] at h;cases h
def TupStay (H H':Hp):Prop:=∀ a u,(∃ xs,u=HO.tup xs\/∃ o,u=HO.frz o (.tup xs))->H a=some u->H' a=some u
theorem SqT.stay {K:PySem.W.Frag} {H H':Hp} {a:Addr} {xs:List V} (e:TupStay H H') (h:SqT K H a xs):SqT K H' a xs:=by
 rcases h with (h | ⟨o,h⟩) | h
 ·exact .inl (.inl (e _ _ ⟨xs,.inl rfl⟩ h))
 ·exact .inl (.inr ⟨o,e _ _ ⟨xs,.inr ⟨o,rfl⟩⟩ h⟩)
 ·exact .inr h
structure Ob where
 M:Addr->Prop
 P:Hp->Prop
 v:V
structure Ob.Ok (O:Ob):Prop where
 loc:∀ H H',(∀ a,O.M a->H' a=H a)->O.P H->O.P H'
 mutb:∀ H a o,O.P H->H a=some o->O.M a->(∀ xs,o ≠ .tup xs)/\∀ q u,o ≠ .frz q u
 here:∀ H a,O.P H->O.M a->∃ o,H a=some o
theorem Ob.Ok.grow {O:Ob} (ok:O.Ok) (H H':Hp) (s:Same H H') (p:O.P H):O.P H':=ok.loc H H' (fun a m=>by
 obtain ⟨o,e⟩:=ok.here H a p m
 rw [e,s a o e]) p
def Ob.plus (O:Ob) (D:Addr) (u:HO):Ob:=⟨fun a=>O.M a\/a=D,fun H=>O.P H/\H D=some u,O.v⟩
theorem Ob.Ok.plus {O:Ob} (ok:O.Ok) (D:Addr) (xs:List V):(O.plus D (.lst xs)).Ok :=
 ⟨fun H H' e p=>⟨ok.loc H H' (fun a m=>e a (.inl m)) p.1,(e D (.inr rfl)).trans p.2⟩,
  fun H a o p e m=>by
   rcases m with m | rfl
   ·exact ok.mutb H a o p.1 e m
   ·rw [p.2] at e;cases e;exact ⟨fun _ h=>(by cases h),fun _ _ h=>(by cases h)⟩,
  fun H a p m=>by
   rcases m with m | rfl
   ·exact ok.here H a p.1 m
   ·exact ⟨_,p.2⟩⟩
structure Stp (O:Ob) (H H':Hp):Prop where
 s:SameB O.M H H'
 p:O.P H->O.P H'
 t:TupStay H H'
theorem Stp.refl (O:Ob) (H:Hp):Stp O H H:=⟨.refl _ _,fun h=>h,fun _ _ _ h=>h⟩
theorem Stp.trans {O:Ob} {H H1 H2:Hp} (a:Stp O H H1) (b:Stp O H1 H2):Stp O H H2:=⟨a.s.trans b.s,fun h=>b.p (a.p h),fun c u hu h=>b.t c u hu (a.t c u hu h)⟩
theorem Stp.same {O:Ob} (ok:O.Ok) {H H':Hp} (s:Same H H'):Stp O H H':=⟨.of s,ok.grow H H' s,fun a u _ h=>s a u h⟩
theorem same_new {H:Hp} {p:Addr} (h:H p=none) (o:HO):Same H (upd H p o):=fun b u q=>by rw [upd_ne (ne_of_none q h)];exact q
theorem Stp.new {O:Ob} (ok:O.Ok) {H:Hp} {p:Addr} (h:H p=none) (o:HO):Stp O H (upd H p o) := .same ok (same_new h o)
section
variable {K : PySem.W.Frag} {O : Ob} {F F' : Addr → Prop} {H H' : Hp} {v : V} {d : PyData}
theorem Is.stp (s:Stp O H H') (hF:∀ a,F a->F' a) (hM:∀ a,F a->¬ O.M a) (h:Is K F H v d):Is K F' H' v d :=
 h.to (fun a xs f q=>⟨hF a f,s.s a _ q (hM a f)⟩) fun a xs q=>SqT.stay (h:=q) s.t
theorem IsAll.stp {vs:List V} {ds:List PyData} (s:Stp O H H') (hF:∀ a,F a->F' a) (hM:∀ a,F a->¬ O.M a) (h:IsAll K F H vs ds):IsAll K F' H' vs ds :=
 h.to (fun a xs f q=>⟨hF a f,s.s a _ q (hM a f)⟩) fun a xs q=>SqT.stay (h:=q) s.t
theorem Is.weak (h:Is K F H v d) (hF:∀ a,F a->F' a):Is K F' H v d:=h.to (fun a xs f q=>⟨hF a f,q⟩) fun a xs q=>q
theorem IsAll.weak {vs:List V} {ds:List PyData} (h:IsAll K F H vs ds) (hF:∀ a,F a->F' a):IsAll K F' H vs ds:=h.to (fun a xs f q=>⟨hF a f,q⟩) fun a xs q=>q
end
mutual
def flat:PyData->Bool
 | .none=>true
 | .bool _=>true
 | .int _=>true
 | .str _=>true
 | .tuple ds=>flats ds
 | _=>false
def flats:List PyData->Bool
 | []=>true
 | d::ds=>flat d && flats ds
end
theorem flats_iff:∀ {ds:List PyData},flats ds=true↔∀ d ∈ ds,flat d=true
 | []=>by simp [flats]
 | d::ds=>by rw [flats,Bool.and_eq_true,flats_iff];simp
mutual
theorem Is.flat {K:PySem.W.Frag} {F F':Addr->Prop} {H H':Hp} (t:TupStay H H'):∀ {v d},Is K F H v d->L3.flat d=true->Is K F' H' v d
 | _,_,.none,_ => .none
 | _,_,.bool b,_ => .bool b
 | _,_,.int i,_ => .int i
 | _,_,.str x,_ => .str x
 | _,_,.list _ _ _,h=>by simp [L3.flat] at h
 | _,_,.tuple q r,h => .tuple (SqT.stay t q) (IsAll.flats t r (by simpa [L3.flat] using h))
theorem IsAll.flats {K:PySem.W.Frag} {F F':Addr->Prop} {H H':Hp} (t:TupStay H H'):∀ {vs ds},IsAll K F H vs ds->L3.flats ds=true->IsAll K F' H' vs ds
 | _,_,.nil,_ => .nil
 | _,_,.cons r s,h=>by
   rw [L3.flats,Bool.and_eq_true] at h
   exact .cons (Is.flat t r h.1) (IsAll.flats t s h.2)
end
theorem TupStay.refl (H:Hp):TupStay H H:=fun _ _ _ h=>h
section
variable {X : Cx} {pins : List (Addr × Obj)} {σ : St} {H : Hp} {s : Shared} {F : Addr → Prop}
mutual
theorem Is.reads (I:Inv X pins σ H s):∀ {v d} {u:Value},Is X.K F H v d->RelV v u->∃ as,Reads s.heap u d as
 | _,_,_,.none,r=>by cases r;exact ⟨_,.none⟩
 | _,_,_,.bool b,r=>by cases r;exact ⟨_,.bool b⟩
 | _,_,_,.int i,r=>by obtain ⟨t,rfl⟩:=r;exact ⟨_,.int i t⟩
 | _,_,_,.str x,r=>by obtain ⟨t,rfl⟩:=r;exact ⟨_,.str x t⟩
 | _,_,_,.list f q rs,r=>by
   cases r
   obtain ⟨its,rv,⟨o,n,e,c,_,dt⟩,_⟩:=I.list (.of q)
   obtain ⟨as,ra⟩:=IsAll.reads I rs rv
   exact ⟨_,.list e c dt (by simpa using ra)⟩
 | _,_,_,.tuple q rs,r=>by
   cases r
   obtain ⟨its,rv,⟨o,e,c,n,dt⟩,_⟩:=I.tuple q
   obtain ⟨as,ra⟩:=IsAll.reads I rs rv
   exact ⟨_,.tuple e c dt (by simpa using ra)⟩
theorem IsAll.reads (I:Inv X pins σ H s):∀ {vs ds} {us:List Value},IsAll X.K F H vs ds->Vals vs us->∃ as,ReadsAll s.heap us ds as
 | _,_,_,.nil,r=>by cases r;exact ⟨_,.nil⟩
 | _,_,_,.cons h t,r=>by
   cases r with
   | cons r1 r2 =>
     obtain ⟨as,ra⟩:=Is.reads I h r1
     obtain ⟨bs,rb⟩:=IsAll.reads I t r2
     exact ⟨_,.cons ra rb⟩
end
end
def IsS (K:PySem.W.Frag) (F:Addr->Prop) (H:Hp) (v:V) (n:Nat):Prop:=∃ a xs,v = .ref a/\xs.length=n/\((F a/\Rd H a (.lst xs))\/∀ H',SqL K H' a xs)
theorem IsS.to {K:PySem.W.Frag} {F F':Addr->Prop} {H H':Hp} {v:V} {n:Nat} (hL:∀ a u,F a->H a=some u->F' a/\H' a=some u) (h:IsS K F H v n):IsS K F' H' v n:=by
 obtain ⟨a,xs,e,l,⟨f,q | ⟨o,q⟩⟩ | q⟩:=h
 ·exact ⟨a,xs,e,l,.inl ⟨(hL a _ f q).1,.inl (hL a _ f q).2⟩⟩
 ·exact ⟨a,xs,e,l,.inl ⟨(hL a _ f q).1,.inr ⟨o,(hL a _ f q).2⟩⟩⟩
 ·exact ⟨a,xs,e,l,.inr q⟩
def DkAt (H:Hp) (v:V) (a:Addr) (ks:List Str):Prop:=v = .ref a/\∃ kvs,H a=some (.dK kvs)/\kvs.map (·.1)=ks.map Sum.inr
theorem DkAt.to {H H':Hp} {v:V} {a:Addr} {ks:List Str} (h:DkAt H v a ks) (e:∀ u,H a=some u->H' a=some u):DkAt H' v a ks:=let ⟨h1,kvs,h2,h3⟩:=h; ⟨h1,kvs,e _ h2,h3⟩
inductive R where
 | o (d:PyData)
 | n (ds:List PyData)
def R.d:R->PyData
 | .o d=>d
 | .n ds => .list ds
structure Thg where
 R:PySem.W.Frag->(Addr->Prop)->(Addr->Prop)->Hp->V->Prop
 to:∀ {K:PySem.W.Frag} {F F' W W':Addr->Prop} {H H':Hp} {v:V},(∀ a u,F a->H a=some u->F' a/\H' a=some u)->(∀ a u,W a->H a=some u->W' a/\H' a=some u)->TupStay H H'->R K F W H v->R K F' W' H' v
inductive DV where
 | im (d:PyData)
 | own (ds:List PyData)
 | ob
 | scr (n:Nat)
 | dct (ks:List Str)
   | gen (f:Addr->List V->HO) (ds:List PyData)
   | rd (f:Addr->List V->HO) (ds:List PyData)
   | exc (C:Addr) (ns:List Str) (ds:List PyData)
   | thg (T:Thg)
   | thr (T:Thg)
abbrev DSt:=List (Option DV)
abbrev DE:=DSt->(R->Prop)->Prop
abbrev DT:=DSt->(Bool->Prop)->Prop
abbrev DA:=DSt->(List PyData->Prop)->Prop
def unM (O:Ob):Addr->Prop:=fun a=>¬ O.M a
def ExAt (F:Addr->Prop) (H:Hp) (v:V) (C:Addr) (ns:List Str) (xs:List V):Prop:=∃ a dx,v = .ref a/\F a/\F dx/\H a=some (XR a C dx)/\H dx=some (.xd (ns.zip xs))/\xs.length=ns.length
theorem ExAt.to {F F':Addr->Prop} {H H':Hp} {v:V} {C:Addr} {ns:List Str} {xs:List V} (hL:∀ a u,F a->H a=some u->F' a/\H' a=some u) (h:ExAt F H v C ns xs):ExAt F' H' v C ns xs:=by
 obtain ⟨a,dx,e,f1,f2,q1,q2,l⟩:=h
 exact ⟨a,dx,e,(hL a _ f1 q1).1,(hL dx _ f2 q2).1,(hL a _ f1 q1).2,(hL dx _ f2 q2).2,l⟩
def SeenV (K:PySem.W.Frag) (O:Ob) (H:Hp) (v:V):DV->Prop
 | .im d=>Is K (unM O) H v d
 | .own ds=>Is K (unM O) H v (.list ds)
 | .ob=>v=O.v
 | .scr n=>IsS K (unM O) H v n
 | .dct ks=>∃ a,¬ O.M a/\DkAt H v a ks
 | .gen f ds=>∃ a xs,v = .ref a/\¬ O.M a/\H a=some (f a xs)/\IsAll K (unM O) H xs ds
 | .rd f ds=>∃ a xs,v = .ref a/\¬ O.M a/\H a=some (f a xs)/\IsAll K (unM O) H xs ds
 | .exc C ns ds=>∃ xs,ExAt (unM O) H v C ns xs/\IsAll K (unM O) H xs ds
 | .thg T=>∃ W:Addr->Prop,(∀ a,W a->¬ O.M a/\∃ o,H a=some o)/\T.R K (unM O) W H v
 | .thr T=>∃ W:Addr->Prop,(∀ a,W a->¬ O.M a/\∃ o,H a=some o)/\T.R K (unM O) W H v
structure Seen (K:PySem.W.Frag) (O:Ob) (H:Hp) (σ:St) (ρ:DSt):Prop where
 ok:O.Ok
 p:O.P H
 at_:∀ (i:Nat) r,ρ[i]? = some (some r)->∃ v,σ[i]? = some (some v)/\SeenV K O H v r
 len:ρ.length=σ.length
theorem SeenV.stp {K:PySem.W.Frag} {O:Ob} {H H':Hp} {v:V} {r:DV} (s:Stp O H H') (h:SeenV K O H v r):SeenV K O H' v r:=by
 cases r with
 | im d=>exact Is.stp s (fun _ f=>f) (fun _ f=>f) h
 | own ds=>exact Is.stp s (fun _ f=>f) (fun _ f=>f) h
 | ob=>exact h
 | scr n=>exact IsS.to (fun a u f q=>⟨f,s.s a u q f⟩) h
 | dct ks=>obtain ⟨a,n,h⟩:=h;exact ⟨a,n,h.to fun u q=>s.s a u q n⟩
 | gen f ds=>obtain ⟨a,xs,e,n,q,z⟩:=h;exact ⟨a,xs,e,n,s.s a _ q n,IsAll.stp s (fun _ f=>f) (fun _ f=>f) z⟩
 | rd f ds=>obtain ⟨a,xs,e,n,q,z⟩:=h;exact ⟨a,xs,e,n,s.s a _ q n,IsAll.stp s (fun _ f=>f) (fun _ f=>f) z⟩
 | exc C ns ds=>obtain ⟨xs,e,z⟩:=h;exact ⟨xs,e.to fun a u f q=>⟨f,s.s a u q f⟩,IsAll.stp s (fun _ f=>f) (fun _ f=>f) z⟩
 | thg T=>obtain ⟨W,hw,z⟩:=h;exact ⟨W,fun a w=>⟨(hw a w).1,let ⟨o,e⟩:=(hw a w).2; ⟨o,s.s a o e (hw a w).1⟩⟩,T.to (fun a u f q=>⟨f,s.s a u q f⟩) (fun a u w q=>⟨w,s.s a u q (hw a w).1⟩) s.t z⟩
 | thr T=>obtain ⟨W,hw,z⟩:=h;exact ⟨W,fun a w=>⟨(hw a w).1,let ⟨o,e⟩:=(hw a w).2; ⟨o,s.s a o e (hw a w).1⟩⟩,T.to (fun a u f q=>⟨f,s.s a u q f⟩) (fun a u w q=>⟨w,s.s a u q (hw a w).1⟩) s.t z⟩
theorem Seen.stp {K:PySem.W.Frag} {O:Ob} {H H':Hp} {σ:St} {ρ:DSt} (S:Seen K O H σ ρ) (s:Stp O H H'):Seen K O H' σ ρ :=
 ⟨S.ok,s.p S.p,fun i r e=>let ⟨v,h1,h2⟩:=S.at_ i r e; ⟨v,h1,h2.stp s⟩,S.len⟩
def Out (K:PySem.W.Frag) (O:Ob) (H H':Hp) (v:V):R->Prop
 | .o d=>Is K (unM O) H' v d
 | .n ds=>∃ a xs,v = .ref a/\H a=none/\H' a=some (.lst xs)/\IsAll K (unM O) H' xs ds
theorem Out.is {K:PySem.W.Frag} {O:Ob} {H H':Hp} {v:V} {r:R} (ok:O.Ok) (p:O.P H) (h:Out K O H H' v r):Is K (unM O) H' v r.d:=by
 cases r with
 | o d=>exact h
 | n ds =>
   obtain ⟨a,xs,rfl,hn,e,q⟩:=h
   exact .list (fun m=>by obtain ⟨o,z⟩:=ok.here H a p m;rw [hn] at z;cases z) e q
def ED (K:PySem.W.Frag) (O:Ob) (t:TE) (f:DE):Prop :=
 ∀ (σ:St) (H:Hp) (ρ:DSt) (Q:VK) (Qd:R->Prop),Seen K O H σ ρ->f ρ Qd->(∀ v H' r,Stp O H H'->Out K O H H' v r->Qd r->Q v H')->t σ H Q
def TD (K:PySem.W.Frag) (O:Ob) (t:TT) (f:DT):Prop :=
 ∀ (σ:St) (H:Hp) (ρ:DSt) (Q:Bool->Hp->Prop) (Qd:Bool->Prop),Seen K O H σ ρ->f ρ Qd->(∀ b H',Stp O H H'->Qd b->Q b H')->t σ H Q
def AD (K:PySem.W.Frag) (O:Ob) (t:TA) (f:DA):Prop :=
 ∀ (σ:St) (H:Hp) (ρ:DSt) (Q:List V->Hp->Prop) (Qd:List PyData->Prop),Seen K O H σ ρ->f ρ Qd->(∀ vs H' ds,Stp O H H'->IsAll K (unM O) H' vs ds->Qd ds->Q vs H')->t σ H Q
section
variable {K : PySem.W.Frag} {O : Ob}
def cD (d:PyData):DE:=fun _ Q=>Q (.o d)
theorem ed_int {i:Int}:ED K O (tC (.int i)) (cD (.int i)):=fun σ H ρ Q Qd S h k=>k _ H (.o (.int i)) (.refl _ _) (Is.int i) h
theorem ed_str {x:Str}:ED K O (tC (.str x)) (cD (.str x)):=fun σ H ρ Q Qd S h k=>k _ H (.o (.str x)) (.refl _ _) (Is.str x) h
theorem ed_bl {b:Bool}:ED K O (tC (.bl b)) (cD (.bool b)):=fun σ H ρ Q Qd S h k=>k _ H (.o (.bool b)) (.refl _ _) (Is.bool b) h
def seeR:DV->Option PyData
 | .im d=>some d
 | .own ds=>some (.list ds)
 | .ob=>none
 | .scr _=>none
 | .dct _=>none
 | .gen _ _=>none
 | .rd _ _=>none
 | .exc _ _ _=>none
 | .thg _=>none
 | .thr _=>none
def vD (i:Nat):DE:=fun ρ Q=>∃ r d,ρ[i]? = some (some r)/\seeR r=some d/\Q (.o d)
theorem ed_var {i:Nat}:ED K O (tVar i) (vD i):=fun σ H ρ Q Qd S h k=>by
 obtain ⟨r,d,e,e2,h⟩:=h
 obtain ⟨v,hv,sv⟩:=S.at_ i r e
 refine ⟨v,hv,k _ H _ (.refl _ _) ?_ h⟩
 cases r with
 | im d'=>cases e2;exact sv
 | own ds=>cases e2;exact sv
 | ob=>cases e2
 | scr n=>cases e2
 | dct ks=>cases e2
 | gen f ds=>cases e2
 | rd f ds=>cases e2
 | exc C ns ds=>cases e2
 | thg T=>cases e2
 | thr T=>cases e2
def OpD (K:PySem.W.Frag) (O:Ob) (r:R2) (f:PyData->PyData->(R->Prop)->Prop):Prop :=
 ∀ (H:Hp) (x y:V) (d e:PyData) (Q:VK) (Qd:R->Prop),O.Ok->O.P H->Is K (unM O) H x d->Is K (unM O) H y e->f d e Qd->(∀ v H' r,Stp O H H'->Out K O H H' v r->Qd r->Q v H')->r x y H Q
theorem Out.ahead {H H1 H2:Hp} {v:V} {r:R} (ok:O.Ok) (p:O.P H) (s1:Stp O H H1) (h:Out K O H1 H2 v r):Out K O H H2 v r:=by
 cases r with
 | o d=>exact h
 | n ds =>
   obtain ⟨a,xs,rfl,hn,e,q⟩:=h
   have m:¬ O.M a:=fun m=>by obtain ⟨o,z⟩:=ok.here H1 a (s1.p p) m;rw [hn] at z;cases z
   exact ⟨a,xs,rfl,s1.s.free m hn,e,q⟩
def opDE (f:PyData->PyData->(R->Prop)->Prop) (fa fb:DE):DE:=fun ρ Q=>fa ρ fun a=>fb ρ fun b=>f a.d b.d Q
theorem ed_op {r:R2} {ta tb:TE} {f:PyData->PyData->(R->Prop)->Prop} {fa fb:DE} (hr:OpD K O r f) (ha:ED K O ta fa) (hb:ED K O tb fb):ED K O (tOp r ta tb) (opDE f fa fb):=fun σ H ρ Q Qd S h k=>by
 refine ha σ H ρ _ _ S h fun v H1 a s1 o1 h1=>?_
 refine hb σ H1 ρ _ _ (S.stp s1) h1 fun w H2 b s2 o2 h2=>?_
 have p1:=s1.p S.p
 refine hr H2 v w a.d b.d _ _ S.ok (s2.p p1) (Is.stp s2 (fun _ f=>f) (fun _ f=>f) (o1.is S.ok S.p)) (o2.is S.ok p1) h2 fun z H3 c s3 o3 h3=>?_
 exact k z H3 c ((s1.trans s2).trans s3) (Out.ahead S.ok S.p (s1.trans s2) o3) h3
def fn2 (F:PyData->PyData->Option R):PyData->PyData->(R->Prop)->Prop:=fun a b Q=>∃ r,F a b=some r/\Q r
def bD (f:DE):DT:=fun ρ Q=>f ρ fun r=>∃ b,r.d = .bool b/\Q b
theorem td_val {t:TE} {f:DE} (h:ED K O t f):TD K O (tTest t) (bD f):=fun σ H ρ Q Qd S hf k=>by
 refine h σ H ρ _ _ S hf fun v H1 r s1 o1 ⟨b,e,q⟩=>?_
 have i:=o1.is S.ok S.p
 rw [e] at i
 cases i
 exact ⟨b,rfl,k b H1 s1 q⟩
theorem td_valB {t:TE} {f:DE} (h:ED K O t f):TD K O (tB t) (bD f):=fun σ H ρ Q Qd S hf k=>by
 refine h σ H ρ _ _ S hf fun v H1 r s1 o1 ⟨b,e,q⟩=>?_
 have i:=o1.is S.ok S.p
 rw [e] at i
 cases i
 exact ⟨b,rfl,k b H1 s1 q⟩
def andT (f g:DT):DT:=fun ρ Q=>f ρ fun b=>if b=true then g ρ Q else Q false
def orT (f g:DT):DT:=fun ρ Q=>f ρ fun b=>if b=true then Q true else g ρ Q
def notT (f:DT):DT:=fun ρ Q=>f ρ fun b=>Q (!b)
theorem td_and {t u:TT} {f g:DT} (h:TD K O t f) (h':TD K O u g):TD K O (tAnd t u) (andT f g):=fun σ H ρ Q Qd S hf k=>by
 refine h σ H ρ _ _ S hf fun b H1 s1 q=>?_
 cases b with
 | true=>exact h' σ H1 ρ _ _ (S.stp s1) q fun c H2 s2 q2=>k c H2 (s1.trans s2) q2
 | false=>exact k false H1 s1 q
theorem td_or {t u:TT} {f g:DT} (h:TD K O t f) (h':TD K O u g):TD K O (tOr t u) (orT f g):=fun σ H ρ Q Qd S hf k=>by
 refine h σ H ρ _ _ S hf fun b H1 s1 q=>?_
 cases b with
 | false=>exact h' σ H1 ρ _ _ (S.stp s1) q fun c H2 s2 q2=>k c H2 (s1.trans s2) q2
 | true=>exact k true H1 s1 q
theorem td_not {t:TT} {f:DT} (h:TD K O t f):TD K O (tNot t) (notT f):=fun σ H ρ Q Qd S hf k=>h σ H ρ _ _ S hf fun b H1 s1 q=>k (!b) H1 s1 q
def andV (f g:DE):DE:=fun ρ Q=>f ρ fun r=>∃ b,r.d = .bool b/\if b=true then g ρ Q else Q (.o (.bool false))
def orV (f g:DE):DE:=fun ρ Q=>f ρ fun r=>∃ b,r.d = .bool b/\if b=true then Q (.o (.bool true)) else g ρ Q
def notV (f:DE):DE:=fun ρ Q=>f ρ fun r=>∃ b,r.d = .bool b/\Q (.o (.bool (!b)))
theorem ed_andV {t u:TE} {f g:DE} (h:ED K O t f) (h':ED K O u g):ED K O (tAndV t u) (andV f g):=fun σ H ρ Q Qd S hf k=>by
 refine h σ H ρ _ _ S hf fun v H1 r s1 o1 ⟨b,e,q⟩=>?_
 have i:=o1.is S.ok S.p
 rw [e] at i
 cases i
 refine ⟨b,rfl,?_⟩
 cases b with
 | true=>exact h' σ H1 ρ _ _ (S.stp s1) q fun c H2 r s2 o2 q2=>k c H2 r (s1.trans s2) (o2.ahead S.ok S.p s1) q2
 | false=>exact k (.bl false) H1 (.o (.bool false)) s1 (.bool false) q
theorem ed_orV {t u:TE} {f g:DE} (h:ED K O t f) (h':ED K O u g):ED K O (tOrV t u) (orV f g):=fun σ H ρ Q Qd S hf k=>by
 refine h σ H ρ _ _ S hf fun v H1 r s1 o1 ⟨b,e,q⟩=>?_
 have i:=o1.is S.ok S.p
 rw [e] at i
 cases i
 refine ⟨b,rfl,?_⟩
 cases b with
 | false=>exact h' σ H1 ρ _ _ (S.stp s1) q fun c H2 r s2 o2 q2=>k c H2 r (s1.trans s2) (o2.ahead S.ok S.p s1) q2
 | true=>exact k (.bl true) H1 (.o (.bool true)) s1 (.bool true) q
theorem ed_notV {t:TE} {f:DE} (h:ED K O t f):ED K O (tNotV t) (notV f):=fun σ H ρ Q Qd S hf k=>by
 refine h σ H ρ _ _ S hf fun v H1 r s1 o1 ⟨b,e,q⟩=>?_
 have i:=o1.is S.ok S.p
 rw [e] at i
 cases i
 exact ⟨b,rfl,k _ H1 (.o (.bool (!b))) s1 (.bool _) q⟩
def ifD (c:DT) (f g:DE):DE:=fun ρ Q=>c ρ fun b=>if b=true then f ρ Q else g ρ Q
theorem ed_if {c:TT} {t u:TE} {fc:DT} {f g:DE} (hc:TD K O c fc) (h:ED K O t f) (h':ED K O u g):ED K O (tIf c t u) (ifD fc f g):=fun σ H ρ Q Qd S hf k=>by
 refine hc σ H ρ _ _ S hf fun b H1 s1 q=>?_
 cases b with
 | true=>exact h σ H1 ρ _ _ (S.stp s1) q fun v H2 r s2 o2 q2=>k v H2 r (s1.trans s2) (o2.ahead S.ok S.p s1) q2
 | false=>exact h' σ H1 ρ _ _ (S.stp s1) q fun v H2 r s2 o2 q2=>k v H2 r (s1.trans s2) (o2.ahead S.ok S.p s1) q2
def aNil:DA:=fun _ Q=>Q []
def aCons (f:DE) (g:DA):DA:=fun ρ Q=>f ρ fun r=>g ρ fun ds=>Q (r.d::ds)
theorem ad_nil:AD K O tNil aNil:=fun σ H ρ Q Qd S h k=>k [] H [] (.refl _ _) .nil h
theorem ad_cons {t:TE} {u:TA} {f:DE} {g:DA} (h:ED K O t f) (h':AD K O u g):AD K O (tCons t u) (aCons f g):=fun σ H ρ Q Qd S hf k=>by
 refine h σ H ρ _ _ S hf fun v H1 r s1 o1 q=>?_
 refine h' σ H1 ρ _ _ (S.stp s1) q fun vs H2 ds s2 o2 q2=>?_
 exact k (v::vs) H2 (r.d::ds) (s1.trans s2) (.cons (Is.stp s2 (fun _ f=>f) (fun _ f=>f) (o1.is S.ok S.p)) o2) q2
def tupD (g:DA):DE:=fun ρ Q=>g ρ fun ds=>ds.length<=sizeLine/\Q (.o (.tuple ds))
def lstD (g:DA):DE:=fun ρ Q=>g ρ fun ds=>ds.length<=sizeLine/\Q (.n ds)
theorem ed_tup {u:TA} {g:DA} (h:AD K O u g):ED K O (tTup u) (tupD g):=fun σ H ρ Q Qd S hf k=>by
 refine h σ H ρ _ _ S hf fun vs H1 ds s1 o1 ⟨z,q⟩=>⟨by rw [o1.length];exact z,fun p hp=>?_⟩
 have s2:Stp O H1 (upd H1 p (.tup vs)) := .new S.ok hp _
 exact k _ _ (.o (.tuple ds)) (s1.trans s2) (.tuple (.of upd_same) (o1.stp s2 (fun _ f=>f) (fun _ f=>f))) q
theorem ed_lst {u:TA} {g:DA} (h:AD K O u g):ED K O (tLst u) (lstD g):=fun σ H ρ Q Qd S hf k=>by
 refine h σ H ρ _ _ S hf fun vs H1 ds s1 o1 ⟨z,q⟩=>⟨by rw [o1.length];exact z,fun p hp=>?_⟩
 have s2:Stp O H1 (upd H1 p (.lst vs)) := .new S.ok hp _
 have m:¬ O.M p:=fun m=>by obtain ⟨o,z⟩:=S.ok.here H1 p (s1.p S.p) m;rw [hp] at z;cases z
 exact k _ _ (.n ds) (s1.trans s2) ⟨p,vs,rfl,s1.s.free m hp,upd_same,o1.stp s2 (fun _ f=>f) (fun _ f=>f)⟩ q
def CallD (K:PySem.W.Frag) (O:Ob) (r:List V->Hp->VK->Prop) (f:List PyData->(R->Prop)->Prop):Prop :=
 ∀ (H:Hp) (vs:List V) (ds:List PyData) (Q:VK) (Qd:R->Prop),O.Ok->O.P H->IsAll K (unM O) H vs ds->f ds Qd->(∀ v H' r,Stp O H H'->Out K O H H' v r->Qd r->Q v H')->r vs H Q
def callDE (f:List PyData->(R->Prop)->Prop) (g:DA):DE:=fun ρ Q=>g ρ fun ds=>f ds Q
theorem ed_callB {r:List V->Hp->VK->Prop} {u:TA} {f:List PyData->(R->Prop)->Prop} {g:DA} (hr:CallD K O r f) (h:AD K O u g):ED K O (tCB r u) (callDE f g):=fun σ H ρ Q Qd S hf k=>by
 refine h σ H ρ _ _ S hf fun vs H1 ds s1 o1 q=>?_
 exact hr H1 vs ds _ _ S.ok (s1.p S.p) o1 q fun v H2 r s2 o2 q2=>k v H2 r (s1.trans s2) (o2.ahead S.ok S.p s1) q2
def fn1 (F:List PyData->Option R):List PyData->(R->Prop)->Prop:=fun ds Q=>∃ r,F ds=some r/\Q r
end
end L3
namespace L3
open PySem PySem.Spec
open PyProof.Rows hiding St
open L2
abbrev DG:=PyData->DSt->(DSt->Prop)->Prop
def gN (i:Nat):DG:=fun d ρ Q=>Q (ρ.set i (some (.im d)))
def gTD:List Nat->List PyData->DSt->(DSt->Prop)->Prop
 | [],[],ρ,Q=>Q ρ
 | i::is,d::ds,ρ,Q=>gTD is ds (ρ.set i (some (.im d))) Q
 | _,_,_,_=>False
def gT (is:List Nat):DG:=fun d ρ Q=>∃ ds,d = .tuple ds/\gTD is ds ρ Q
def GS (K:PySem.W.Frag) (O:Ob) (t:TG) (g:DG):Prop :=
 ∀ (σ:St) (H:Hp) (ρ:DSt) (v:V) (d:PyData) (Q:St->Hp->Prop) (Qd:DSt->Prop),Seen K O H σ ρ->Is K (unM O) H v d->g d ρ Qd->(∀ σ' ρ',Seen K O H σ' ρ'->Qd ρ'->Q σ' H)->t v σ H Q
section
variable {K : PySem.W.Frag} {O : Ob}
theorem Seen.set {H:Hp} {σ:St} {ρ:DSt} {i:Nat} {v:V} {r:DV} (S:Seen K O H σ ρ) (h:SeenV K O H v r):Seen K O H (σ.set i (some v)) (ρ.set i (some r)):=by
 have hl:=S.len
 refine ⟨S.ok,S.p,fun j r' e=>?_,by rw [List.length_set,List.length_set];exact S.len⟩
 by_cases hj:i=j
 ·subst hj
  have hi:i<ρ.length:=by
   rcases Nat.lt_or_ge i ρ.length with z | z
   ·exact z
   ·rw [List.getElem?_eq_none (by simpa using z)] at e;cases e
  rw [List.getElem?_set_self hi] at e
  cases e
  exact ⟨v,List.getElem?_set_self (by omega),h⟩
 ·rw [List.getElem?_set_ne hj] at e
  obtain ⟨w,h1,h2⟩:=S.at_ j r' e
  exact ⟨w,by rw [List.getElem?_set_ne hj];exact h1,h2⟩
theorem gs_name {i:Nat}:GS K O (gName i) (gN i):=fun σ H ρ v d Q Qd S i h k=>k _ _ (S.set (r := .im d) i) h
def GSs (K:PySem.W.Frag) (O:Ob) (t:TGs) (is:List Nat):Prop :=
 ∀ (σ:St) (H:Hp) (ρ:DSt) (vs:List V) (ds:List PyData) (Q:St->Hp->Prop) (Qd:DSt->Prop),Seen K O H σ ρ->IsAll K (unM O) H vs ds->gTD is ds ρ Qd->(∀ σ' ρ',Seen K O H σ' ρ'->Qd ρ'->Q σ' H)->t vs σ H Q
theorem gss_nil:GSs K O gNil []:=fun σ H ρ vs ds Q Qd S i h k=>by
 cases i with
 | nil=>exact ⟨rfl,k σ ρ S h⟩
 | cons _ _=>exact h.elim
theorem gss_cons {i:Nat} {is:List Nat} {t:TGs} (ht:GSs K O t is):GSs K O (gCons (gName i) t) (i::is):=fun σ H ρ vs ds Q Qd S h q k=>by
 cases h with
 | nil=>exact q.elim
 | cons h1 h2=>exact ⟨_,_,rfl,ht _ H _ _ _ _ _ (S.set (r := .im _) h1) h2 q k⟩
theorem gTD_len:∀ {is:List Nat} {ds:List PyData} {ρ:DSt} {Q:DSt->Prop},gTD is ds ρ Q->ds.length=is.length
 | [],[],_,_,_=>rfl
 | [],_::_,_,_,h=>h.elim
 | _::_,[],_,_,h=>h.elim
 | _::is,_::ds,ρ,Q,h=>by
   have e:=gTD_len (is:=is) (ds:=ds) (Q:=Q) h
   rw [List.length_cons,List.length_cons,e]
theorem gs_tup {is:List Nat} {t:TGs} {n:Nat} (hn:is.length=n) (ht:GSs K O t is):GS K O (gTup K n t) (gT is):=fun σ H ρ v d Q Qd S i h k=>by
 obtain ⟨ds,rfl,h⟩:=h
 cases i with
 | tuple q r=>exact ⟨_,_,rfl,q,by rw [r.length,gTD_len h];exact hn,ht σ H ρ _ ds Q Qd S r h k⟩
structure Walk (K:PySem.W.Frag) (O:Ob) (H H1:Hp) (J:It) (ds:List PyData) (B:Addr->Prop):Prop where
 st:Stp O H H1
 hb:∀ a,B a->¬ O.M a/\∃ o,H1 a=some o
 stop:∀ H2 i,(∀ a o,B a->H1 a=some o->H2 a=some o)->TupStay H1 H2->ds.length<=i->J.stop i H2
 item:∀ H2 i d,(∀ a o,B a->H1 a=some o->H2 a=some o)->TupStay H1 H2->ds[i]? = some d->(flat d=true\/∀ a o,H1 a=some o->¬ O.M a->H2 a=some o) ->
  J.go i H2/\∀ x H3,J.yld i H2 x H3->Same H2 H3/\Is K (fun a=>¬ O.M a/\(flat d=true\/∃ o,H1 a=some o)) H3 x d
abbrev DI:=DSt->(Bool->List PyData->Prop)->Prop
def SrcS (K:PySem.W.Frag) (O:Ob) (wi:TI) (f:DI):Prop :=
 ∀ (σ:St) (H:Hp) (ρ:DSt) (R:It->Hp->Prop) (Qd:Bool->List PyData->Prop),Seen K O H σ ρ->f ρ Qd ->
   (∀ (J:It) (H1:Hp) (ds:List PyData) (B:Addr->Prop) (fr:Bool),Walk K O H H1 J ds B->(fr=true->∀ a,B a->H a=none)->Qd fr ds->R J H1)->wi σ H R
end
def compGo (h:Nat) (g:DG) (ft:DT) (fe:DE) (ρ:DSt) (Q:List PyData->Prop):List PyData->List PyData->Prop
 | [],acc=>Q acc
 | d::ds,acc=>g d (List.replicate h none++ρ) fun ρ2=>ft ρ2 fun b=>if b=true then fe ρ2 fun r=>acc.length<sizeLine/\compGo h g ft fe ρ Q ds (acc ++ [r.d]) else compGo h g ft fe ρ Q ds acc
def compD (h:Nat) (f:DI) (g:DG) (ft:DT) (fe:DE):DE:=fun ρ Q=>f ρ fun _ ds=>compGo h g ft fe ρ (fun es=>Q (.n es)) ds []
section
variable {K : PySem.W.Frag} {O : Ob}
theorem seen_pad {H:Hp} {σ:St} {ρ:DSt} (S:Seen K O H σ ρ) (h:Nat):Seen K O H (List.replicate h none++σ) (List.replicate h none++ρ):=by
 refine ⟨S.ok,S.p,fun i r e=>?_,by rw [List.length_append,List.length_append,List.length_replicate,List.length_replicate,S.len]⟩
 by_cases hi:i<h
 ·rw [List.getElem?_append_left (by simpa using hi),List.getElem?_replicate,if_pos hi] at e
  cases e
 ·rw [List.getElem?_append_right (by simpa using Nat.le_of_not_lt hi),List.length_replicate] at e
  obtain ⟨v,h1,h2⟩:=S.at_ _ r e
  exact ⟨v,by rw [List.getElem?_append_right (by simpa using Nat.le_of_not_lt hi),List.length_replicate];exact h1,h2⟩
theorem seen_plus {H:Hp} {σ:St} {ρ:DSt} {D:Addr} {xs:List V} (S:Seen K O H σ ρ) (hD:H D=none):Seen K (O.plus D (.lst xs)) (upd H D (.lst xs)) σ ρ:=by
 have gr:Same H (upd H D (.lst xs)):=same_new hD _
 refine ⟨S.ok.plus D xs,⟨S.ok.grow _ _ gr S.p,upd_same⟩,fun i r e=>?_,S.len⟩
 obtain ⟨v,h1,h2⟩:=S.at_ i r e
 have go:∀ d,Is K (unM O) H v d->Is K (unM (O.plus D (.lst xs))) (upd H D (.lst xs)) v d:=fun d z =>
  z.to (fun a ys f q=>⟨fun m=>(by
   rcases m with m | rfl
   ·exact f m
   ·rw [hD] at q;cases q),gr _ _ q⟩) fun a ys q=>SqT.stay (h:=q) fun b u _ hb=>gr b u hb
 refine ⟨v,h1,?_⟩
 cases r with
 | im d=>exact go d h2
 | own ds=>exact go _ h2
 | ob=>exact h2
 | scr n=>exact IsS.to (fun a u f q=>⟨fun m=>(by
  rcases m with m | rfl
  ·exact f m
  ·rw [hD] at q;cases q),gr _ _ q⟩) h2
 | dct ks =>
   obtain ⟨a,n,h2⟩:=h2
   refine ⟨a,fun m=>?_,h2.to fun u q=>gr _ _ q⟩
   rcases m with m | rfl
   ·exact n m
   ·obtain ⟨_,kvs,q,_⟩:=h2
    rw [hD] at q
    cases q
 | gen f ds =>
   obtain ⟨a,ys,e,n,q,z⟩:=h2
   refine ⟨a,ys,e,fun m=>?_,gr _ _ q,z.to (fun a ys f q=>⟨fun m=>(by
    rcases m with m | rfl
    ·exact f m
    ·rw [hD] at q;cases q),gr _ _ q⟩) fun a ys q=>SqT.stay (h:=q) fun b u _ hb=>gr b u hb⟩
   rcases m with m | rfl
   ·exact n m
   ·rw [hD] at q;cases q
 | rd f ds =>
   obtain ⟨a,ys,e,n,q,z⟩:=h2
   refine ⟨a,ys,e,fun m=>?_,gr _ _ q,z.to (fun a ys f q=>⟨fun m=>(by
    rcases m with m | rfl
    ·exact f m
    ·rw [hD] at q;cases q),gr _ _ q⟩) fun a ys q=>SqT.stay (h:=q) fun b u _ hb=>gr b u hb⟩
   rcases m with m | rfl
   ·exact n m
   ·rw [hD] at q;cases q
 | exc C ns ds =>
   obtain ⟨ys,e,z⟩:=h2
   have mv:∀ a u,unM O a->H a=some u->unM (O.plus D (.lst xs)) a/\upd H D (.lst xs) a=some u:=fun a u f q=>⟨fun m=>(by
    rcases m with m | rfl
    ·exact f m
    ·rw [hD] at q;cases q),gr _ _ q⟩
   exact ⟨ys,e.to mv,z.to (fun a ys f q=>mv a _ f q) fun a ys q=>SqT.stay (h:=q) fun b u _ hb=>gr b u hb⟩
 | thg T =>
   obtain ⟨W,hw,z⟩:=h2
   exact ⟨W,fun a w=>⟨fun m=>(by
    obtain ⟨n,o,q⟩:=hw a w
    rcases m with m | rfl
    ·exact n m
    ·rw [hD] at q;cases q),let ⟨o,q⟩:=(hw a w).2; ⟨o,gr _ _ q⟩⟩,T.to (fun a u f q=>⟨fun m=>(by
    rcases m with m | rfl
    ·exact f m
    ·rw [hD] at q;cases q),gr _ _ q⟩) (fun a u w q=>⟨w,gr _ _ q⟩) (fun b u _ hb=>gr b u hb) z⟩
 | thr T =>
   obtain ⟨W,hw,z⟩:=h2
   exact ⟨W,fun a w=>⟨fun m=>(by
    obtain ⟨n,o,q⟩:=hw a w
    rcases m with m | rfl
    ·exact n m
    ·rw [hD] at q;cases q),let ⟨o,q⟩:=(hw a w).2; ⟨o,gr _ _ q⟩⟩,T.to (fun a u f q=>⟨fun m=>(by
    rcases m with m | rfl
    ·exact f m
    ·rw [hD] at q;cases q),gr _ _ q⟩) (fun a u w q=>⟨w,gr _ _ q⟩) (fun b u _ hb=>gr b u hb) z⟩
theorem ed_comp {h:Nat} {wi:TI} {tg:TG} {tf:TT} {te:TE} {f:DI} {g:DG} {ft:DT} {fe:DE} (hs:SrcS K O wi f) (hg:∀ O':Ob,GS K O' tg g)
 (hf:∀ (D:Addr) (xs:List V),¬ O.M D->TD K (O.plus D (.lst xs)) tf ft) (he:∀ (D:Addr) (xs:List V),¬ O.M D->ED K (O.plus D (.lst xs)) te fe):ED K O (tComp h wi tg tf te) (compD h f g ft fe):=by
 intro σ H ρ Q Qd S hq k
 refine hs σ H ρ _ _ S hq fun J H1 ds B fr W _ hgo D hD=>?_
 have S1:=S.stp W.st
 have nM:¬ O.M D:=fun m=>by obtain ⟨o,z⟩:=S.ok.here H1 D S1.p m;rw [hD] at z;cases z
 have aD:∀ a o,H1 a=some o->a ≠ D:=fun a o e z=>by rw [z,hD] at e;cases e
 refine ⟨fun i m ys H2=>m=ds.length - i/\i<=ds.length/\H2 D=some (.lst ys)/\(∀ a o,H1 a=some o->¬ O.M a->H2 a=some o)/\TupStay H1 H2/\Seen K (O.plus D (.lst ys)) H2 σ ρ /\
  ∃ acc,IsAll K (fun a=>¬ (O.M a\/a=D)) H2 ys acc/\compGo h g ft fe ρ (fun es=>Qd (.n es)) (ds.drop i) acc,⟨ds.length,rfl,Nat.zero_le _,upd_same,fun a o e _=>by rw [upd_ne (aD a o e)];exact e,fun a u _ e=>by rw [upd_ne (aD a u e)];exact e,seen_plus S1 hD,[],.nil,by simpa using hgo⟩,?_⟩
 rintro i m ys H2 ⟨rfl,hi,hDy,kp,tst,S2,acc,hacc,go⟩
 refine ⟨hDy,?_⟩
 have kB:∀ a o,B a->H1 a=some o->H2 a=some o:=fun a o b e=>kp a o e (W.hb a b).1
 by_cases hlt:i<ds.length
 ·right
  have hd:ds[i]? = some ds[i]:=List.getElem?_eq_getElem hlt
  rw [List.drop_eq_getElem_cons hlt] at go
  obtain ⟨hgo1,hy⟩:=W.item H2 i ds[i] kB tst hd (.inr kp)
  refine ⟨hgo1,fun x H3 y=>?_⟩
  obtain ⟨sm,ix⟩:=hy x H3 y
  have st3:Stp (O.plus D (.lst ys)) H2 H3 := .same S2.ok sm
  have S3:=S2.stp st3
  have ix':Is K (unM (O.plus D (.lst ys))) H3 x ds[i]:=by
   by_cases hfl:flat ds[i]=true
   ·exact Is.flat (TupStay.refl H3) ix hfl
   ·exact ix.weak fun a ha mm=>by
     rcases mm with mm | mm
     ·exact ha.1 mm
     ·rcases ha.2 with z | ⟨o,z⟩
      ·exact hfl z
      ·exact aD a o z mm
  refine hg _ _ H3 _ x ds[i] _ _ (seen_pad S3 h) ix' go fun σ2 ρ2 Sg q=>?_
  refine hf D ys nM σ2 H3 ρ2 _ _ Sg q fun b H4 st4 q4=>?_
  have st34:=st3.trans st4
  have acc4:∀ {H':Hp},Stp (O.plus D (.lst ys)) H2 H'->IsAll K (fun a=>¬ (O.M a\/a=D)) H' ys acc:=fun st=>hacc.stp st (fun _ z=>z) (fun _ z=>z)
  cases b with
  | false =>
    refine ⟨ds.length - (i+1),by omega,rfl,hlt,st34.s D _ hDy |> fun z=>(st34.p S2.p).2,fun a o e n=>?_,fun a u hu e=>st34.t a u hu (tst a u hu e),S2.stp st34,acc,acc4 st34,q4⟩
    exact st34.s a o (kp a o e n) fun mm=>by
     rcases mm with mm | mm
     ·exact n mm
     ·exact aD a o e mm
  | true =>
    refine he D ys nM σ2 H4 ρ2 _ _ (Sg.stp st4) q4 fun yv H5 r st5 o5 ⟨hz,q5⟩=>?_
    have st25:=st34.trans st5
    have S5:=S2.stp st25
    have hD5:H5 D=some (.lst ys):=(st25.p S2.p).2
    have iy:=o5.is (Sg.stp st4).ok (Sg.stp st4).p
    have a5:=acc4 st25
    refine ⟨hD5,by rw [hacc.length];exact hz,ds.length - (i+1),by omega,rfl,hlt,upd_same,fun a o e n=>?_,fun a u hu e=>?_,?_,acc ++ [r.d],?_,q5⟩
    ·rw [upd_ne (aD a o e)]
     exact st25.s a o (kp a o e n) fun mm=>by
      rcases mm with mm | mm
      ·exact n mm
      ·exact aD a o e mm
    ·rw [upd_ne (aD a u e)]
     exact st25.t a u hu (tst a u hu e)
    ·have p5:O.P (upd H5 D (.lst (ys ++ [yv]))):=S.ok.loc H5 _ (fun a m=>upd_ne fun z=>nM (z ▸ m)) S5.p.1
     refine ⟨S.ok.plus D _,⟨p5,upd_same⟩,fun j r' e=>?_,S5.len⟩
     obtain ⟨v',h1,h2⟩:=S5.at_ j r' e
     have go:∀ d,Is K (unM (O.plus D (.lst ys))) H5 v' d->Is K (unM (O.plus D (.lst (ys ++ [yv])))) (upd H5 D (.lst (ys ++ [yv]))) v' d:=fun d z =>
      z.to (fun a xs fa qa=>⟨fa,by rw [upd_ne fun z=>fa (.inr z)];exact qa⟩) fun a xs qa=>SqT.stay (h:=qa) fun b u hu hb=>by
       rw [upd_ne fun z=>?_]
       ·exact hb
       ·obtain ⟨us,e1 | ⟨o',e1⟩⟩:=hu <;> (rw [z,hD5] at hb;cases hb;cases e1)
     refine ⟨v',h1,?_⟩
     cases r' with
     | im d=>exact go d h2
     | own es=>exact go _ h2
     | ob=>exact h2
     | scr n=>exact IsS.to (fun a u fa qa=>⟨fa,by rw [upd_ne fun z=>fa (.inr z)];exact qa⟩) h2
     | dct ks=>obtain ⟨a,fa,h2⟩:=h2;exact ⟨a,fa,h2.to fun u qa=>by rw [upd_ne fun z=>fa (.inr z)];exact qa⟩
     | gen f ds =>
       obtain ⟨a,xs,e,fa,q,z⟩:=h2
       refine ⟨a,xs,e,fa,by rw [upd_ne fun z=>fa (.inr z)];exact q,z.to (fun a xs fa qa=>⟨fa,by rw [upd_ne fun z=>fa (.inr z)];exact qa⟩) fun a xs qa=>SqT.stay (h:=qa) fun b u hu hb=>?_⟩
       rw [upd_ne fun z=>?_]
       ·exact hb
       ·obtain ⟨us,e1 | ⟨o',e1⟩⟩:=hu <;> (rw [z,hD5] at hb;cases hb;cases e1)
     | rd f ds =>
       obtain ⟨a,xs,e,fa,q,z⟩:=h2
       refine ⟨a,xs,e,fa,by rw [upd_ne fun z=>fa (.inr z)];exact q,z.to (fun a xs fa qa=>⟨fa,by rw [upd_ne fun z=>fa (.inr z)];exact qa⟩) fun a xs qa=>SqT.stay (h:=qa) fun b u hu hb=>?_⟩
       rw [upd_ne fun z=>?_]
       ·exact hb
       ·obtain ⟨us,e1 | ⟨o',e1⟩⟩:=hu <;> (rw [z,hD5] at hb;cases hb;cases e1)
     | exc C ns ds =>
       obtain ⟨xs,e,z⟩:=h2
       have mv:∀ a u,unM (O.plus D (.lst ys)) a->H5 a=some u->unM (O.plus D (.lst (ys ++ [yv]))) a/\upd H5 D (.lst (ys ++ [yv])) a=some u:=fun a u fa qa=>⟨fa,by rw [upd_ne fun z=>fa (.inr z)];exact qa⟩
       refine ⟨xs,e.to mv,z.to (fun a xs fa qa=>mv a _ fa qa) fun a xs qa=>SqT.stay (h:=qa) fun b u hu hb=>?_⟩
       rw [upd_ne fun z=>?_]
       ·exact hb
       ·obtain ⟨us,e1 | ⟨o',e1⟩⟩:=hu <;> (rw [z,hD5] at hb;cases hb;cases e1)
     | thg T =>
       obtain ⟨W,hw,z⟩:=h2
       refine ⟨W,fun a w=>⟨(hw a w).1,let ⟨o,q⟩:=(hw a w).2; ⟨o,by rw [upd_ne fun z=>(hw a w).1 (.inr z)];exact q⟩⟩,T.to (fun a u fa qa=>⟨fa,by rw [upd_ne fun z=>fa (.inr z)];exact qa⟩) (fun a u w q=>⟨w,by rw [upd_ne fun z=>(hw a w).1 (.inr z)];exact q⟩) (fun b u hu hb=>?_) z⟩
       rw [upd_ne fun z=>?_]
       ·exact hb
       ·obtain ⟨us,e1 | ⟨o',e1⟩⟩:=hu <;> (rw [z,hD5] at hb;cases hb;cases e1)
     | thr T =>
       obtain ⟨W,hw,z⟩:=h2
       refine ⟨W,fun a w=>⟨(hw a w).1,let ⟨o,q⟩:=(hw a w).2; ⟨o,by rw [upd_ne fun z=>(hw a w).1 (.inr z)];exact q⟩⟩,T.to (fun a u fa qa=>⟨fa,by rw [upd_ne fun z=>fa (.inr z)];exact qa⟩) (fun a u w q=>⟨w,by rw [upd_ne fun z=>(hw a w).1 (.inr z)];exact q⟩) (fun b u hu hb=>?_) z⟩
       rw [upd_ne fun z=>?_]
       ·exact hb
       ·obtain ⟨us,e1 | ⟨o',e1⟩⟩:=hu <;> (rw [z,hD5] at hb;cases hb;cases e1)
    ·have mv:∀ {vs es},IsAll K (fun a=>¬ (O.M a\/a=D)) H5 vs es->IsAll K (fun a=>¬ (O.M a\/a=D)) (upd H5 D (.lst (ys ++ [yv]))) vs es:=fun z =>
      z.to (fun a xs fa qa=>⟨fa,by rw [upd_ne fun z=>fa (.inr z)];exact qa⟩) fun a xs qa=>SqT.stay (h:=qa) fun b u hu hb=>by
       rw [upd_ne fun z=>?_]
       ·exact hb
       ·obtain ⟨us,e1 | ⟨o',e1⟩⟩:=hu <;> (rw [z,hD5] at hb;cases hb;cases e1)
     exact mv (a5.snoc iy)
 ·left
  have e:i=ds.length:=by omega
  subst e
  rw [List.drop_length] at go
  refine ⟨W.stop H2 _ kB tst (Nat.le_refl _),k _ H2 (.n acc) ?_ ⟨D,ys,rfl,W.st.s.free nM hD,hDy,hacc.weak fun a z m=>z (.inl m)⟩ go⟩
  refine W.st.trans ⟨fun a o e n=>kp a o e n,fun _=>S2.p.1,tst⟩
end
end L3
namespace L3
open PySem PySem.Spec
open PyProof.Rows hiding St
open L2
section
variable {K : PySem.W.Frag} {O : Ob}
theorem item_at {H1 H2:Hp} {xs:List V} {ds:List PyData} {i:Nat} {d:PyData} (h:IsAll K (unM O) H1 xs ds) (hd:ds[i]? = some d) (t:TupStay H1 H2) (c:flat d=true\/∀ a o,H1 a=some o->¬ O.M a->H2 a=some o) :
 ∃ v,xs[i]? = some v/\Is K (fun a=>¬ O.M a/\(flat d=true\/∃ o,H1 a=some o)) H2 v d:=by
 obtain ⟨v,hv,iv⟩:=h.get hd
 refine ⟨v,hv,?_⟩
 rcases c with c | c
 ·exact Is.flat t iv c
 ·exact iv.to (fun a ys f q=>⟨⟨f,.inr ⟨_,q⟩⟩,c a _ q f⟩) fun a ys q=>SqT.stay (h:=q) t
def R.isN:R->Bool
 | .n _=>true
 | .o _=>false
def srcL (f:DE):DI:=fun ρ Q=>f ρ fun r=>∃ ds,r.d = .list ds/\Q r.isN ds
theorem src_list {t:TE} {f:DE} (h:ED K O t f):SrcS K O (iList K t) (srcL f):=fun σ H ρ R Qd S hf k=>by
 refine h σ H ρ _ _ S hf fun v H1 r st o1 ⟨ds,e,q⟩=>?_
 have i1:=o1.is S.ok S.p
 rw [e] at i1
 cases i1 with
 | list f0 ha hs =>
   rename_i a xs
   refine ⟨a,rfl,⟨xs,.of ha⟩,k (Itl K a) H1 ds (fun b=>b=a) r.isN ⟨st,fun b hb=>by subst hb;exact ⟨f0,_,ha⟩,fun H2 i kb _ hi=>?_,fun H2 i d kb t2 hd c=>?_⟩ (fun z b hb=>?_) q⟩
   ·exact ⟨xs,.of (kb a _ rfl ha),by rw [hs.length];exact hi⟩
   ·obtain ⟨w,hw,iw⟩:=item_at (O:=O) hs hd t2 c
    have q2:SqL K H2 a xs := .of (kb a _ rfl ha)
    refine ⟨⟨xs,w,q2,hw⟩,fun x H3 ⟨e3,y⟩=>?_⟩
    subst e3
    have:=y xs q2
    rw [hw] at this
    cases this
    exact ⟨Same.refl _,iw⟩
   ·subst hb
    cases r with
    | o d=>cases z
    | n es =>
      obtain ⟨a',xs',e',hn,_⟩:=o1
      cases e'
      exact hn
def srcT (f:DE):DI:=fun ρ Q=>f ρ fun r=>∃ ds,r.d = .tuple ds/\Q true ds
theorem src_tup {t:TE} {f:DE} (h:ED K O t f):SrcS K O (iTup K t) (srcT f):=fun σ H ρ R Qd S hf k=>by
 refine h σ H ρ _ _ S hf fun v H1 r st o1 ⟨ds,e,q⟩=>?_
 have i1:=o1.is S.ok S.p
 rw [e] at i1
 cases i1 with
 | tuple ha hs =>
   rename_i a xs
   refine ⟨a,rfl,⟨xs,ha⟩,k (Itt K a) H1 ds (fun _=>False) true ⟨st,fun b hb=>hb.elim,fun H2 i kb t2 hi=>?_,fun H2 i d kb t2 hd c=>?_⟩ (fun z b hb=>hb.elim) q⟩
   ·exact ⟨xs,SqT.stay t2 ha,by rw [hs.length];exact hi⟩
   ·obtain ⟨w,hw,iw⟩:=item_at (O:=O) hs hd t2 c
    have q2:SqT K H2 a xs:=SqT.stay t2 ha
    refine ⟨⟨xs,w,q2,hw⟩,fun x H3 ⟨e3,y⟩=>?_⟩
    subst e3
    have:=y xs q2
    rw [hw] at this
    cases this
    exact ⟨Same.refl _,iw⟩
def numsD (lo:Int) (n:Nat):List PyData:=(List.range n).map fun k => .int (lo+(k:Nat))
theorem numsD_get {lo:Int} {n i:Nat} {d:PyData} (h:(numsD lo n)[i]? = some d):i<n/\d = .int (lo+(i:Nat)):=by
 unfold numsD at h
 rw [List.getElem?_map] at h
 by_cases hi:i<n
 ·rw [List.getElem?_range hi] at h
  cases h
  exact ⟨hi,rfl⟩
 ·rw [List.getElem?_eq_none (by simpa using hi)] at h
  cases h
theorem walk_ints {H H1:Hp} (st:Stp O H H1) (lo:Int) (n:Nat):Walk K O H H1 (Itr lo n) (numsD lo n) (fun _=>False) :=
 ⟨st,fun b hb=>hb.elim,fun H2 i _ _ hi=>(show n<=i by simpa [numsD] using hi),fun H2 i d _ t2 hd c=>by
  obtain ⟨hi,rfl⟩:=numsD_get hd
  refine ⟨hi,fun x H3 ⟨e3,y⟩=>?_⟩
  subst e3 y
  exact ⟨Same.refl _,.int _⟩⟩
def srcR1 (g:DA):DI:=fun ρ Q=>g ρ fun ds=>∃ j:Int,ds = [.int j]/\-(2 ^ 62)<=j/\j<2 ^ 62/\Q true (numsD 0 j.toNat)
theorem src_rng1 {t:TA} {g:DA} (h:AD K O t g):SrcS K O (iRng1 t) (srcR1 g):=fun σ H ρ R Qd S hf k=>by
 refine h σ H ρ _ _ S hf fun vs H1 ds st is ⟨j,e,b1,b2,q⟩=>?_
 subst e
 cases is with
 | cons i0 is =>
   cases is
   cases i0
   exact ⟨j,rfl,b1,b2,k _ H1 _ _ true (walk_ints st 0 j.toNat) (fun _ _ hb=>hb.elim) q⟩
def srcR2 (g:DA):DI:=fun ρ Q=>g ρ fun ds=>∃ i j:Int,ds = [.int i,.int j]/\(-(2 ^ 62)<=i/\i<2 ^ 62/\-(2 ^ 62)<=j/\j<2 ^ 62)/\Q true (numsD i (j - i).toNat)
theorem src_rng2 {t:TA} {g:DA} (h:AD K O t g):SrcS K O (iRng2 t) (srcR2 g):=fun σ H ρ R Qd S hf k=>by
 refine h σ H ρ _ _ S hf fun vs H1 ds st is ⟨i,j,e,b,q⟩=>?_
 subst e
 cases is with
 | cons i0 is =>
   cases is with
   | cons i1 is =>
     cases is
     cases i0
     cases i1
     exact ⟨i,j,rfl,b,k _ H1 _ _ true (walk_ints st i (j - i).toNat) (fun _ _ hb=>hb.elim) q⟩
end
def sg (c:Nat):Str:=⟨#[c]⟩
def Its (x:Str):It:=⟨fun i _=>i<x.cps.size,fun i H v H'=>H'=H/\∃ c,x.cps[i]? = some c/\v = .str (sg c),fun i _=>x.cps.size<=i⟩
theorem turn_str {P:Program} {w:World} {K:PySem.W.Frag} {tg:Expr} {it:Addr} {x:Str} {t:Tok} {ty:String} (hty:["enumerate", "zip", "dict_itemiterator", "dict_reverseitemiterator", "odict_iterator", "itertools.zip_longest", "itertools.pairwise"].contains ty=false)
 (W:∀ A':Around,A'.handled=none->Walks P w A' it [it] [it] x.cps.size (SignAt x) (fun i h=>h.IsStrIter it ty x t i))
 (hself:∀ (A:Around) (i:Nat) (s:Shared) (Q:Value->Shared->Prop) (E:Value->Shared->Prop),s.heap.IsStrIter it ty x t i->Q (.ref it) s->wpAny (model P w) A (pyIter (.ref it)) Q E s) :
 Turn P w K tg (Its x) [it] it (fun i h=>i<=x.cps.size/\h.IsStrIter it ty x t i) where
 mem:=by simp
 obj:=fun i h st b hb=>by
  have e:b=it:=by simpa using hb
  subst e
  obtain ⟨_,o,e,c,d⟩:=st
  exact ⟨o,e,fun v z=>by rw [d] at z;cases z⟩
 keep:=fun i h h' st k=>⟨st.1,by
  obtain ⟨_,o,e,c⟩:=st
  exact ⟨o,k it (by simp) o e,c⟩⟩
 item:=by
  intro X hP hw hK hc i pins s σ H E I hf st hg
  subst hP hw hK
  obtain ⟨f0,f1,f2,f3,f4,f5⟩:=hf it (by simp)
  refine (W X.A (I.ok.hd hc)).item i s _ _ hg st.2 fun v h' tk hv st' kk=>?_
  obtain ⟨c,u,hcx,rfl⟩:=hv
  have I1:Inv X pins σ H { s with heap:=h',toks:=tk }:=I.turned (fun b o hb e=>kk b o (by simpa using hb) e) f0 f1 f3 f4 f5
  obtain ⟨o,e,hcl,hdt⟩:=id st'
  exact ⟨_,rfl,go_of (s:={ s with heap:=h',toks:=tk }) e hcl hdt hty ⟨.str (sg c),H,I1,⟨u,rfl⟩,⟨rfl,c,hcx,rfl⟩,⟨hg,st'⟩,fun b hb=>(hf b hb).1⟩⟩
 done:=by
  intro X hP hw hK hc i pins s σ H E I hf st hg
  subst hP hw hK
  obtain ⟨f0,f1,f2,f3,f4,f5⟩:=hf it (by simp)
  have hi:i=x.cps.size:=Nat.le_antisymm st.1 hg
  subst hi
  exact (W X.A (I.ok.hd hc)).done s _ _ st.2 fun h' tk kk=>⟨rfl,I.turned (fun b o hb e=>kk b o (by simpa using hb) e) f0 f1 f3 f4 f5⟩
 self:=fun A i s Q E st h=>hself A i s Q E st.2 h
def iStr (t:TE):TI:=fun σ H R=>t σ H fun v H1=>∃ x,v = .str x/\R (Its x) H1
theorem pi_str {X:Cx} {tg l:Expr} {tl:TE} (hl:PE X l tl):PI X tg l (iStr tl):=by
 intro pins s σ H R I h
 refine thn (hl pins s σ H _ I h) fun v s1 ⟨y,H1,I1,r1,q1⟩=>?_
 obtain ⟨x,e,q⟩:=q1
 subst e
 obtain ⟨t,rfl⟩:=r1
 have fin:∀ (o:Obj) (T:Nat->Heap->Prop),Turn X.prog X.w X.K tg (Its x) [s1.heap.objs.size] s1.heap.objs.size T->T 0 (s1.heap.push o)->PIE X pins σ tg R (.ref s1.heap.objs.size) { s1 with heap:=s1.heap.push o }:=fun o T hT h0=>by
  refine ⟨s1.heap.objs.size,[s1.heap.objs.size],T,Its x,H1,rfl,I1.kept (t':=s1.toks) fun b o e=>Heap.get?_push_of_some _ e,hT,h0,fun b hb=>?_,q⟩
  have e:b=s1.heap.objs.size:=by simpa using hb
  subst e
  exact I1.fpOk (Nat.le_refl _) (I1.hok.fresh (Nat.le_refl _))
 cases ha:x.cps.all (· < 128)
 ·exact wpAny_pyIter_wide ha (fin _ _ (turn_str (by decide) (fun A' hA=>Walks.strWide hA _ x t) fun _ _ _ _ _ st h=>wpAny_pyIter_striter_wide st h) ⟨Nat.zero_le _,_,Heap.get?_push_size _ rfl,rfl,rfl⟩)
 ·exact wpAny_pyIter_ascii ha (fin _ _ (turn_str (by decide) (fun A' hA=>Walks.strAscii hA _ x t) fun _ _ _ _ _ st h=>wpAny_pyIter_striter_ascii st h) ⟨Nat.zero_le _,_,Heap.get?_push_size _ rfl,rfl,rfl⟩)
def sgs (x:Str):List PyData:=x.cps.toList.map fun c => .str (sg c)
def srcS (f:DE):DI:=fun ρ Q=>f ρ fun r=>∃ x,r.d = .str x/\Q true (sgs x)
theorem src_str {K:PySem.W.Frag} {O:Ob} {t:TE} {f:DE} (h:ED K O t f):SrcS K O (iStr t) (srcS f):=fun σ H ρ R Qd S hf k=>by
 refine h σ H ρ _ _ S hf fun v H1 r st o1 ⟨x,e,q⟩=>?_
 have i1:=o1.is S.ok S.p
 rw [e] at i1
 cases i1
 refine ⟨x,rfl,k (Its x) H1 (sgs x) (fun _=>False) true ⟨st,fun b hb=>hb.elim,fun H2 i _ _ hi=>(show x.cps.size<=i by simpa [sgs] using hi),fun H2 i d _ t2 hd c=>?_⟩ (fun _ _ hb=>hb.elim) q⟩
 unfold sgs at hd
 rw [List.getElem?_map] at hd
 obtain ⟨n,hn,rfl⟩:=Option.map_eq_some_iff.mp hd
 have hn':x.cps[i]? = some n:=by simpa using hn
 have hi:i<x.cps.size:=by
  obtain ⟨z,_⟩:=Array.getElem?_eq_some_iff.mp hn'
  exact z
 refine ⟨hi,fun y H3 ⟨e3,n',h1,h2⟩=>?_⟩
 subst e3 h2
 rw [hn'] at h1
 cases h1
 exact ⟨Same.refl _,.str _⟩
structure DEnds where
 nx:DSt->Prop
 rt:R->Prop
 bk:DSt->Prop:=fun _=>False
 ct:DSt->Prop:=fun _=>False
abbrev DS:=DEnds->DSt->Prop
def unO (O:Ob) (A:Nat->Addr->Prop):Addr->Prop:=fun a=>¬ O.M a/\∀ j,¬ A j a
def OwnO (o:HO):Prop:=∀ us,o ≠ .tup us/\∀ o',o ≠ .frz o' (.tup us)
theorem OwnO.lst {xs:List V}:OwnO (.lst xs):=fun _=>⟨fun z=>(nomatch z),fun _ z=>(nomatch z)⟩
def RepV (K:PySem.W.Frag) (O:Ob) (A:Nat->Addr->Prop) (H:Hp) (i:Nat) (v:V):DV->Prop
 | .im d=>Is K (unO O A) H v d
 | .own ds=>∃ a xs,v = .ref a/\A i a/\H a=some (.lst xs)/\IsAll K (unO O A) H xs ds
 | .ob=>v=O.v
 | .scr n=>IsS K (unO O A) H v n
 | .dct ks=>∃ a,A i a/\DkAt H v a ks
 | .gen f ds=>∃ a xs,v = .ref a/\A i a/\H a=some (f a xs)/\IsAll K (unO O A) H xs ds
 | .rd f ds=>∃ a xs,v = .ref a/\unO O A a/\H a=some (f a xs)/\IsAll K (unO O A) H xs ds
 | .exc C ns ds=>∃ xs,ExAt (unO O A) H v C ns xs/\IsAll K (unO O A) H xs ds
 | .thg T=>T.R K (unO O A) (A i) H v
 | .thr T=>∃ W:Addr->Prop,(∀ a,W a->unO O A a/\∃ o,H a=some o)/\T.R K (unO O A) W H v
structure Rep (K:PySem.W.Frag) (O:Ob) (H₀:Hp) (A:Nat->Addr->Prop) (H:Hp) (σ:St) (ρ:DSt):Prop where
 ok:O.Ok
 p:O.P H
 p0:O.P H₀
 st:Stp O H₀ H
 dis:∀ i j a,A i a->A j a->i=j
 own:∀ i a,A i a->H₀ a=none/\(∃ o,H a=some o/\OwnO o)/\¬ O.M a
 at_:∀ (i:Nat) r,ρ[i]? = some (some r)->∃ v,σ[i]? = some (some v)/\RepV K O A H i v r
 len:ρ.length=σ.length
def Frm (O:Ob) (A:Nat->Addr->Prop) (H:Hp) (A':Nat->Addr->Prop) (H':Hp):Prop:=∀ a o,H a=some o->unO O A a->H' a=some o/\unO O A' a
theorem Frm.refl {O:Ob} {A:Nat->Addr->Prop} {H:Hp}:Frm O A H A H:=fun _ _ h u=>⟨h,u⟩
theorem Frm.trans {O:Ob} {A A1 A2:Nat->Addr->Prop} {H H1 H2:Hp} (a:Frm O A H A1 H1) (b:Frm O A1 H1 A2 H2):Frm O A H A2 H2:=fun c o h u=>let ⟨h1,u1⟩:=a c o h u;b c o h1 u1
structure Post (K:PySem.W.Frag) (O:Ob) (H₀:Hp) (A:Nat->Addr->Prop) (H:Hp) (D:Ends) (Dd:DEnds):Prop where
 nx:∀ A' σ' H' ρ',Rep K O H₀ A' H' σ' ρ'->Frm O A H A' H'->Dd.nx ρ'->D.nx σ' H'
 bk:∀ A' σ' H' ρ',Rep K O H₀ A' H' σ' ρ'->Frm O A H A' H'->Dd.bk ρ'->D.bk σ' H'
 ct:∀ A' σ' H' ρ',Rep K O H₀ A' H' σ' ρ'->Frm O A H A' H'->Dd.ct ρ'->D.ct σ' H'
 rt:∀ H' v r,Stp O H₀ H'->Out K O H₀ H' v r->Dd.rt r->D.rt v H'
def SD (K:PySem.W.Frag) (O:Ob) (t:TS) (g:DS):Prop :=
 ∀ (H₀:Hp) (A:Nat->Addr->Prop) (σ:St) (H:Hp) (ρ:DSt) (D:Ends) (Dd:DEnds),Rep K O H₀ A H σ ρ->g Dd ρ->Post K O H₀ A H D Dd->t D σ H
section
variable {K : PySem.W.Frag} {O : Ob} {H₀ H H' : Hp} {A : Nat → Addr → Prop} {σ : St} {ρ : DSt}
theorem Rep.seen (r:Rep K O H₀ A H σ ρ):Seen K O H σ ρ:=by
 refine ⟨r.ok,r.p,fun i x e=>?_,r.len⟩
 obtain ⟨v,hv,h⟩:=r.at_ i x e
 refine ⟨v,hv,?_⟩
 cases x with
 | im d=>exact h.weak fun a u=>u.1
 | own ds =>
   obtain ⟨a,xs,rfl,ha,hl,hs⟩:=h
   exact .list (r.own i a ha).2.2 hl (hs.weak fun a u=>u.1)
 | ob=>exact h
 | scr n=>exact IsS.to (fun a u f q=>⟨f.1,q⟩) h
 | dct ks=>obtain ⟨a,ha,h⟩:=h;exact ⟨a,(r.own i a ha).2.2,h⟩
 | gen f ds=>obtain ⟨a,xs,e,ha,q,z⟩:=h;exact ⟨a,xs,e,(r.own i a ha).2.2,q,z.weak fun a u=>u.1⟩
 | rd f ds=>obtain ⟨a,xs,e,ha,q,z⟩:=h;exact ⟨a,xs,e,ha.1,q,z.weak fun a u=>u.1⟩
 | exc C ns ds=>obtain ⟨xs,e,z⟩:=h;exact ⟨xs,e.to fun a u f q=>⟨f.1,q⟩,z.weak fun a u=>u.1⟩
 | thg T=>exact ⟨A i,fun a w=>⟨(r.own i a w).2.2,let ⟨o,q,_⟩:=(r.own i a w).2.1; ⟨o,q⟩⟩,T.to (fun a u f q=>⟨f.1,q⟩) (fun a u w q=>⟨w,q⟩) (TupStay.refl _) h⟩
 | thr T=>obtain ⟨W,hw,z⟩:=h;exact ⟨W,fun a w=>⟨(hw a w).1.1,(hw a w).2⟩,T.to (fun a u f q=>⟨f.1,q⟩) (fun a u w q=>⟨w,q⟩) (TupStay.refl _) z⟩
theorem Rep.stp (r:Rep K O H₀ A H σ ρ) (s:Stp O H H'):Rep K O H₀ A H' σ ρ:=by
 refine ⟨r.ok,s.p r.p,r.p0,r.st.trans s,r.dis,fun i a ha=>?_,fun i x e=>?_,r.len⟩
 ·obtain ⟨h0,⟨xs,hx,ho⟩,hm⟩:=r.own i a ha
  exact ⟨h0,⟨xs,s.s a _ hx hm,ho⟩,hm⟩
 ·obtain ⟨v,hv,h⟩:=r.at_ i x e
  refine ⟨v,hv,?_⟩
  cases x with
  | im d=>exact Is.stp s (fun _ z=>z) (fun _ z=>z.1) h
  | own ds =>
    obtain ⟨a,xs,rfl,ha,hl,hs⟩:=h
    exact ⟨a,xs,rfl,ha,s.s a _ hl (r.own i a ha).2.2,hs.stp s (fun _ z=>z) (fun _ z=>z.1)⟩
  | ob=>exact h
  | scr n=>exact IsS.to (fun a u f q=>⟨f,s.s a u q f.1⟩) h
  | dct ks=>obtain ⟨a,ha,h⟩:=h;exact ⟨a,ha,h.to fun u q=>s.s a u q (r.own i a ha).2.2⟩
  | gen f ds=>obtain ⟨a,xs,e,ha,q,z⟩:=h;exact ⟨a,xs,e,ha,s.s a _ q (r.own i a ha).2.2,z.stp s (fun _ z=>z) (fun _ z=>z.1)⟩
  | rd f ds=>obtain ⟨a,xs,e,ha,q,z⟩:=h;exact ⟨a,xs,e,ha,s.s a _ q ha.1,z.stp s (fun _ z=>z) (fun _ z=>z.1)⟩
  | exc C ns ds=>obtain ⟨xs,e,z⟩:=h;exact ⟨xs,e.to fun a u f q=>⟨f,s.s a u q f.1⟩,z.stp s (fun _ z=>z) (fun _ z=>z.1)⟩
  | thg T=>exact T.to (fun a u f q=>⟨f,s.s a u q f.1⟩) (fun a u w q=>⟨w,s.s a u q (r.own i a w).2.2⟩) s.t h
  | thr T=>obtain ⟨W,hw,z⟩:=h;exact ⟨W,fun a w=>let ⟨f,o,q⟩:=hw a w; ⟨f,o,s.s a o q f.1⟩,T.to (fun a u f q=>⟨f,s.s a u q f.1⟩) (fun a u w q=>⟨w,s.s a u q (hw a w).1.1⟩) s.t z⟩
theorem Frm.stp (s:Stp O H H'):Frm O A H A H':=fun a o e u=>⟨s.s a o e u.1,u⟩
theorem Rep.setIm {i:Nat} {v:V} {d:PyData} (r:Rep K O H₀ A H σ ρ) (h:Is K (unO O A) H v d):Rep K O H₀ (fun j a=>j ≠ i/\A j a) H (σ.set i (some v)) (ρ.set i (some (.im d))):=by
 have un:∀ a,unO O A a->unO O (fun j a=>j ≠ i/\A j a) a:=fun a u=>⟨u.1,fun j z=>u.2 j z.2⟩
 refine ⟨r.ok,r.p,r.p0,r.st,fun j k a x y=>r.dis j k a x.2 y.2,fun j a x=>r.own j a x.2,fun j x e=>?_,by rw [List.length_set,List.length_set];exact r.len⟩
 by_cases hj:i=j
 ·subst hj
  have hi:i<ρ.length:=by
   rcases Nat.lt_or_ge i ρ.length with z | z
   ·exact z
   ·rw [List.getElem?_eq_none (by simpa using z)] at e;cases e
  rw [List.getElem?_set_self hi] at e
  cases e
  exact ⟨v,List.getElem?_set_self (by have:=r.len;omega),h.weak un⟩
 ·rw [List.getElem?_set_ne hj] at e
  obtain ⟨w,h1,h2⟩:=r.at_ j x e
  refine ⟨w,by rw [List.getElem?_set_ne hj];exact h1,?_⟩
  cases x with
  | im d=>exact h2.weak un
  | own ds =>
    obtain ⟨a,xs,rfl,ha,hl,hs⟩:=h2
    exact ⟨a,xs,rfl,⟨fun z=>hj z.symm,ha⟩,hl,hs.weak un⟩
  | ob=>exact h2
  | scr n=>exact IsS.to (fun a u f q=>⟨un a f,q⟩) h2
  | dct ks=>obtain ⟨a,ha,h2⟩:=h2;exact ⟨a,⟨fun z=>hj z.symm,ha⟩,h2⟩
  | gen f ds=>obtain ⟨a,xs,e,ha,q,z⟩:=h2;exact ⟨a,xs,e,⟨fun z=>hj z.symm,ha⟩,q,z.weak un⟩
  | rd f ds=>obtain ⟨a,xs,e,ha,q,z⟩:=h2;exact ⟨a,xs,e,un a ha,q,z.weak un⟩
  | exc C ns ds=>obtain ⟨xs,e,z⟩:=h2;exact ⟨xs,e.to fun a u f q=>⟨un a f,q⟩,z.weak un⟩
  | thg T=>exact T.to (fun a u f q=>⟨un a f,q⟩) (fun a u w q=>⟨⟨fun z=>hj z.symm,w⟩,q⟩) (TupStay.refl _) h2
  | thr T=>obtain ⟨W,hw,z⟩:=h2;exact ⟨W,fun a w=>⟨un a (hw a w).1,(hw a w).2⟩,T.to (fun a u f q=>⟨un a f,q⟩) (fun a u w q=>⟨w,q⟩) (TupStay.refl _) z⟩
theorem Rep.setOwn {i:Nat} {a:Addr} {xs:List V} {ds:List PyData} (r:Rep K O H₀ A H σ ρ) (s:Stp O H H') (hn:H a=none) (hl:H' a=some (.lst xs)) (hf:IsAll K (unM O) H' xs ds) (fl:flats ds=true) :
 Rep K O H₀ (fun j b=>(j ≠ i/\A j b)\/(j=i/\b=a)) H' (σ.set i (some (.ref a))) (ρ.set i (some (.own ds))):=by
 have hm:¬ O.M a:=fun m=>by obtain ⟨o,z⟩:=r.ok.here H a r.p m;rw [hn] at z;cases z
 have new:∀ j,¬ A j a:=fun j z=>by obtain ⟨_,⟨ys,q,_⟩,_⟩:=r.own j a z;rw [hn] at q;cases q
 have un:∀ b o,H b=some o->unO O A b->unO O (fun j b=>(j ≠ i/\A j b)\/(j=i/\b=a)) b:=fun b o e u=>⟨u.1,fun j z=>by
  rcases z with z | z
  ·exact u.2 j z.2
  ·rw [z.2,hn] at e;cases e⟩
 have mv:∀ {v d},Is K (unO O A) H v d->Is K (unO O (fun j b=>(j ≠ i/\A j b)\/(j=i/\b=a))) H' v d:=fun z =>
  z.to (fun b ys f q=>⟨un b _ q f,s.s b _ q f.1⟩) fun b ys q=>SqT.stay (h:=q) s.t
 have mvs:∀ {v d},IsAll K (unO O A) H v d->IsAll K (unO O (fun j b=>(j ≠ i/\A j b)\/(j=i/\b=a))) H' v d:=fun z =>
  z.to (fun b ys f q=>⟨un b _ q f,s.s b _ q f.1⟩) fun b ys q=>SqT.stay (h:=q) s.t
 refine ⟨r.ok,s.p r.p,r.p0,r.st.trans s,fun j k b x y=>?_,fun j b x=>?_,fun j x e=>?_,by rw [List.length_set,List.length_set];exact r.len⟩
 ·rcases x with x | x <;> rcases y with y | y
  ·exact r.dis j k b x.2 y.2
  ·exact absurd (y.2 ▸ x.2) (new j)
  ·exact absurd (x.2 ▸ y.2) (new k)
  ·exact x.1.trans y.1.symm
 ·rcases x with x | x
  ·obtain ⟨h0,⟨ys,q,ho⟩,m⟩:=r.own j b x.2
   exact ⟨h0,⟨ys,s.s b _ q m,ho⟩,m⟩
  ·obtain ⟨rfl,rfl⟩:=x
   exact ⟨r.st.s.free hm hn,⟨_,hl,.lst⟩,hm⟩
 ·by_cases hj:i=j
  ·subst hj
   have hi:i<ρ.length:=by
    rcases Nat.lt_or_ge i ρ.length with z | z
    ·exact z
    ·rw [List.getElem?_eq_none (by simpa using z)] at e;cases e
   rw [List.getElem?_set_self hi] at e
   cases e
   exact ⟨.ref a,List.getElem?_set_self (by have:=r.len;omega),a,xs,rfl,.inr ⟨rfl,rfl⟩,hl,IsAll.flats (TupStay.refl H') hf fl⟩
  ·rw [List.getElem?_set_ne hj] at e
   obtain ⟨w,h1,h2⟩:=r.at_ j x e
   refine ⟨w,by rw [List.getElem?_set_ne hj];exact h1,?_⟩
   cases x with
   | im d=>exact mv h2
   | own es =>
     obtain ⟨b,ys,rfl,hb,hlb,hs⟩:=h2
     exact ⟨b,ys,rfl,.inl ⟨fun z=>hj z.symm,hb⟩,s.s b _ hlb (r.own j b hb).2.2,mvs hs⟩
   | ob=>exact h2
   | scr n=>exact IsS.to (fun b u f q=>⟨un b u q f,s.s b u q f.1⟩) h2
   | dct ks=>obtain ⟨b,hb,h2⟩:=h2;exact ⟨b,.inl ⟨fun z=>hj z.symm,hb⟩,h2.to fun u q=>s.s b u q (r.own j b hb).2.2⟩
   | gen f ds=>obtain ⟨b,xs,e,hb,q,z⟩:=h2;exact ⟨b,xs,e,.inl ⟨fun z=>hj z.symm,hb⟩,s.s b _ q (r.own j b hb).2.2,mvs z⟩
   | rd f ds=>obtain ⟨b,xs,e,hb,q,z⟩:=h2;exact ⟨b,xs,e,un b _ q hb,s.s b _ q hb.1,mvs z⟩
   | exc C ns ds=>obtain ⟨xs,e,z⟩:=h2;exact ⟨xs,e.to fun b u f q=>⟨un b _ q f,s.s b _ q f.1⟩,mvs z⟩
   | thg T=>exact T.to (fun b u f q=>⟨un b u q f,s.s b u q f.1⟩) (fun b u w q=>⟨.inl ⟨fun z=>hj z.symm,w⟩,s.s b u q (r.own j b w).2.2⟩) s.t h2
   | thr T=>obtain ⟨W,hw,z⟩:=h2;exact ⟨W,fun b w=>let ⟨f,o,q⟩:=hw b w; ⟨un b o q f,o,s.s b o q f.1⟩,T.to (fun b u f q=>⟨un b u q f,s.s b u q f.1⟩) (fun b u w q=>⟨w,s.s b u q (hw b w).1.1⟩) s.t z⟩
theorem Frm.setIm {i:Nat} (s:Stp O H H'):Frm O A H (fun j a=>j ≠ i/\A j a) H':=fun a o e u=>⟨s.s a o e u.1,u.1,fun j z=>u.2 j z.2⟩
theorem Frm.setOwn {i:Nat} {a:Addr} (s:Stp O H H') (hn:H a=none):Frm O A H (fun j b=>(j ≠ i/\A j b)\/(j=i/\b=a)) H':=fun b o e u=>⟨s.s b o e u.1,u.1,fun j z=>by
 rcases z with z | z
 ·exact u.2 j z.2
 ·rw [z.2,hn] at e;cases e⟩
theorem Rep.change {i:Nat} {a:Addr} {ys:List V} {ds es:List PyData} (r:Rep K O H₀ A H σ ρ) (e:ρ[i]? = some (some (.own ds))) (hv:σ[i]? = some (some (.ref a))) (ha:A i a) (hs:IsAll K (unO O A) H ys es) :
 Rep K O H₀ A (upd H a (.lst ys)) σ (ρ.set i (some (.own es))):=by
 obtain ⟨h0,⟨oo,hz,hoo⟩,hm⟩:=r.own i a ha
 have ts:TupStay H (upd H a (.lst ys)):=fun b u hu hb=>by
  rw [upd_ne fun z=>?_]
  ·exact hb
  ·rw [z,hz] at hb
   cases hb
   obtain ⟨us,e1 | ⟨o',e1⟩⟩:=hu
   ·exact absurd e1 (hoo us).1
   ·exact absurd e1 ((hoo us).2 o')
 have mv:∀ {v d},Is K (unO O A) H v d->Is K (unO O A) (upd H a (.lst ys)) v d:=fun z=>z.to (fun b us f q=>⟨f,by rw [upd_ne (show b ≠ a from fun w=>f.2 i (by rw [w];exact ha))];exact q⟩) fun b us q=>SqT.stay (h:=q) ts
 have mvs:∀ {v d},IsAll K (unO O A) H v d->IsAll K (unO O A) (upd H a (.lst ys)) v d:=fun z=>z.to (fun b us f q=>⟨f,by rw [upd_ne (show b ≠ a from fun w=>f.2 i (by rw [w];exact ha))];exact q⟩) fun b us q=>SqT.stay (h:=q) ts
 have pp:O.P (upd H a (.lst ys)):=r.ok.loc H _ (fun b m=>upd_ne fun z=>hm (z ▸ m)) r.p
 refine ⟨r.ok,pp,r.p0,⟨fun b o hb n=>?_,fun _=>pp,fun b u hu hb=>ts b u hu (r.st.t b u hu hb)⟩,r.dis,fun j b hb=>?_,fun j x ej=>?_,by rw [List.length_set];exact r.len⟩
 ·rw [upd_ne fun z=>?_]
  ·exact r.st.s b o hb n
  ·rw [z,h0] at hb;cases hb
 ·obtain ⟨k0,⟨us,k1,ko⟩,k2⟩:=r.own j b hb
  by_cases hba:b=a
  ·subst hba;exact ⟨k0,⟨_,upd_same,.lst⟩,k2⟩
  ·exact ⟨k0,⟨us,by rw [upd_ne hba];exact k1,ko⟩,k2⟩
 ·by_cases hj:i=j
  ·subst hj
   have hi:i<ρ.length:=(List.getElem?_eq_some_iff.mp e).1
   rw [List.getElem?_set_self hi] at ej
   cases ej
   exact ⟨.ref a,hv,a,ys,rfl,ha,upd_same,mvs hs⟩
  ·rw [List.getElem?_set_ne hj] at ej
   obtain ⟨w,h1,h2⟩:=r.at_ j x ej
   refine ⟨w,h1,?_⟩
   cases x with
   | im d=>exact mv h2
   | own fs =>
     obtain ⟨b,us,rfl,hb,hlb,hs2⟩:=h2
     exact ⟨b,us,rfl,hb,by rw [upd_ne (show b ≠ a from fun z=>hj (r.dis i j a ha (by rw [<- z];exact hb)))];exact hlb,mvs hs2⟩
   | ob=>exact h2
   | scr n=>exact IsS.to (fun b u f q=>⟨f,by rw [upd_ne (show b ≠ a from fun w=>f.2 i (by rw [w];exact ha))];exact q⟩) h2
   | dct ks=>obtain ⟨b,hb,h2⟩:=h2;exact ⟨b,hb,h2.to fun u q=>by rw [upd_ne (show b ≠ a from fun z=>hj (r.dis i j a ha (by rw [<- z];exact hb)))];exact q⟩
   | gen f ds=>obtain ⟨b,xs,e,hb,q,z⟩:=h2;exact ⟨b,xs,e,hb,by rw [upd_ne (show b ≠ a from fun z=>hj (r.dis i j a ha (by rw [<- z];exact hb)))];exact q,mvs z⟩
   | rd f ds=>obtain ⟨b,xs,e,hb,q,z⟩:=h2;exact ⟨b,xs,e,hb,by rw [upd_ne (show b ≠ a from fun w=>hb.2 i (by rw [w];exact ha))];exact q,mvs z⟩
   | exc C ns ds=>obtain ⟨xs,e,z⟩:=h2;exact ⟨xs,e.to fun b u f q=>⟨f,by rw [upd_ne (show b ≠ a from fun w=>f.2 i (by rw [w];exact ha))];exact q⟩,mvs z⟩
   | thg T=>exact T.to (fun b u f q=>⟨f,by rw [upd_ne (show b ≠ a from fun w=>f.2 i (by rw [w];exact ha))];exact q⟩) (fun b u w q=>⟨w,by rw [upd_ne (show b ≠ a from fun z=>hj (r.dis i j a ha (by rw [<- z];exact w)))];exact q⟩) ts h2
   | thr T=>obtain ⟨W,hw,z⟩:=h2;exact ⟨W,fun b w=>let ⟨f,o,q⟩:=hw b w; ⟨f,o,by rw [upd_ne (show b ≠ a from fun w=>f.2 i (by rw [w];exact ha))];exact q⟩,T.to (fun b u f q=>⟨f,by rw [upd_ne (show b ≠ a from fun w=>f.2 i (by rw [w];exact ha))];exact q⟩) (fun b u w q=>⟨w,by rw [upd_ne (show b ≠ a from fun y=>(hw b w).1.2 i (by rw [y];exact ha))];exact q⟩) ts z⟩
theorem Frm.change {i:Nat} {a:Addr} {o:HO} (ha:A i a):Frm O A H A (upd H a o):=fun b u e n=>⟨by rw [upd_ne (show b ≠ a from fun z=>n.2 i (by rw [z];exact ha))];exact e,n⟩
end
section
variable {K : PySem.W.Frag} {O : Ob}
theorem Post.frm {H₀:Hp} {A A1:Nat->Addr->Prop} {H H1:Hp} {D:Ends} {Dd:DEnds} (P:Post K O H₀ A H D Dd) (f:Frm O A H A1 H1):Post K O H₀ A1 H1 D Dd :=
 ⟨fun A' σ' H' ρ' r g=>P.nx A' σ' H' ρ' r (f.trans g),fun A' σ' H' ρ' r g=>P.bk A' σ' H' ρ' r (f.trans g),fun A' σ' H' ρ' r g=>P.ct A' σ' H' ρ' r (f.trans g),P.rt⟩
def seqD (g k:DS):DS:=fun Dd ρ=>g { Dd with nx:=k Dd } ρ
theorem sd_seq {t u:TS} {g k:DS} (h:SD K O t g) (h':SD K O u k):SD K O (tSeq t u) (seqD g k):=fun H₀ A σ H ρ D Dd r q P =>
 h H₀ A σ H ρ _ _ r q ⟨fun A' σ' H' ρ' r' f q'=>h' H₀ A' σ' H' ρ' D Dd r' q' (P.frm f),P.bk,P.ct,P.rt⟩
theorem sd_next:SD K O tNext (fun Dd ρ=>Dd.nx ρ):=fun H₀ A σ H ρ D Dd r q P=>P.nx A σ H ρ r .refl q
def ifS (c:DT) (g k:DS):DS:=fun Dd ρ=>c ρ fun b=>if b=true then g Dd ρ else k Dd ρ
theorem sd_if {c:TT} {t u:TS} {fc:DT} {g k:DS} (hc:TD K O c fc) (h:SD K O t g) (h':SD K O u k):SD K O (tIfS c t u) (ifS fc g k):=fun H₀ A σ H ρ D Dd r q P=>by
 refine hc σ H ρ _ _ r.seen q fun b H1 s1 q1=>?_
 cases b with
 | true=>exact h H₀ A σ H1 ρ D Dd (r.stp s1) q1 (P.frm (.stp s1))
 | false=>exact h' H₀ A σ H1 ρ D Dd (r.stp s1) q1 (P.frm (.stp s1))
def retS (f:DE):DS:=fun Dd ρ=>f ρ Dd.rt
theorem sd_ret {t:TE} {f:DE} (h:ED K O t f):SD K O (tRet t) (retS f):=fun H₀ A σ H ρ D Dd r q P=>by
 refine h σ H ρ _ _ r.seen q fun v H1 x s1 o1 q1=>P.rt H1 v x (r.st.trans s1) (o1.ahead r.ok r.p0 r.st) q1
def retO (i:Nat):DS:=fun Dd ρ=>∃ ds,ρ[i]? = some (some (.own ds))/\Dd.rt (.n ds)
theorem sd_retOwn {i:Nat}:SD K O (tRet (tVar i)) (retO i):=fun H₀ A σ H ρ D Dd r q P=>by
 obtain ⟨ds,e,q⟩:=q
 obtain ⟨v,hv,a,xs,rfl,ha,hl,hs⟩:=r.at_ i _ e
 exact ⟨_,hv,P.rt H _ (.n ds) r.st ⟨a,xs,rfl,(r.own i a ha).1,hl,hs.weak fun b u=>u.1⟩ q⟩
def asgS (i:Nat) (f:DE):DS:=fun Dd ρ=>f ρ fun r=>match r with
 | .o d=>flat d=true/\Dd.nx (ρ.set i (some (.im d)))
 | .n ds=>flats ds=true/\Dd.nx (ρ.set i (some (.own ds)))
theorem sd_asg {i:Nat} {t:TE} {f:DE} (h:ED K O t f):SD K O (tAsg t (gName i)) (asgS i f):=fun H₀ A σ H ρ D Dd r q P=>by
 refine h σ H ρ _ _ r.seen q fun v H1 x s1 o1 q1=>?_
 cases x with
 | o d =>
   obtain ⟨fl,q1⟩:=q1
   exact P.nx _ _ H1 _ ((r.stp s1).setIm (Is.flat (TupStay.refl H1) o1 fl)) (.setIm s1) q1
 | n ds =>
   obtain ⟨fl,q1⟩:=q1
   obtain ⟨a,xs,rfl,hn,hl,hs⟩:=o1
   exact P.nx _ _ H1 _ (r.setOwn s1 hn hl hs fl) (.setOwn s1 hn) q1
def appS (i:Nat) (f:DE):DS:=fun Dd ρ=>∃ ds,ρ[i]? = some (some (.own ds))/\f ρ fun r=>flat r.d=true/\ds.length<sizeLine/\Dd.nx (ρ.set i (some (.own (ds ++ [r.d]))))
theorem sd_append {i:Nat} {t:TE} {f:DE} (h:ED K O t f):SD K O (tDrop (tBM K "list" rAppend (tVar i) (tCons t tNil))) (appS i f):=fun H₀ A σ H ρ D Dd r q P=>by
 obtain ⟨ds,e,q⟩:=q
 obtain ⟨v,hv,a,xs,rfl,ha,hl,hs⟩:=r.at_ i _ e
 refine ⟨_,hv,?_⟩
 refine ⟨.inl ⟨rfl,xs,.of hl⟩,?_⟩
 refine h σ H ρ _ _ r.seen q fun w H1 x s1 o1 ⟨fl,hz,q1⟩=>?_
 have r1:=r.stp s1
 obtain ⟨v1,hv1,a1,xs1,e1,ha1,hl1,hs1⟩:=r1.at_ i _ e
 rw [hv] at hv1
 cases hv1
 cases e1
 refine ⟨a,xs1,w,rfl,rfl,hl1,by rw [hs1.length];exact hz,?_⟩
 have iw:Is K (unO O A) H1 w x.d:=Is.flat (TupStay.refl H1) (o1.is r.ok r.p) fl
 exact P.nx A σ _ _ (r1.change e hv ha (hs1.snoc iw)) ((Frm.stp s1).trans (.change ha)) q1
end
end L3
namespace L3
open PySem PySem.Spec
open PyProof.Rows hiding St
open L2
def GR (K:PySem.W.Frag) (O:Ob) (t:TG) (g:DG):Prop :=
 ∀ (H₀:Hp) (A:Nat->Addr->Prop) (σ:St) (H:Hp) (ρ:DSt) (v:V) (d:PyData) (Q:St->Hp->Prop) (Qd:DSt->Prop),Rep K O H₀ A H σ ρ->flat d=true->Is K (unO O A) H v d->g d ρ Qd ->
   (∀ A' σ' ρ',Rep K O H₀ A' H σ' ρ'->Frm O A H A' H->Qd ρ'->Q σ' H)->t v σ H Q
section
variable {K : PySem.W.Frag} {O : Ob}
theorem gr_name {i:Nat}:GR K O (gName i) (gN i):=fun H₀ A σ H ρ v d Q Qd r _ h q k=>k _ _ _ (r.setIm h) (.setIm (.refl _ _)) q
def GRs (K:PySem.W.Frag) (O:Ob) (t:TGs) (is:List Nat):Prop :=
 ∀ (H₀:Hp) (A:Nat->Addr->Prop) (σ:St) (H:Hp) (ρ:DSt) (vs:List V) (ds:List PyData) (Q:St->Hp->Prop) (Qd:DSt->Prop),Rep K O H₀ A H σ ρ->flats ds=true->IsAll K (unO O A) H vs ds->gTD is ds ρ Qd ->
   (∀ A' σ' ρ',Rep K O H₀ A' H σ' ρ'->Frm O A H A' H->Qd ρ'->Q σ' H)->t vs σ H Q
theorem grs_nil:GRs K O gNil []:=fun H₀ A σ H ρ vs ds Q Qd r _ i h k=>by
 cases i with
 | nil=>exact ⟨rfl,k A σ ρ r .refl h⟩
 | cons _ _=>exact h.elim
theorem grs_cons {i:Nat} {is:List Nat} {t:TGs} (ht:GRs K O t is):GRs K O (gCons (gName i) t) (i::is):=fun H₀ A σ H ρ vs ds Q Qd r fl h q k=>by
 cases h with
 | nil=>exact q.elim
 | cons h1 h2 =>
   rw [flats,Bool.and_eq_true] at fl
   have f1:Frm O A H (fun j a=>j ≠ i/\A j a) H := .setIm (.refl _ _)
   refine ⟨_,_,rfl,ht _ _ _ H _ _ _ _ _ (r.setIm h1) fl.2 (IsAll.flats (TupStay.refl H) h2 fl.2) q fun A' σ' ρ' r' f q'=>k A' σ' ρ' r' (f1.trans f) q'⟩
theorem gr_tup {is:List Nat} {t:TGs} {n:Nat} (hn:is.length=n) (ht:GRs K O t is):GR K O (gTup K n t) (gT is):=fun H₀ A σ H ρ v d Q Qd r fl i h k=>by
 obtain ⟨ds,rfl,h⟩:=h
 cases i with
 | tuple q is'=>exact ⟨_,_,rfl,q,by rw [is'.length,gTD_len h];exact hn,ht H₀ A σ H ρ _ ds Q Qd r (by simpa [flat] using fl) is' h k⟩
def forGo (g:DG) (gb:DS) (Dd:DEnds):List PyData->DSt->Prop
 | [],ρ=>Dd.nx ρ
 | d::ds,ρ=>flat d=true/\g d ρ fun ρ2=>gb { Dd with nx:=forGo g gb Dd ds,ct:=forGo g gb Dd ds,bk:=Dd.nx } ρ2
abbrev DJ:=DSt->(List PyData->Prop)->Prop
def SrcR (K:PySem.W.Frag) (O:Ob) (wi:TI) (f:DJ):Prop :=
 ∀ (H₀:Hp) (A:Nat->Addr->Prop) (σ:St) (H:Hp) (ρ:DSt) (R:It->Hp->Prop) (Qd:List PyData->Prop),Rep K O H₀ A H σ ρ->f ρ Qd ->
   (∀ (J:It) (H1:Hp) (ds:List PyData) (B:Addr->Prop),Walk K O H H1 J ds B->(∀ a,B a->unO O A a)->Qd ds->R J H1)->wi σ H R
def newJ (f:DI):DJ:=fun ρ Q=>f ρ fun fr ds=>fr=true/\Q ds
theorem srcR_of {wi:TI} {f:DI} (h:SrcS K O wi f):SrcR K O wi (newJ f):=fun H₀ A σ H ρ R Qd r q k=>by
 refine h σ H ρ _ _ r.seen q fun J H1 ds B fr W hfr ⟨e,q1⟩=>k J H1 ds B W (fun a b=>⟨(W.hb a b).1,fun j z=>?_⟩) q1
 obtain ⟨_,⟨xs,q,_⟩,_⟩:=r.own j a z
 rw [hfr e a b] at q;cases q
def forS (f:DJ) (g:DG) (gb:DS):DS:=fun Dd ρ=>f ρ fun ds=>forGo g gb Dd ds ρ
theorem Rep.tupStay {H₀:Hp} {A A2:Nat->Addr->Prop} {H1 H2:Hp} {σ:St} {ρ:DSt} (r:Rep K O H₀ A H1 σ ρ) (f:Frm O A H1 A2 H2):TupStay H1 H2:=fun a u hu e=>by
 refine (f a u e ⟨fun m=>?_,fun j z=>?_⟩).1
 ·have mm:=r.ok.mutb H1 a u r.p e m
  obtain ⟨xs,e1 | ⟨o,e1⟩⟩:=hu
  ·exact mm.1 xs e1
  ·exact mm.2 o _ e1
 ·obtain ⟨_,⟨xs,q,ho⟩,_⟩:=r.own j a z
  rw [e] at q
  cases q
  obtain ⟨ys,e1 | ⟨o,e1⟩⟩:=hu
  ·exact (ho ys).1 e1
  ·exact (ho ys).2 o e1
theorem sd_for {wi:TI} {tg:TG} {tb:TS} {f:DJ} {g:DG} {gb:DS} (hs:SrcR K O wi f) (hg:GR K O tg g) (hb:SD K O tb gb):SD K O (tFor wi tg tb) (forS f g gb):=fun H₀ A σ H ρ D Dd r q P=>by
 refine hs H₀ A σ H ρ _ _ r q fun J H1 ds B W uB go=>?_
 have r1:=r.stp W.st
 have f1:Frm O A H A H1 := .stp W.st
 refine ⟨fun i m σ2 H2=>m=ds.length - i/\i<=ds.length/\∃ A2 ρ2,Rep K O H₀ A2 H2 σ2 ρ2/\Frm O A H1 A2 H2/\forGo g gb Dd (ds.drop i) ρ2,⟨ds.length,rfl,Nat.zero_le _,A,ρ,r1,.refl,by simpa using go⟩,?_⟩
 rintro i m σ2 H2 ⟨rfl,hi,A2,ρ2,r2,f2,go2⟩
 have kB:∀ a o,B a->H1 a=some o->H2 a=some o:=fun a o b e=>(f2 a o e (uB a b)).1
 have ts:TupStay H1 H2:=r1.tupStay f2
 by_cases hlt:i<ds.length
 ·right
  have hd:ds[i]? = some ds[i]:=List.getElem?_eq_getElem hlt
  rw [List.drop_eq_getElem_cons hlt] at go2
  obtain ⟨fl,go2⟩:=go2
  obtain ⟨hgo,hy⟩:=W.item H2 i ds[i] kB ts hd (.inl fl)
  refine ⟨hgo,fun σ' H'=>∃ A' ρ',Rep K O H₀ A' H' σ' ρ'/\Frm O A H1 A' H'/\forGo g gb Dd (ds.drop (i+1)) ρ',fun σ' H' ⟨A',ρ',x1,x2,x3⟩=>⟨ds.length - (i+1),by omega,rfl,hlt,A',ρ',x1,x2,x3⟩,fun x H3 y=>?_⟩
  obtain ⟨sm,ix⟩:=hy x H3 y
  have st3:Stp O H2 H3 := .same r2.ok sm
  have r3:=r2.stp st3
  refine hg H₀ A2 σ2 H3 ρ2 x ds[i] _ _ r3 fl (Is.flat (TupStay.refl H3) ix fl) go2 fun A3 σ3 ρ3 r3' f3 q3=>?_
  have f13:Frm O A H1 A3 H3:=(f2.trans (.stp st3)).trans f3
  refine hb H₀ A3 σ3 H3 ρ3 _ _ r3' q3 ⟨fun A' σ' H' ρ' r' f' q'=>⟨A',ρ',r',f13.trans f',q'⟩,fun A' σ' H' ρ' r' f' q'=>P.nx A' σ' H' ρ' r' (f1.trans (f13.trans f')) q',fun A' σ' H' ρ' r' f' q'=>⟨A',ρ',r',f13.trans f',q'⟩,P.rt⟩
 ·left
  have e:i=ds.length:=by omega
  subst e
  rw [List.drop_length] at go2
  exact ⟨W.stop H2 _ kB ts (Nat.le_refl _),P.nx A2 σ2 H2 ρ2 r2 (f1.trans f2) go2⟩
end
def spO (K:PySem.W.Frag) (φ:Ob->Prop) (n:Nat) (f:List PyData->(R->Prop)->Prop):Sp:=fun vs H Q _ =>
 ∃ (O:Ob) (ds:List PyData) (Qr:R->Prop),O.Ok/\φ O/\O.P H/\ds.length=n/\IsAll K (unM O) H vs ds/\f ds Qr/\∀ r,Qr r->∀ v H',Stp O H H'->Out K O H H' v r->Q v H'
def spD (K:PySem.W.Frag) (φ:Ob->Prop) (n:Nat) (f:List PyData->(R->Prop)->Prop):Sp:=fun vs H Q _ =>
 ∃ (O:Ob) (ds:List PyData) (ws:List V) (Qr:R->Prop),O.Ok/\φ O/\O.P H/\ds.length=n/\vs=O.v::ws/\IsAll K (unM O) H ws ds/\f ds Qr/\∀ r,Qr r->∀ v H',Stp O H H'->Out K O H H' v r->Q v H'
def dstart (N:List Str) (rs:List DV):DSt:=rs.map some++List.replicate (N.length - rs.length) none
section
variable {K : PySem.W.Frag} {O : Ob}
theorem rep_start {N:List Str} {H:Hp} {vs:List V} {rs:List DV} (ok:O.Ok) (p:O.P H) (hl:vs.length=rs.length) (h:∀ (i:Nat) r,rs[i]? = some r->∃ v,vs[i]? = some v/\((∃ d,r = .im d/\Is K (unM O) H v d)\/(r = .ob/\v=O.v))) :
 Rep K O H (fun _ _=>False) H (L2.start N vs) (dstart N rs):=by
 refine ⟨ok,p,p,.refl _ _,fun _ _ _ z=>z.elim,fun _ _ z=>z.elim,fun i r e=>?_,?_⟩
 ·unfold dstart at e
  by_cases hi:i<rs.length
  ·rw [List.getElem?_append_left (by simpa using hi),List.getElem?_map] at e
   cases q:rs[i]? with
   | none=>rw [q] at e;cases e
   | some r' =>
     rw [q] at e
     have e':r'=r:=Option.some.inj (Option.some.inj e)
     subst e'
     obtain ⟨v,hv,hh⟩:=h i r' q
     refine ⟨v,?_,?_⟩
     ·unfold L2.start
      rw [List.getElem?_append_left (by rw [List.length_map,hl];exact hi),List.getElem?_map,hv]
      rfl
     ·rcases hh with ⟨d,rfl,hd⟩ | ⟨rfl,hd⟩
      ·exact hd.weak fun a u=>⟨u,fun j z=>z⟩
      ·exact hd
  ·rw [List.getElem?_append_right (by simpa using hi),List.getElem?_replicate] at e
   split at e <;> cases e
 ·unfold dstart L2.start
  rw [List.length_append,List.length_append,List.length_map,List.length_map,List.length_replicate,List.length_replicate,hl]
theorem run_O {N:List Str} {t:TS} {g:DS} {H:Hp} {vs:List V} {ds:List PyData} {Q:VK} {Qr:R->Prop} (h:SD K O t g) (ok:O.Ok) (p:O.P H) (ia:IsAll K (unM O) H vs ds)
 (hg:g { nx:=fun _=>Qr (.o .none),rt:=Qr } (dstart N (ds.map .im))) (hQ:∀ r,Qr r->∀ v H',Stp O H H'->Out K O H H' v r->Q v H'):t { nx:=fun _ H'=>Q .non H',rt:=Q } (L2.start N vs) H:=by
 refine h H _ _ H _ _ _ (rep_start ok p (by rw [List.length_map];exact ia.length) fun i r e=>?_) hg ⟨fun A' σ' H' ρ' r' _ q=>hQ _ q .non H' r'.st Is.none,fun A' σ' H' ρ' r' _ q=>q.elim,fun A' σ' H' ρ' r' _ q=>q.elim,fun H' v r s o q=>hQ r q v H' s o⟩
 rw [List.getElem?_map] at e
 obtain ⟨d,hd,rfl⟩:=Option.map_eq_some_iff.mp e
 obtain ⟨v,hv,iv⟩:=ia.get hd
 exact ⟨v,hv,.inl ⟨d,rfl,iv⟩⟩
theorem run_D {N:List Str} {t:TS} {g:DS} {H:Hp} {ws:List V} {ds:List PyData} {Q:VK} {Qr:R->Prop} (h:SD K O t g) (ok:O.Ok) (p:O.P H) (ia:IsAll K (unM O) H ws ds)
 (hg:g { nx:=fun _=>Qr (.o .none),rt:=Qr } (dstart N (.ob::ds.map .im))) (hQ:∀ r,Qr r->∀ v H',Stp O H H'->Out K O H H' v r->Q v H'):t { nx:=fun _ H'=>Q .non H',rt:=Q } (L2.start N (O.v::ws)) H:=by
 refine h H _ _ H _ _ _ (rep_start ok p (by rw [List.length_cons,List.length_cons,List.length_map,ia.length]) fun i r e=>?_) hg ⟨fun A' σ' H' ρ' r' _ q=>hQ _ q .non H' r'.st Is.none,fun A' σ' H' ρ' r' _ q=>q.elim,fun A' σ' H' ρ' r' _ q=>q.elim,fun H' v r s o q=>hQ r q v H' s o⟩
 cases i with
 | zero=>cases e;exact ⟨O.v,rfl,.inr ⟨rfl,rfl⟩⟩
 | succ i =>
   rw [List.getElem?_cons_succ,List.getElem?_map] at e
   obtain ⟨d,hd,rfl⟩:=Option.map_eq_some_iff.mp e
   obtain ⟨v,hv,iv⟩:=ia.get hd
   exact ⟨v,by rw [List.getElem?_cons_succ];exact hv,.inl ⟨d,rfl,iv⟩⟩
def calD (n:Nat) (f:List PyData->(R->Prop)->Prop) (g:DA):DE:=fun ρ Q=>g ρ fun ds=>ds.length=n/\f ds Q
theorem ed_call {φ:Ob->Prop} {n:Nat} {f:List PyData->(R->Prop)->Prop} {E:XK} {t:TA} {g:DA} (hφ:φ O) (h:AD K O t g):ED K O (tCall (spO K φ n f) [] E t) (calD n f g):=fun σ H ρ Q Qd S q k=>by
 refine h σ H ρ _ _ S q fun vs H1 ds s1 is ⟨hn,q1⟩=>?_
 rw [List.append_nil]
 exact ⟨O,ds,Qd,S.ok,hφ,s1.p S.p,hn,is,q1,fun r qr v H' s2 o2=>k v H' r (s1.trans s2) (o2.ahead S.ok S.p s1) qr⟩
def calO (i:Nat) (n:Nat) (f:List PyData->(R->Prop)->Prop) (g:DA):DE:=fun ρ Q=>ρ[i]? = some (some .ob)/\g ρ fun ds=>ds.length=n/\f ds Q
theorem ed_callO {φ:Ob->Prop} {i n:Nat} {f:List PyData->(R->Prop)->Prop} {E:XK} {t:TA} {g:DA} (hφ:φ O) (h:AD K O t g):ED K O (tCall (spD K φ n f) [] E (tCons (tVar i) t)) (calO i n f g):=fun σ H ρ Q Qd S q k=>by
 obtain ⟨e,q⟩:=q
 obtain ⟨v,hv,hh⟩:=S.at_ i _ e
 refine ⟨v,hv,?_⟩
 refine h σ H ρ _ _ S q fun vs H1 ds s1 is ⟨hn,q1⟩=>?_
 show spD K φ n f ((v::vs) ++ []) H1 Q E
 rw [List.append_nil]
 exact ⟨O,ds,vs,Qd,S.ok,hφ,s1.p S.p,hn,by rw [show v=O.v from hh],is,q1,fun r qr v H' s2 o2=>k v H' r (s1.trans s2) (o2.ahead S.ok S.p s1) qr⟩
theorem spO_len {φ:Ob->Prop} {n:Nat} {f:List PyData->(R->Prop)->Prop} {ps:List Str} (hn:ps.length=n):∀ vs H Q E,spO K φ n f vs H Q E->vs.length=ps.length:=fun vs H Q E zz=>by obtain ⟨O,ds,_,_,_,_,h,is,_⟩:=zz;rw [is.length,h,hn]
theorem spD_len {φ:Ob->Prop} {n:Nat} {f:List PyData->(R->Prop)->Prop} {ps:List Str} (hn:ps.length=n+1):∀ vs H Q E,spD K φ n f vs H Q E->vs.length=ps.length:=fun vs H Q E zz=>by obtain ⟨O,ds,ws,_,_,_,_,h,e,is,_⟩:=zz;rw [e,List.length_cons,is.length,h,hn]
end
end L3
namespace L3
open PySem PySem.Spec
open PyProof.Rows hiding St
open L2
section
variable {X : Cx}
def rEqD (K:PySem.W.Frag) (neg:Bool):R2:=fun x y H Q=>∃ F G d e,Is K F H x d/\Is K G H y e/\d.canLay0=true/\e.canLay0=true/\d.depth<=60/\Q (.bl (if neg then !PyData.eqv d e else PyData.eqv d e)) H
theorem op_eqD (hu:X.A.units+64<cLine):OpR X (compareOp .Eq) (rEqD X.K false):=by
 intro pins s σ H x y v u Q I rx ry h
 obtain ⟨F,G,d,e,i1,i2,h1,h2,h3,q⟩:=h
 obtain ⟨as,ra⟩:=i1.reads I rx
 obtain ⟨bs,rb⟩:=i2.reads I ry
 exact SeqAt.compareEq_reads ra rb h1 h2 (by omega) ⟨.bl _,H,I,rfl,q⟩
theorem op_neD (hu:X.A.units+64<cLine):OpR X (compareOp .NotEq) (rEqD X.K true):=by
 intro pins s σ H x y v u Q I rx ry h
 obtain ⟨F,G,d,e,i1,i2,h1,h2,h3,q⟩:=h
 obtain ⟨as,ra⟩:=i1.reads I rx
 obtain ⟨bs,rb⟩:=i2.reads I ry
 exact SeqAt.compareNe_reads ra rb h1 h2 (by omega) ⟨.bl _,H,I,rfl,q⟩
def rInD (K:PySem.W.Frag) (neg:Bool):R2:=fun x y H Q=>∃ F G d es,Is K F H x d/\(Is K G H y (.list es)\/Is K G H y (.tuple es))/\d.canLay0=true/\PyData.canLayAll0 es=true/\d.depth<=60 /\
 Q (.bl (if neg then !es.any (fun y=>PyData.eqv y d) else es.any fun y=>PyData.eqv y d)) H
theorem op_inD (hu:X.A.units+64<cLine):OpR X (compareOp .In) (rInD X.K false):=by
 intro pins s σ H x y v u Q I rx ry h
 obtain ⟨F,G,d,es,i1,i2,h1,h2,h3,q⟩:=h
 obtain ⟨as,ra⟩:=i1.reads I rx
 rcases i2 with i2 | i2
 ·obtain ⟨bs,rb⟩:=i2.reads I ry
  exact SeqAt.in_list_reads rb ra h2 h1 (by omega) ⟨.bl _,H,I,rfl,q⟩
 ·obtain ⟨bs,rb⟩:=i2.reads I ry
  exact SeqAt.in_tuple_reads rb ra h2 h1 (by omega) ⟨.bl _,H,I,rfl,q⟩
theorem vals_bl:∀ {bs:List Bool} {us:List Value},Vals (bs.map V.bl) us->us=bs.map Value.bool
 | [],_,r=>by cases r;rfl
 | b::bs,_,r=>by
   rw [List.map_cons] at r
   cases r with
   | cons h t=>rw [vals_bl t,show _=Value.bool b from h];rfl
theorem all_range {bs:List Bool}:(List.range bs.length).all (fun i=>bs[i]?.getD false)=bs.all id:=by
 apply Bool.eq_iff_iff.mpr
 rw [List.all_eq_true,List.all_eq_true]
 constructor
 ·intro h x hx
  obtain ⟨i,hi,e⟩:=List.mem_iff_getElem.mp hx
  have:=h i (by simpa using hi)
  rw [List.getElem?_eq_getElem hi] at this
  rw [<- e];simpa using this
 ·intro h i hi
  have hi':i<bs.length:=by simpa using hi
  rw [List.getElem?_eq_getElem hi']
  simpa using h _ (List.getElem_mem hi')
def rAll (any:Bool):List V->Hp->VK->Prop:=fun xs H Q=>∃ (p:Addr) (bs:List Bool),xs = [.ref p]/\H p=some (.lst (bs.map V.bl))/\Q (.bl (if any then bs.any id else bs.all id)) H
theorem call_allL (hc:X.calm=true):CallR X (.builtin "all") (rAll false):=by
 intro pins s σ H xs us Q I r h
 obtain ⟨p,bs,rfl,hH,q⟩:=h
 obtain ⟨u,rfl,ru⟩:=Vals.one r
 cases ru
 obtain ⟨z,its,n,rv,hl,e⟩:=I.lstM hH
 have ei:=vals_bl rv
 subst ei
 have pl:s.heap.IsList p (bs.map Value.bool).toArray:=⟨_,e,rfl,_,rfl⟩
 have hne:p ≠ s.heap.objs.size:=Nat.ne_of_lt (Heap.lt_size e)
 refine call_all_walk (wpAny_pyIter_list pl ?_)
 refine ⟨s.heap.objs.size,_,_,_,_,_,fun i=>bs[i]?.getD false,rfl,Walks.list (A:=X.A.in1) (I.ok.hd hc) _ p hne (bs.map Value.bool).toArray,⟨⟨_,Heap.get?_push_size _ rfl,rfl,rfl⟩,_,Heap.get?_push_of_some _ e,rfl,_,rfl⟩,?_,fun h' tk kk=>?_⟩
 ·intro i v s' Q' E' hv hq
  have hv:(bs.map Value.bool).toArray[i]? = some v:=hv
  rw [List.getElem?_toArray,List.getElem?_map] at hv
  obtain ⟨b,hb,rfl⟩:=Option.map_eq_some_iff.mp hv
  have hq:Q' (bs[i]?.getD false) s':=hq
  rw [hb] at hq
  exact wpAny_truthy_bool hq
 ·have I1:Inv X pins σ H { s with heap:=h',toks:=tk }:=I.kept fun b o eb=>kk b o (by simp;exact Nat.ne_of_lt (Heap.lt_size eb)) (Heap.get?_push_of_some _ eb)
  refine ⟨.bl _,H,I1,?_,q⟩
  show Value.bool _=Value.bool _
  rw [List.size_toArray,List.length_map,all_range]
  rfl
theorem vals_str:∀ {ys:List Str} {us:List Value},Vals (ys.map V.str) us->StrsAre us ys
 | [],_,r=>by cases r;exact .nil
 | y::ys,_,r=>by
   rw [List.map_cons] at r
   cases r with
   | cons h t=>obtain ⟨tk,rfl⟩:=h;exact .cons y tk (vals_str t)
theorem vals_of_strs:∀ {ys:List Str} {us:List Value},StrsAre us ys->Vals (ys.map V.str) us
 | _,_,.nil => .nil
 | _,_,.cons y t r => .cons ⟨t,rfl⟩ (vals_of_strs r)
def rJoin:V->List V->Hp->VK->Prop:=fun x vs H Q=>∃ sep p ys,x = .str sep/\vs = [.ref p]/\H p=some (.lst (ys.map V.str))/\(ys.map (·.length)).sum+ys.length * sep.length<=16777216/\Q (.str (Txt.join sep ys)) H
theorem mt_join:MtM X "str.join" rJoin:=by
 intro pins s σ H x vs v us Q I rx rv h
 obtain ⟨sep,p,ys,rfl,rfl,hH,hz,q⟩:=h
 obtain ⟨t,rfl⟩:=rx
 obtain ⟨u,rfl,ru⟩:=rv.one
 cases ru
 obtain ⟨z,its,n,r,hl,e⟩:=I.lstM hH
 exact join_list ⟨_,e,rfl,_,rfl⟩ (by simpa using vals_str r) hz fun t' k=>⟨.str _,H,I.tok _,⟨_,rfl⟩,q⟩
end
end L3
namespace L3
open PySem PySem.Spec
open PyProof.Rows hiding St
open L2
def tx (l:List Nat):Str:=⟨l.toArray⟩
theorem tx_cps (x:Str):tx x.cps.toList=x:=by cases x;simp [tx]
theorem tx_toList (l:List Nat):(tx l).cps.toList=l:=by simp [tx]
theorem tx_length (l:List Nat):(tx l).length=l.length:=by simp [tx,Str.length]
def cutL {α:Type} (xs:List α) (lo hi:Option Int):List α:=(xs.drop (HT.sIx xs.length 0 lo)).take (HT.sIx xs.length xs.length hi - HT.sIx xs.length 0 lo)
theorem sIx_clip (n d:Nat) (v:Int):max (0:Int) (min (if v<0 then v+n else v) n)=((HT.sIx n d (some v):Nat):Int):=by
 rw [<- HT.clip_eq v n d]
 by_cases h:v<0
 ·rw [if_pos h,if_pos h];omega
 ·rw [if_neg h,if_neg h];omega
theorem slice_range (lo hi:Option Int) (n:Nat):Builtin.Str.strSliceIndices lo hi 1 n=(List.range (HT.sIx n n hi - HT.sIx n 0 lo)).map fun k=>HT.sIx n 0 lo+k:=by
 have e1:(match lo with | none=>(0:Int) | some i=>max 0 (min (if i<0 then i+(n:Int) else i) n))=((HT.sIx n 0 lo:Nat):Int):=by
  cases lo with
  | none=>rfl
  | some v=>exact sIx_clip n 0 v
 have e2:(match hi with | none=>(n:Int) | some i=>max 0 (min (if i<0 then i+(n:Int) else i) n))=((HT.sIx n n hi:Nat):Int):=by
  cases hi with
  | none=>rfl
  | some v=>exact sIx_clip n n v
 have e0:Builtin.Str.strSliceIndices lo hi 1 n=sliceRange ((HT.sIx n 0 lo:Nat):Int) ((HT.sIx n n hi:Nat):Int) 1:=by
  rw [<- e1,<- e2]
  cases lo <;> cases hi <;> rfl
 rw [e0]
 generalize HT.sIx n 0 lo=a
 generalize HT.sIx n n hi=b
 simp only [sliceRange,show ((1:Int) > 0)=True from by simp,if_true]
 by_cases hlt:(a:Int)<b
 ·have e3:(((b:Int) - a+1 - 1) / 1).toNat=b - a:=by first | omega | (simp;done) | (simp;omega)
  simp only [hlt,if_true,e3]
  refine List.map_congr_left fun k _=>?_
  omega
 ·have:b - a=0:=by omega
  simp [hlt,this]
theorem picks' {α:Type} (l:List α):∀ (n a:Nat),a+n<=l.length->((List.range n).map fun k=>a+k).filterMap (fun i=>l[i]?)=(l.drop a).take n
 | 0,_,_=>by simp
 | n+1,a,h=>by
   have hlt:a+n<l.length:=by omega
   rw [List.range_succ,List.map_append,List.filterMap_append,picks' l n a (by omega),List.take_add_one,List.getElem?_drop]
   simp [List.getElem?_eq_getElem hlt]
section
variable {X : Cx}
def rSlS:V->Option Int->Option Int->Hp->VK->Prop:=fun x lo hi H Q=>∃ z:Str,x = .str z/\z.length<=sizeLine/\Q (.str (tx (cutL z.cps.toList lo hi))) H
theorem sl_str:SlR X rSlS:=by
 intro pins s σ H x v vl vu lo hi sl Q I rx hs pl pu h
 obtain ⟨z,rfl,hz,q⟩:=h
 obtain ⟨t,rfl⟩:=rx
 refine ⟨"str", _,PySem.F.slot_str_getitem.lookup,typeIs_str s z t,?_⟩
 have hl:z.cps.toList.length=z.length:=by simp [Str.length]
 have hi':HT.sIx z.length z.length hi<=z.length:=HT.sIx_le _ _ (Nat.le_refl _) hi
 have key:∀ l u:Option (Int × Tok),l.map (·.1)=lo->u.map (·.1)=hi->s.heap.IsSlice sl l u none->wpAny (model X.prog X.w) X.A (getItem (.str z t) (.ref sl)) (EP X pins σ Q) X.xe s:=by
  intro l u el eu hsl
  have e:slicePicked z l u none=(List.range (HT.sIx z.length z.length hi - HT.sIx z.length 0 lo)).map fun k=>HT.sIx z.length 0 lo+k:=by
   unfold slicePicked
   rw [el,eu]
   exact slice_range lo hi z.length
  have ec:tx (cutL z.cps.toList lo hi)=⟨((slicePicked z l u none).filterMap (z.cps[·]?)).toArray⟩:=by
   rw [e]
   unfold cutL tx
   rw [hl]
   by_cases hij:HT.sIx z.length 0 lo<=HT.sIx z.length z.length hi
   ·have p:=picks' z.cps.toList (HT.sIx z.length z.length hi - HT.sIx z.length 0 lo) (HT.sIx z.length 0 lo) (by rw [hl];omega)
    rw [<- p]
    simp
   ·have:HT.sIx z.length z.length hi - HT.sIx z.length 0 lo=0:=by omega
    rw [this]
    simp
  refine wpAny_getItem_str_slice hsl rfl ?_
  unfold sliceMade
  split
  ·rename_i hc
   have hw:(slicePicked z l u none).length=z.length:=by simpa using hc
   have ex:tx (cutL z.cps.toList lo hi)=z:=by
    rw [e,List.length_map,List.length_range] at hw
    unfold cutL
    rw [hl]
    have h0:HT.sIx z.length 0 lo=0\/z.length=0:=by omega
    rcases h0 with h0 | h0
    ·rw [h0] at hw ⊢
     rw [List.drop_zero,List.take_of_length_le (by rw [hl];omega)]
     exact tx_cps z
    ·have hn:z.cps.toList = []:=List.eq_nil_of_length_eq_zero (by rw [hl];exact h0)
     rw [hn]
     simp only [List.drop_nil,List.take_nil]
     rw [<- hn]
     exact tx_cps z
   exact ⟨.str _,H,I,⟨t,by rw [ex]⟩,q⟩
  ·rw [<- ec]
   have hlen:(tx (cutL z.cps.toList lo hi)).length<=sizeLine:=by
    rw [tx_length]
    unfold cutL
    rw [List.length_take,List.length_drop,hl]
    omega
   first
    | exact ⟨.str _,H,I.tok _,⟨_,rfl⟩,q⟩
    | exact ⟨hlen,.str _,H,I.tok _,⟨_,rfl⟩,q⟩
    | exact fun _=>⟨.str _,H,I.tok _,⟨_,rfl⟩,q⟩
 obtain ⟨o,ho,hc,hd⟩:=hs
 cases pl with
 | none=>cases pu with
   | none=>exact key none none rfl rfl ⟨o,ho,hc,hd⟩
   | int j t'=>exact key none (some (j,t')) rfl rfl ⟨o,ho,hc,hd⟩
 | int i ti=>cases pu with
   | none=>exact key (some (i,ti)) none rfl rfl ⟨o,ho,hc,hd⟩
   | int j t'=>exact key (some (i,ti)) (some (j,t')) rfl rfl ⟨o,ho,hc,hd⟩
def rSlTW (K:PySem.W.Frag):V->Option Int->Option Int->Hp->VK->Prop:=fun x lo hi H Q=>∃ a xs,x = .ref a/\SqT K H a xs/\(HT.sIx xs.length 0 lo=0/\HT.sIx xs.length xs.length hi=xs.length)/\Q (.ref a) H
theorem getItem_tuple_whole {prog:Program} {w:World} {A:Around} {E:Value->Shared->Prop} {s:Shared} {t sl:Addr} {items:Array Value} {vl vu:Value} {lo hi:Option Int} {Q:Value->Shared->Prop} (ht:IsTup s.heap t items) (hs:s.heap.IsSliceOf sl vl vu .none) (pl:IsPart vl lo) (pu:IsPart vu hi)
 (hw:HT.sIx items.size 0 lo=0/\HT.sIx items.size items.size hi=items.size) (h:Q (.ref t) s):wpAny (model prog w) A (getItem (.ref t) (.ref sl)) Q E s:=by
 obtain ⟨os,hos,hcs,hds⟩:=id hs
 have hTs:s.TypeIs (.ref sl) "slice" := ⟨os,hos,hcs⟩
 unfold getItem
 try with_reducible refine wpAny_holding ?_
 first | refine wpAny_bind (wpAny_pure ?_) | skip
 refine wpAny_bind (wpAny_sequenceKey ht.typeIs (by decide) ?_)
 refine wpAny_bind (wpAny_callSpecial?_slot (name:=Str.ofString "__getitem__") ht.typeIs PyProof.Rows.slot_tuple_getitem
  (wpAny_call_entry PyProof.Rows.slot_tuple_getitem ht.typeIs entry_tuple_getitem ?_ (args_tuple_getitem _ _)))
 show wpAny _ _ (Builtin.Tuple.tupleItemsOf (.ref t) >>= _) _ _ s
 refine wpAny_bind (tupleItemsOf_ ht ?_)
 refine wpAny_bind (wpAny_typeOf hTs ?_)
 rw [if_pos (by decide)]
 refine wpAny_bind (HT.sliceApplied_gen hs pl pu ?_)
 have hno:(((HT.sIx items.size 0 lo:Nat):Int) == 0 && (1:Int) == 1 && (HT.sIx items.size items.size hi - HT.sIx items.size 0 lo) == items.size)=true:=by
  rw [hw.1,hw.2]
  simp
 show wpAny _ _ (if (((HT.sIx items.size 0 lo:Nat):Int) == 0 && (1:Int) == 1 && (HT.sIx items.size items.size hi - HT.sIx items.size 0 lo) == items.size)=true then _ else _) _ _ s
 rw [if_pos hno]
 obtain ⟨o,ho,hc,n,hd⟩:=id ht
 refine wpAny_bind ?_
 unfold Builtin.Tuple.tupleIsExact
 refine wpAny_bind (wpAny_typeOf ht.typeIs (wpAny_pure ?_))
 show wpAny _ _ (if ((Value.type "tuple") == (Value.type "tuple"))=true then _ else _) _ _ s
 rw [if_pos (by decide)]
 exact wpAny_bind (wpAny_rule (wpAny_pure ⟨_,rfl,wpAny_pure h⟩))
theorem sl_tupW:SlR X (rSlTW X.K):=by
 intro pins s σ H x v vl vu lo hi sl Q I rx hs pl pu h
 obtain ⟨a,xs,rfl,hx,hw,q⟩:=h
 cases rx
 obtain ⟨its,r,ht,hz⟩:=I.tuple hx
 have hlen:its.toArray.size=xs.length:=by rw [List.size_toArray];exact r.length.symm
 exact ⟨"tuple", _,PyProof.Rows.slot_tuple_getitem.lookup,ht.typeIs,getItem_tuple_whole ht hs pl pu (by rw [hlen];exact hw) ⟨.ref a,H,I,rfl,q⟩⟩
def rSl (K:PySem.W.Frag):V->Option Int->Option Int->Hp->VK->Prop:=fun x lo hi H Q=>rSlL K x lo hi H Q\/rSlT K x lo hi H Q\/rSlTW K x lo hi H Q\/rSlS x lo hi H Q
theorem sl_any:SlR X (rSl X.K):=sl_list.or (sl_tup.or (sl_tupW.or sl_str))
def rCatT0 (K:PySem.W.Frag):R2:=fun x y H Q=>∃ a b ys,x = .ref a/\y = .ref b/\SqT K H a []/\SqT K H b ys/\Q (.ref b) H
theorem op_catT0:OpR X (binaryOp .Add) (rCatT0 X.K):=by
 intro pins s σ H x y v u Q I rx ry h
 obtain ⟨a,b,ys,rfl,rfl,ha,hb,q⟩:=h
 cases rx
 cases ry
 obtain ⟨its,r1,p1,_⟩:=I.tuple ha
 obtain ⟨its2,r2,p2,_⟩:=I.tuple hb
 cases r1
 obtain ⟨⟨cls,dd,data,sl⟩,ho,hc,n,hd⟩:=id p1
 obtain ⟨⟨cls2,dd2,data2,sl2⟩,ho2,hc2,n2,hd2⟩:=id p2
 simp only at hc hd hc2 hd2
 subst hc hd hc2 hd2
 exact concat_meets ⟨_,ho,rfl⟩ ⟨_,ho2,rfl⟩ noFill_tuple_add seq_tuple_add PySem.F.slot_tuple_add PySem.F.entry_tuple_add (PySem.F.args_tuple_add_2 _ _)
  (tuple_addW0 a b _ its2.toArray n n2 dd dd2 sl sl2 (by simp)) ⟨ho,ho2,⟨.ref b,H,I,rfl,q⟩⟩
end
end L3
namespace L3
open PySem PySem.Spec
open PyProof.Rows hiding St
open L2
section
variable {K : PySem.W.Frag} {O : Ob} {F : Addr → Prop} {H : Hp}
theorem isAll_strs:∀ {vs:List V} {ys:List Str},IsAll K F H vs (ys.map .str)->vs=ys.map V.str
 | _,[],h=>by cases h;rfl
 | _,y::ys,h=>by
   rw [List.map_cons] at h
   cases h with
   | cons h1 h2=>cases h1;rw [isAll_strs h2];rfl
theorem isAll_bools:∀ {vs:List V} {bs:List Bool},IsAll K F H vs (bs.map .bool)->vs=bs.map V.bl
 | _,[],h=>by cases h;rfl
 | _,y::ys,h=>by
   rw [List.map_cons] at h
   cases h with
   | cons h1 h2=>cases h1;rw [isAll_bools h2];rfl
theorem strs_isAll:∀ (ys:List Str),IsAll K F H (ys.map V.str) (ys.map .str)
 | [] => .nil
 | y::ys => .cons (.str y) (strs_isAll ys)
theorem isAll_atI {vs:List V} {ds:List PyData} {i:Int} {d:PyData} (h:IsAll K F H vs ds) (e:atI ds i=some d):∃ v,atI vs i=some v/\Is K F H v d:=by
 unfold atI at e ⊢
 rw [h.length]
 cases q:ixN ds.length i with
 | none=>rw [q] at e;cases e
 | some j =>
   rw [q] at e
   obtain ⟨v,hv,iv⟩:=h.get (i:=j) e
   exact ⟨v,hv,iv⟩
theorem isAll_cut {vs:List V} {ds:List PyData} (h:IsAll K F H vs ds) (lo hi:Option Int):IsAll K F H (cutV vs lo hi) (cutL ds lo hi):=by
 unfold cutV cutL
 rw [h.length]
 exact (h.drop _).take _
theorem out_list {H:Hp} {p:Addr} {vs:List V} {ds:List PyData} (ok:O.Ok) (hp:H p=none) (h:IsAll K (unM O) H vs ds):Stp O H (upd H p (.lst vs))/\Out K O H (upd H p (.lst vs)) (.ref p) (.n ds):=by
 have s:Stp O H (upd H p (.lst vs)) := .new ok hp _
 exact ⟨s,p,vs,rfl,hp,upd_same,h.stp s (fun _ z=>z) (fun _ z=>z)⟩
theorem out_tup {H:Hp} {p:Addr} {vs:List V} {ds:List PyData} (ok:O.Ok) (hp:H p=none) (h:IsAll K (unM O) H vs ds):Stp O H (upd H p (.tup vs))/\Out K O H (upd H p (.tup vs)) (.ref p) (.o (.tuple ds)):=by
 have s:Stp O H (upd H p (.tup vs)) := .new ok hp _
 exact ⟨s,Is.tuple (.of upd_same) (h.stp s (fun _ z=>z) (fun _ z=>z))⟩
def okD (d:PyData):Bool:=d.canLay0 && decide (d.depth<=60)
def eqF (neg:Bool):PyData->PyData->Option R:=fun d e=>if (okD d && e.canLay0)=true then some (.o (.bool (if neg then !PyData.eqv d e else PyData.eqv d e))) else none
theorem opd_eq (neg:Bool):OpD K O (rEqD K neg) (fn2 (eqF neg)):=fun H x y d e Q Qd ok p ix iy ⟨r,hr,q⟩ k=>by
 unfold eqF at hr
 split at hr
 ·rename_i hc
  cases hr
  simp only [Bool.and_eq_true,okD,decide_eq_true_eq] at hc
  exact ⟨_,_,d,e,ix,iy,hc.1.1,hc.2,hc.1.2,k _ H (.o _) (.refl _ _) (Is.bool _) q⟩
 ·cases hr
def inF (neg:Bool):PyData->PyData->Option R:=fun d e=>match d,e with
 | .str x,.str y=>some (.o (.bool (if neg then !(!(Builtin.Str.occurrences y x 0 y.length 1).isEmpty) else !(Builtin.Str.occurrences y x 0 y.length 1).isEmpty)))
 | d,.list es=>if (okD d && PyData.canLayAll0 es)=true then some (.o (.bool (if neg then !es.any (fun y=>PyData.eqv y d) else es.any fun y=>PyData.eqv y d))) else none
 | d,.tuple es=>if (okD d && PyData.canLayAll0 es)=true then some (.o (.bool (if neg then !es.any (fun y=>PyData.eqv y d) else es.any fun y=>PyData.eqv y d))) else none
 | _,_=>none
def rInU (K:PySem.W.Frag):R2:=fun x y H Q=>(∃ i j,x = .str i/\y = .str j/\Q (.bl (!(Builtin.Str.occurrences j i 0 j.length 1).isEmpty)) H)\/rInD K false x y H Q
theorem op_inU {X:Cx} (hu:X.A.units+64<cLine):OpR X (compareOp .In) (rInU X.K):=op_in_str.or (op_inD hu)
theorem opd_inS {neg:Bool} {H:Hp} {x y:V} {d e:PyData} {Q:VK} {Qd:R->Prop} (ix:Is K (unM O) H x d) (iy:Is K (unM O) H y e) (q:fn2 (inF neg) d e Qd) (k:∀ v H' r,Stp O H H'->Out K O H H' v r->Qd r->Q v H') :
 (∃ i j,x = .str i/\y = .str j/\Q (.bl (if neg then !(!(Builtin.Str.occurrences j i 0 j.length 1).isEmpty) else !(Builtin.Str.occurrences j i 0 j.length 1).isEmpty)) H)\/rInD K neg x y H Q:=by
 obtain ⟨r,hr,q⟩:=q
 unfold inF at hr
 split at hr
 ·rename_i a b
  cases ix
  cases iy
  cases hr
  exact .inl ⟨a,b,rfl,rfl,k _ H (.o _) (.refl _ _) (Is.bool _) q⟩
 ·split at hr
  ·rename_i hc
   cases hr
   simp only [Bool.and_eq_true,okD,decide_eq_true_eq] at hc
   exact .inr ⟨_,_,_,_,ix,.inl iy,hc.1.1,hc.2,hc.1.2,k _ H (.o _) (.refl _ _) (Is.bool _) q⟩
  ·cases hr
 ·split at hr
  ·rename_i hc
   cases hr
   simp only [Bool.and_eq_true,okD,decide_eq_true_eq] at hc
   exact .inr ⟨_,_,_,_,ix,.inr iy,hc.1.1,hc.2,hc.1.2,k _ H (.o _) (.refl _ _) (Is.bool _) q⟩
  ·cases hr
 ·cases hr
theorem opd_in:OpD K O (rInU K) (fn2 (inF false)):=fun H x y d e Q Qd ok p ix iy q k=>opd_inS ix iy q k
def intF (g:Int->Int->PyData):PyData->PyData->Option R
 | .int i,.int j=>some (.o (g i j))
 | _,_=>none
theorem opd_int0 {g:Int->Int->V} {G:Int->Int->PyData} (h:∀ i j H,Is K (unM O) H (g i j) (G i j)):OpD K O (rI0 g) (fn2 (intF G)):=fun H x y d e Q Qd ok p ix iy ⟨r,hr,q⟩ k=>by
 unfold intF at hr
 split at hr
 ·cases ix
  cases iy
  cases hr
  exact ⟨_,_,rfl,rfl,k _ H (.o _) (.refl _ _) (h _ _ H) q⟩
 ·cases hr
theorem opd_sub:OpD K O (rI0 fun i j => .int (i - j)) (fn2 (intF fun i j => .int (i - j))):=opd_int0 fun _ _ _ => .int _
theorem opd_lt:OpD K O (rI0 fun i j => .bl (decide (i<j))) (fn2 (intF fun i j => .bool (decide (i<j)))):=opd_int0 fun _ _ _ => .bool _
theorem opd_le:OpD K O (rI0 fun i j => .bl (decide (i<=j))) (fn2 (intF fun i j => .bool (decide (i<=j)))):=opd_int0 fun _ _ _ => .bool _
theorem opd_gt:OpD K O (rI0 fun i j => .bl (decide (j<i))) (fn2 (intF fun i j => .bool (decide (j<i)))):=opd_int0 fun _ _ _ => .bool _
def rAddU (K:PySem.W.Frag):R2:=fun x y H Q=>rI0 (fun i j => .int (i+j)) x y H Q\/(∃ i j,x = .str i/\y = .str j/\i.length+j.length<=sizeLine/\Q (.str (i++j)) H)\/rCat x y H Q\/rCatT K x y H Q\/rCatT0 K x y H Q
theorem op_addU {X:Cx}:OpR X (binaryOp .Add) (rAddU X.K):=op_add.or (op_add_str.or (op_cat.or (op_catT.or op_catT0)))
def addF:PyData->PyData->Option R:=fun d e=>match d,e with
 | .int i,.int j=>some (.o (.int (i+j)))
 | .str x,.str y=>if x.length+y.length<=sizeLine then some (.o (.str (x++y))) else none
 | .list a,.list b=>if a.length+b.length<=sizeLine then some (.n (a++b)) else none
 | .tuple a,.tuple b=>if a.length+b.length<=sizeLine then some (.o (.tuple (a++b))) else none
 | _,_=>none
theorem opd_add:OpD K O (rAddU K) (fn2 addF):=fun H x y d e Q Qd ok p ix iy ⟨r,hr,q⟩ k=>by
 unfold addF at hr
 split at hr
 ·cases ix
  cases iy
  cases hr
  exact .inl ⟨_,_,rfl,rfl,k _ H (.o _) (.refl _ _) (Is.int _) q⟩
 ·split at hr
  ·rename_i hz
   cases ix
   cases iy
   cases hr
   exact .inr (.inl ⟨_,_,rfl,rfl,hz,k _ H (.o _) (.refl _ _) (Is.str _) q⟩)
  ·cases hr
 ·split at hr
  ·rename_i hz
   cases hr
   cases ix with
   | list f1 h1 s1 =>
     cases iy with
     | list f2 h2 s2 =>
       refine .inr (.inr (.inl ⟨_,_,_,_,rfl,rfl,h1,h2,by rw [s1.length,s2.length];exact hz,fun p' hp=>?_⟩))
       obtain ⟨a1,a2⟩:=out_list ok hp (s1.append s2)
       exact k _ _ _ a1 a2 q
  ·cases hr
 ·split at hr
  ·rename_i hz
   cases hr
   cases ix with
   | tuple h1 s1 =>
     cases iy with
     | tuple h2 s2 =>
       rename_i a xs b ys
       cases xs with
       | nil =>
         cases s1
         exact .inr (.inr (.inr (.inr ⟨a,b,ys,rfl,rfl,h1,h2,k _ H (.o _) (.refl _ _) (Is.tuple h2 s2) q⟩)))
       | cons z zs =>
         refine .inr (.inr (.inr (.inl ⟨a,b,_,ys,rfl,rfl,h1,h2,by simp,by rw [s1.length,s2.length];exact hz,fun e=>?_,fun _ p' hp=>?_⟩)))
         ·subst e
          cases s2
          rw [List.append_nil] at q
          exact k _ H (.o _) (.refl _ _) (Is.tuple h1 s1) q
         ·obtain ⟨a1,a2⟩:=out_tup ok hp (s1.append s2)
          exact k _ _ _ a1 a2 q
  ·cases hr
 ·cases hr
def idxF:PyData->PyData->Option R:=fun d e=>match d,e with
 | .list ds,.int i=>(atI ds i).map .o
 | .tuple ds,.int i=>(atI ds i).map .o
 | .str x,.int i=>if x.length<=sizeLine then (atI x.cps.toList i).map fun c => .o (.str (sg c)) else none
 | _,_=>none
theorem opd_idx:OpD K O (rIx K) (fn2 idxF):=fun H x y d e Q Qd ok p ix iy ⟨r,hr,q⟩ k=>by
 unfold idxF at hr
 split at hr
 ·obtain ⟨z,hz,rfl⟩:=Option.map_eq_some_iff.mp hr
  cases iy
  cases ix with
  | list f1 h1 s1 =>
    obtain ⟨v,hv,iv⟩:=isAll_atI s1 hz
    exact .inl ⟨_,_,_,v,rfl,rfl,.of h1,hv,k v H (.o z) (.refl _ _) iv q⟩
 ·obtain ⟨z,hz,rfl⟩:=Option.map_eq_some_iff.mp hr
  cases iy
  cases ix with
  | tuple h1 s1 =>
    obtain ⟨v,hv,iv⟩:=isAll_atI s1 hz
    exact .inr (.inl ⟨_,_,_,v,rfl,rfl,h1,hv,k v H (.o z) (.refl _ _) iv q⟩)
 ·split at hr
  ·rename_i hl
   obtain ⟨c,hc,rfl⟩:=Option.map_eq_some_iff.mp hr
   cases iy
   cases ix
   exact .inr (.inr ⟨_,_,c,rfl,rfl,hl,hc,k _ H (.o _) (.refl _ _) (Is.str _) q⟩)
  ·cases hr
 ·cases hr
abbrev DO:=DSt->(Option Int->Prop)->Prop
def OD (K:PySem.W.Frag) (O:Ob) (t:TO) (f:DO):Prop :=
 ∀ (σ:St) (H:Hp) (ρ:DSt) (Q:Option Int->Hp->Prop) (Qd:Option Int->Prop),Seen K O H σ ρ->f ρ Qd->(∀ o H',Stp O H H'->Qd o->Q o H')->t σ H Q
def noO:DO:=fun _ Q=>Q none
def someO (f:DE):DO:=fun ρ Q=>f ρ fun r=>∃ i,r.d = .int i/\Q (some i)
theorem od_none:OD K O tNoPart noO:=fun σ H ρ Q Qd S h k=>k none H (.refl _ _) h
theorem od_some {t:TE} {f:DE} (h:ED K O t f):OD K O (tPart t) (someO f):=fun σ H ρ Q Qd S hf k=>by
 refine h σ H ρ _ _ S hf fun v H1 r s1 o1 ⟨i,e,q⟩=>?_
 have iv:=o1.is S.ok S.p
 rw [e] at iv
 cases iv
 exact ⟨i,rfl,k (some i) H1 s1 q⟩
def slcF (lo hi:Option Int):PyData->Option R
 | .list ds=>some (.n (cutL ds lo hi))
 | .tuple ds=>some (.o (.tuple (cutL ds lo hi)))
 | .str x=>if x.length<=sizeLine then some (.o (.str (tx (cutL x.cps.toList lo hi)))) else none
 | _=>none
def slD (f:DE) (a b:DO):DE:=fun ρ Q=>f ρ fun r=>a ρ fun lo=>b ρ fun hi=>∃ s,slcF lo hi r.d=some s/\Q s
theorem ed_slice {t:TE} {tl th:TO} {f:DE} {a b:DO} (h:ED K O t f) (ha:OD K O tl a) (hb:OD K O th b):ED K O (tSl (rSl K) t tl th) (slD f a b):=fun σ H ρ Q Qd S hf k=>by
 refine h σ H ρ _ _ S hf fun v H1 r s1 o1 q1=>?_
 refine ha σ H1 ρ _ _ (S.stp s1) q1 fun lo H2 s2 q2=>?_
 refine hb σ H2 ρ _ _ ((S.stp s1).stp s2) q2 fun hi H3 s3 ⟨s,hr,q⟩=>?_
 have st:=(s1.trans s2).trans s3
 have iv:Is K (unM O) H3 v r.d:=Is.stp (s2.trans s3) (fun _ z=>z) (fun _ z=>z) (o1.is S.ok S.p)
 revert hr
 generalize r.d=d at iv
 intro hr
 unfold slcF at hr
 split at hr
 ·cases hr
  cases iv with
  | list f1 h1 z1 =>
    refine .inl ⟨_,_,rfl,.of h1,fun p hp=>?_⟩
    obtain ⟨a1,a2⟩:=out_list S.ok hp (isAll_cut z1 lo hi)
    exact k _ _ _ (st.trans a1) (Out.ahead S.ok S.p st a2) q
 ·cases hr
  cases iv with
  | tuple h1 z1 =>
    rename_i a' xs
    by_cases hw:HT.sIx xs.length 0 lo=0/\HT.sIx xs.length xs.length hi=xs.length
    ·refine .inr (.inr (.inl ⟨a',xs,rfl,h1,hw,k _ H3 (.o _) st ?_ q⟩))
     have e:cutV xs lo hi=xs:=by
      unfold cutV
      rw [hw.1,hw.2,List.drop_zero,Nat.sub_zero,List.take_length]
     have z2:=isAll_cut z1 lo hi
     rw [e] at z2
     exact Is.tuple h1 z2
    ·refine .inr (.inl ⟨a',xs,rfl,h1,hw,fun p hp=>?_⟩)
     obtain ⟨a1,a2⟩:=out_tup S.ok hp (isAll_cut z1 lo hi)
     exact k _ _ _ (st.trans a1) (Out.ahead S.ok S.p st a2) q
 ·split at hr
  ·rename_i hl
   cases hr
   cases iv
   exact .inr (.inr (.inr ⟨_,rfl,hl,k _ H3 (.o _) st (Is.str _) q⟩))
  ·cases hr
 ·cases hr
def lenF:List PyData->Option R
 | [.str x]=>if x.length<=sizeLine then some (.o (.int x.length)) else none
 | [.list ds]=>some (.o (.int ds.length))
 | [.tuple ds]=>some (.o (.int ds.length))
 | _=>none
theorem isAll_one {vs:List V} {d:PyData} (h:IsAll K F H vs [d]):∃ v,vs = [v]/\Is K F H v d:=by
 cases h with
 | cons h1 h2=>cases h2;exact ⟨_,rfl,h1⟩
theorem cd_len:CallD K O (fun xs H Q=>∃ x n,xs = [x]/\LenV K x H n/\Q (.int n) H) (fn1 lenF):=fun H vs ds Q Qd ok p is ⟨r,hr,q⟩ k=>by
 unfold lenF at hr
 split at hr
 ·split at hr
  ·rename_i hl
   obtain ⟨v,rfl,iv⟩:=isAll_one is
   cases iv
   cases hr
   exact ⟨_,_,rfl,⟨hl,rfl⟩,k _ H (.o _) (.refl _ _) (Is.int _) q⟩
  ·cases hr
 ·obtain ⟨v,rfl,iv⟩:=isAll_one is
  cases hr
  cases iv with
  | list f1 h1 s1=>exact ⟨_,_,rfl,.inl ⟨_,.of h1,s1.length.symm⟩,k _ H (.o _) (.refl _ _) (Is.int _) q⟩
 ·obtain ⟨v,rfl,iv⟩:=isAll_one is
  cases hr
  cases iv with
  | tuple h1 s1=>exact ⟨_,_,rfl,.inr ⟨_,h1,s1.length.symm⟩,k _ H (.o _) (.refl _ _) (Is.int _) q⟩
 ·cases hr
def allD (any:Bool):List PyData->(R->Prop)->Prop:=fun ds Q=>∃ bs:List Bool,ds = [.list (bs.map .bool)]/\Q (.o (.bool (if any then bs.any id else bs.all id)))
theorem cd_all (any:Bool):CallD K O (rAll any) (allD any):=fun H vs ds Q Qd ok p is ⟨bs,e,q⟩ k=>by
 subst e
 obtain ⟨v,rfl,iv⟩:=isAll_one is
 cases iv with
 | list f1 h1 s1 =>
   rw [isAll_bools s1] at h1
   exact ⟨_,bs,rfl,h1,k _ H (.o _) (.refl _ _) (Is.bool _) q⟩
def tupF:List PyData->Option R
 | [.list ds]=>some (.o (.tuple ds))
 | [.tuple ds]=>some (.o (.tuple ds))
 | _=>none
theorem cd_tuple:CallD K O (fun xs H Q=>∃ p ys,xs = [.ref p]/\((SqL K H p ys/\∀ l,H l=none->Q (.ref l) (upd H l (.tup ys)))\/(SqT K H p ys/\Q (.ref p) H))) (fn1 tupF):=fun H vs ds Q Qd ok p is ⟨r,hr,q⟩ k=>by
 unfold tupF at hr
 split at hr
 ·obtain ⟨v,rfl,iv⟩:=isAll_one is
  cases hr
  cases iv with
  | list f1 h1 s1 =>
    refine ⟨_,_,rfl,.inl ⟨.of h1,fun l hl=>?_⟩⟩
    obtain ⟨a1,a2⟩:=out_tup ok hl s1
    exact k _ _ _ a1 a2 q
 ·obtain ⟨v,rfl,iv⟩:=isAll_one is
  cases hr
  cases iv with
  | tuple h1 s1=>exact ⟨_,_,rfl,.inr ⟨h1,k _ H (.o _) (.refl _ _) (Is.tuple h1 s1) q⟩⟩
 ·cases hr
def joinD (fo:DE) (fa:DE):DE:=fun ρ Q=>fo ρ fun r0=>∃ sep,r0.d = .str sep/\fa ρ fun r=>∃ ys:List Str,r.d = .list (ys.map .str)/\(ys.map (·.length)).sum+ys.length * sep.length<=16777216/\Q (.o (.str (Txt.join sep ys)))
theorem ed_join {to ta:TE} {fo fa:DE} (ho:ED K O to fo) (ha:ED K O ta fa):ED K O (tBM K "str" rJoin to (tCons ta tNil)) (joinD fo fa):=fun σ H ρ Q Qd S hf k=>by
 refine ho σ H ρ _ _ S hf fun v H1 r0 s1 o1 ⟨sep,e0,q1⟩=>?_
 have i0:=o1.is S.ok S.p
 rw [e0] at i0
 cases i0
 refine ⟨rfl,?_⟩
 refine ha σ H1 ρ _ _ (S.stp s1) q1 fun w H2 r s2 o2 ⟨ys,e,hz,q⟩=>?_
 have i1:=o2.is S.ok (s1.p S.p)
 rw [e] at i1
 cases i1 with
 | list f1 h1 z1 =>
   rw [isAll_strs z1] at h1
   exact ⟨sep,_,ys,rfl,rfl,h1,hz,k _ H2 (.o _) (s1.trans s2) (Is.str _) q⟩
end
end L3
namespace L3
open PySem PySem.Spec
open PyProof.Rows hiding St
open L2
structure Ctx3 {ι:Type} (P:Program) (w:World) (K:PySem.W.Frag) (mg:Str->Option Value) (base:Heap) (k:Nat) (X:ι->Cx):Prop where
 hP:∀ i,(X i).prog=P
 hw:∀ i,(X i).w=w
 hK:∀ i,(X i).K=K
 hmg:∀ i,(X i).mg=mg
 hb:∀ i,(X i).base=base
 calm:∀ i,(X i).calm=true
 room:∀ i,Room k (X i).A
 xe:∀ i,(X i).xe=fun _ _=>False
def E3 {ι κ:Type} (K:PySem.W.Frag) (X:ι->Cx) (O:κ->Ob) (e:Expr) (f:DE):Prop:=∃ t,(∀ i,PE (X i) e t)/\∀ j,ED K (O j) t f
def T3 {ι κ:Type} (K:PySem.W.Frag) (X:ι->Cx) (O:κ->Ob) (e:Expr) (f:DT):Prop:=∃ t,(∀ i,PT (X i) e t)/\∀ j,TD K (O j) t f
def W3 {ι κ:Type} (K:PySem.W.Frag) (X:ι->Cx) (O:κ->Ob) (e:Expr) (f:DT):Prop:=∃ t,(∀ i,PW (X i) e t)/\∀ j,TD K (O j) t f
def A3 {ι κ:Type} (K:PySem.W.Frag) (X:ι->Cx) (O:κ->Ob) (es:List Expr) (f:DA):Prop:=∃ t,(∀ i,PA (X i) es t)/\∀ j,AD K (O j) t f
def I3 {ι κ:Type} (K:PySem.W.Frag) (X:ι->Cx) (O:κ->Ob) (tg e:Expr) (f:DI):Prop:=∃ t,(∀ i,PI (X i) tg e t)/\∀ j,SrcS K (O j) t f
def J3 {ι κ:Type} (K:PySem.W.Frag) (X:ι->Cx) (O:κ->Ob) (tg e:Expr) (f:DJ):Prop:=∃ t,(∀ i,PI (X i) tg e t)/\∀ j,SrcR K (O j) t f
def S3 {ι κ:Type} (K:PySem.W.Frag) (X:ι->Cx) (O:κ->Ob) (s:Stmt) (g:DS):Prop:=∃ t,(∀ i,PS (X i) s t)/\∀ j,SD K (O j) t g
def Ss3 {ι κ:Type} (K:PySem.W.Frag) (X:ι->Cx) (O:κ->Ob) (s:List Stmt) (g:DS):Prop:=∃ t,(∀ i,PSs (X i) s t)/\∀ j,SD K (O j) t g
def O3 {ι κ:Type} (K:PySem.W.Frag) (X:ι->Cx) (O:κ->Ob) (e:Option Expr) (f:DO):Prop:=∃ t,(∀ i,PO (X i) e t)/\∀ j,OD K (O j) t f
def G3 {ι:Type} (K:PySem.W.Frag) (X:ι->Cx) (h:Nat) (tg:Expr) (g:DG):Prop:=∃ t,(∀ i,PG (X i) tg t)/\(∀ O:Ob,GS K O t g)/\(∀ O:Ob,GR K O t g)/\OwnG h t
section
variable {ι κ : Type} {P : Program} {w : World} {K : PySem.W.Frag} {mg : Str → Option Value} {base : Heap} {k : Nat} {X : ι → Cx} {O : κ → Ob} {a b c : Expr} {fa fb fc : DE} {pos : Pos}
theorem e_var (n:Nat) {x:Str} (hN:∀ i,(X i).N[n]? = some x:=by intro i;rfl) (hv:∀ i,Vis (X i).env.scope x:=by intro i;first | exact Or.inl rfl | exact Or.inr (Or.inl rfl) | exact Or.inr (Or.inr rfl))
 (hd:(x == ("__debug__" : Str))=false:=by decide) (hcd:(x == ("__classdict__" : Str))=false:=by decide):E3 K X O (.Name x pos) (vD n):=⟨_,fun i=>pe_var (hN i) (hv i) hd hcd,fun j=>ed_var⟩
theorem e_int {n:Int} {j:Nat}:E3 K X O (.Constant (.int n) j pos) (cD (.int n)):=⟨_,fun i=>pe_int,fun j=>ed_int⟩
theorem e_str {x:Str} {j:Nat}:E3 K X O (.Constant (.str x) j pos) (cD (.str x)):=⟨_,fun i=>pe_str,fun j=>ed_str⟩
theorem e_bl {x:Bool} {j:Nat}:E3 K X O (.Constant (.bool x) j pos) (cD (.bool x)):=⟨_,fun i=>pe_bl,fun j=>ed_bl⟩
theorem e_op {op:Operator} {r:R2} {F:PyData->PyData->(R->Prop)->Prop} (ho:∀ i,OpR (X i) (binaryOp op) r) (hd:∀ j,OpD K (O j) r F) (ha:E3 K X O a fa) (hb:E3 K X O b fb):E3 K X O (.BinOp a op b pos) (opDE F fa fb) :=
 let ⟨_,p1,d1⟩:=ha;let ⟨_,p2,d2⟩:=hb; ⟨_,fun i=>pe_op (ho i) (p1 i) (p2 i),fun j=>ed_op (hd j) (d1 j) (d2 j)⟩
theorem e_add (C:Ctx3 P w K mg base k X) (ha:E3 K X O a fa) (hb:E3 K X O b fb):E3 K X O (.BinOp a .Add b pos) (opDE (fn2 addF) fa fb):=e_op (fun i=>by have h:=op_addU (X:=X i);rw [C.hK] at h;exact h) (fun _=>opd_add) ha hb
theorem e_sub (ha:E3 K X O a fa) (hb:E3 K X O b fb):E3 K X O (.BinOp a .Sub b pos) (opDE (fn2 (intF fun i j => .int (i - j))) fa fb):=e_op (fun i=>op_sub) (fun _=>opd_sub) ha hb
theorem e_cmp {op:CmpOp} {r:R2} {F:PyData->PyData->(R->Prop)->Prop} (ho:∀ i,OpR (X i) (compareOp op) r) (hd:∀ j,OpD K (O j) r F) (ha:E3 K X O a fa) (hb:E3 K X O b fb) (hm:behindInMarks op b=false):E3 K X O (.Compare a [op] [b] pos) (opDE F fa fb) :=
 let ⟨_,p1,d1⟩:=ha;let ⟨_,p2,d2⟩:=hb; ⟨_,fun i=>pe_cmpR (ho i) (p1 i) (p2 i) hm,fun j=>ed_op (hd j) (d1 j) (d2 j)⟩
theorem t_cmp {op:CmpOp} {r:R2} {F:PyData->PyData->(R->Prop)->Prop} (ho:∀ i,OpR (X i) (compareOp op) r) (hd:∀ j,OpD K (O j) r F) (ha:E3 K X O a fa) (hb:E3 K X O b fb) (hm:behindInMarks op b=false):T3 K X O (.Compare a [op] [b] pos) (bD (opDE F fa fb)) :=
 let ⟨_,p1,d1⟩:=ha;let ⟨_,p2,d2⟩:=hb; ⟨_,fun i=>pt_cmpR (ho i) (p1 i) (p2 i) hm,fun j=>td_val (ed_op (hd j) (d1 j) (d2 j))⟩
theorem oR_eq (C:Ctx3 P w K mg base k X):∀ i,OpR (X i) (compareOp .Eq) (rEqD K false):=fun i=>by have h:=op_eqD (X:=X i) (C.room i).units;rw [C.hK] at h;exact h
theorem oR_ne (C:Ctx3 P w K mg base k X):∀ i,OpR (X i) (compareOp .NotEq) (rEqD K true):=fun i=>by have h:=op_neD (X:=X i) (C.room i).units;rw [C.hK] at h;exact h
theorem oR_in (C:Ctx3 P w K mg base k X):∀ i,OpR (X i) (compareOp .In) (rInU K):=fun i=>by have h:=op_inU (X:=X i) (C.room i).units;rw [C.hK] at h;exact h
theorem e_eq (C:Ctx3 P w K mg base k X) (ha:E3 K X O a fa) (hb:E3 K X O b fb):E3 K X O (.Compare a [.Eq] [b] pos) (opDE (fn2 (eqF false)) fa fb):=e_cmp (oR_eq C) (fun _=>opd_eq false) ha hb (nomark b)
theorem e_ne (C:Ctx3 P w K mg base k X) (ha:E3 K X O a fa) (hb:E3 K X O b fb):E3 K X O (.Compare a [.NotEq] [b] pos) (opDE (fn2 (eqF true)) fa fb):=e_cmp (oR_ne C) (fun _=>opd_eq true) ha hb (nomark b)
theorem e_gt (ha:E3 K X O a fa) (hb:E3 K X O b fb):E3 K X O (.Compare a [.Gt] [b] pos) (opDE (fn2 (intF fun i j => .bool (decide (j<i)))) fa fb):=e_cmp (fun i=>op_gt) (fun _=>opd_gt) ha hb (nomark b)
theorem t_eq (C:Ctx3 P w K mg base k X) (ha:E3 K X O a fa) (hb:E3 K X O b fb):T3 K X O (.Compare a [.Eq] [b] pos) (bD (opDE (fn2 (eqF false)) fa fb)):=t_cmp (oR_eq C) (fun _=>opd_eq false) ha hb (nomark b)
theorem t_ne (C:Ctx3 P w K mg base k X) (ha:E3 K X O a fa) (hb:E3 K X O b fb):T3 K X O (.Compare a [.NotEq] [b] pos) (bD (opDE (fn2 (eqF true)) fa fb)):=t_cmp (oR_ne C) (fun _=>opd_eq true) ha hb (nomark b)
theorem t_lt (ha:E3 K X O a fa) (hb:E3 K X O b fb):T3 K X O (.Compare a [.Lt] [b] pos) (bD (opDE (fn2 (intF fun i j => .bool (decide (i<j)))) fa fb)):=t_cmp (fun i=>op_lt) (fun _=>opd_lt) ha hb (nomark b)
theorem t_le (ha:E3 K X O a fa) (hb:E3 K X O b fb):T3 K X O (.Compare a [.LtE] [b] pos) (bD (opDE (fn2 (intF fun i j => .bool (decide (i<=j)))) fa fb)):=t_cmp (fun i=>op_le) (fun _=>opd_le) ha hb (nomark b)
theorem t_in (C:Ctx3 P w K mg base k X) (ha:E3 K X O a fa) (hb:E3 K X O b fb) (hm:behindInMarks .In b=false:=by rfl):T3 K X O (.Compare a [.In] [b] pos) (bD (opDE (fn2 (inF false)) fa fb)):=t_cmp (oR_in C) (fun _=>opd_in) ha hb hm
variable {ft fu : DT} {rest : List Expr}
theorem t_val (ha:E3 K X O a fa) (he:∀ i whole,isTrue a (X i).env whole=(do let v <- whole;standAt a.pos;holding [v] (truthy v)):=by intro _ _;rfl):T3 K X O a (bD fa):=let ⟨_,p,d⟩:=ha; ⟨_,fun i=>pt_val (p i) (he i),fun j=>td_valB (d j)⟩
theorem t_not (h:T3 K X O a ft):T3 K X O (.UnaryOp .Not a pos) (notT ft):=let ⟨_,p,d⟩:=h; ⟨_,fun i=>pt_not (p i),fun j=>td_not (d j)⟩
theorem w_and1 (h:T3 K X O a ft):W3 K X O (.BoolOp .And [a] pos) ft:=let ⟨_,p,d⟩:=h; ⟨_,fun i=>pw_and1 (p i),d⟩
theorem w_or1 (h:T3 K X O a ft):W3 K X O (.BoolOp .Or [a] pos) ft:=let ⟨_,p,d⟩:=h; ⟨_,fun i=>pw_or1 (p i),d⟩
theorem w_and (h:T3 K X O a ft) (h':W3 K X O (.BoolOp .And (b::rest) pos) fu):W3 K X O (.BoolOp .And (a::b::rest) pos) (andT ft fu):=let ⟨_,p,d⟩:=h;let ⟨_,p2,d2⟩:=h'; ⟨_,fun i=>pw_and (p i) (p2 i),fun j=>td_and (d j) (d2 j)⟩
theorem w_or (h:T3 K X O a ft) (h':W3 K X O (.BoolOp .Or (b::rest) pos) fu):W3 K X O (.BoolOp .Or (a::b::rest) pos) (orT ft fu):=let ⟨_,p,d⟩:=h;let ⟨_,p2,d2⟩:=h'; ⟨_,fun i=>pw_or (p i) (p2 i),fun j=>td_or (d j) (d2 j)⟩
theorem t_w (h:W3 K X O a ft):T3 K X O a ft:=let ⟨_,p,d⟩:=h; ⟨_,fun i=>(p i).pt,d⟩
theorem e_one {op:BoolOp} (h:E3 K X O a fa):E3 K X O (.BoolOp op [a] pos) fa:=let ⟨_,p,d⟩:=h; ⟨_,fun i=>pe_one (p i),d⟩
theorem e_and (h:E3 K X O a fa) (h':E3 K X O (.BoolOp .And (b::rest) pos) fb):E3 K X O (.BoolOp .And (a::b::rest) pos) (andV fa fb):=let ⟨_,p,d⟩:=h;let ⟨_,p2,d2⟩:=h'; ⟨_,fun i=>pe_and (p i) (p2 i),fun j=>ed_andV (d j) (d2 j)⟩
theorem e_or (h:E3 K X O a fa) (h':E3 K X O (.BoolOp .Or (b::rest) pos) fb):E3 K X O (.BoolOp .Or (a::b::rest) pos) (orV fa fb):=let ⟨_,p,d⟩:=h;let ⟨_,p2,d2⟩:=h'; ⟨_,fun i=>pe_or (p i) (p2 i),fun j=>ed_orV (d j) (d2 j)⟩
theorem e_not (h:E3 K X O a fa):E3 K X O (.UnaryOp .Not a pos) (notV fa):=let ⟨_,p,d⟩:=h; ⟨_,fun i=>pe_not (p i),fun j=>ed_notV (d j)⟩
theorem e_if (hc:T3 K X O c ft) (ha:E3 K X O a fa) (hb:E3 K X O b fb):E3 K X O (.IfExp c a b pos) (ifD ft fa fb):=let ⟨_,p,d⟩:=hc;let ⟨_,p1,d1⟩:=ha;let ⟨_,p2,d2⟩:=hb; ⟨_,fun i=>pe_ifExp (p i) (p1 i) (p2 i),fun j=>ed_if (d j) (d1 j) (d2 j)⟩
variable {es : List Expr} {ga : DA}
theorem a_nil:A3 K X O [] aNil:=⟨_,fun i=>pa_nil,fun j=>ad_nil⟩
theorem a_cons (ha:E3 K X O a fa) (hr:A3 K X O es ga) (hs:∀ i,starEach (a::es) (X i).env=(false,eval a (X i).env)::starEach es (X i).env:=by intro i;rfl):A3 K X O (a::es) (aCons fa ga):=let ⟨_,p,d⟩:=ha;let ⟨_,p2,d2⟩:=hr; ⟨_,fun i=>pa_cons (p i) (p2 i) (hs i),fun j=>ad_cons (d j) (d2 j)⟩
theorem e_tup {n:Nat} (h:A3 K X O es ga):E3 K X O (.Tuple es n pos) (tupD ga):=let ⟨_,p,d⟩:=h; ⟨_,fun i=>pe_tup (p i),fun j=>ed_tup (d j)⟩
theorem e_lst (h:A3 K X O es ga):E3 K X O (.List es pos) (lstD ga):=let ⟨_,p,d⟩:=h; ⟨_,fun i=>pe_lst (p i),fun j=>ed_lst (d j)⟩
theorem e_idx (C:Ctx3 P w K mg base k X) (ha:E3 K X O a fa) (hb:E3 K X O b fb) (hs:PlainIx b:=by intro _ _;rfl):E3 K X O (.Subscript a b pos) (opDE (fn2 idxF) fa fb) :=
 let ⟨_,p1,d1⟩:=ha;let ⟨_,p2,d2⟩:=hb; ⟨tOp (rIx K) _ _,fun i=>by have h:=pe_ix (pos:=pos) (ix_seq (X:=X i)) (p1 i) (p2 i) hs;rw [C.hK] at h;exact h,fun j=>ed_op opd_idx (d1 j) (d2 j)⟩
theorem o_none:O3 K X O none noO:=⟨_,fun i=>po_none,fun j=>od_none⟩
theorem o_some (ha:E3 K X O a fa):O3 K X O (some a) (someO fa):=let ⟨_,p,d⟩:=ha; ⟨_,fun i=>po_some (p i),fun j=>od_some (d j)⟩
theorem e_slice (C:Ctx3 P w K mg base k X) {lo hi:Option Expr} {fl fh:DO} {p2:Pos} (ha:E3 K X O a fa) (hl:O3 K X O lo fl) (hh:O3 K X O hi fh):E3 K X O (.Subscript a (.Slice lo hi none p2) pos) (slD fa fl fh) :=
 let ⟨_,p1,d1⟩:=ha;let ⟨_,q2,d2⟩:=hl;let ⟨_,q3,d3⟩:=hh; ⟨tSl (rSl K) _ _ _,fun i=>by have h:=pe_slice (pos:=pos) (p2:=p2) (sl_any (X:=X i)) (p1 i) (q2 i) (q3 i);rw [C.hK] at h;exact h,fun j=>ed_slice (d1 j) (d2 j) (d3 j)⟩
theorem e_blt {x:Str} {id:String} {r:List V->Hp->VK->Prop} {F:List PyData->(R->Prop)->Prop} {p:Pos} (C:Ctx3 P w K mg base k X) (hc:∀ i,CallR (X i) (.builtin id) r) (hd:∀ j,CallD K (O j) r F) (hv:bootBuiltins x=some (.builtin id)) (hm:mg x=none) (ha:A3 K X O (a::es) ga)
 (hg:∀ i,Gl (X i) x:=by intro i;rfl) (hn:x ≠ "__name__" := by decide) (hdb:(x == ("__debug__" : Str))=false:=by decide) (he:∀ i,starEach (a::es) (X i).env=(false,eval a (X i).env)::starEach es (X i).env:=by intro i;rfl) (hpl:∀ i,(backTo pos (starEach es (X i).env)).any (·.1)=false:=by intro i;rfl) :
 E3 K X O (.Call (.Name x p) (a::es) [] pos) (callDE F ga):=let ⟨_,q,d⟩:=ha; ⟨_,fun i=>pe_callB (hc i) (hg i) (by rw [C.hmg];exact hm) hv (q i) hn hdb (he i) (hpl i),fun j=>ed_callB (hd j) (d j)⟩
theorem e_bty {x:Str} {T:String} {r:List V->Hp->VK->Prop} {F:List PyData->(R->Prop)->Prop} {p:Pos} (C:Ctx3 P w K mg base k X) (hc:∀ i,CallR (X i) (.type T) r) (hd:∀ j,CallD K (O j) r F) (hv:bootBuiltins x=some (.type T)) (hm:mg x=none) (ha:A3 K X O (a::es) ga)
 (hg:∀ i,Gl (X i) x:=by intro i;rfl) (hn:x ≠ "__name__" := by decide) (hdb:(x == ("__debug__" : Str))=false:=by decide) (he:∀ i,starEach (a::es) (X i).env=(false,eval a (X i).env)::starEach es (X i).env:=by intro i;rfl) (hpl:∀ i,(backTo pos (starEach es (X i).env)).any (·.1)=false:=by intro i;rfl) :
 E3 K X O (.Call (.Name x p) (a::es) [] pos) (callDE F ga):=let ⟨_,q,d⟩:=ha; ⟨_,fun i=>pe_callTy (hc i) (hg i) (by rw [C.hmg];exact hm) hv (q i) hn hdb (he i) (hpl i),fun j=>ed_callB (hd j) (d j)⟩
end
end L3
namespace L3
open PySem PySem.Spec
open PyProof.Rows hiding St
open L2
theorem bt_len:bootBuiltins "len" = some (.builtin "len"):=by decide +kernel
theorem bt_all:bootBuiltins "all" = some (.builtin "all"):=by decide +kernel
theorem bt_sorted:bootBuiltins "sorted" = some (.builtin "sorted"):=by decide +kernel
theorem bt_int:bootBuiltins "int" = some (.type "int"):=by decide +kernel
theorem bt_list:bootBuiltins "list" = some (.type "list"):=by decide +kernel
theorem bt_tuple:bootBuiltins "tuple" = some (.type "tuple"):=by decide +kernel
structure Blt (mg:Str->Option Value):Prop where
 len:mg "len" = none
 all:mg "all" = none
 any:mg "any" = none
 sorted:mg "sorted" = none
 min:mg "min" = none
 max:mg "max" = none
 repr:mg "repr" = none
 int:mg "int" = none
 list:mg "list" = none
 tuple:mg "tuple" = none
 range:mg "range" = none
 set:mg "set" = none
 isinstance:mg "isinstance" = none
 enumerate:mg "enumerate" = none
 zip:mg "zip" = none
 reversed:mg "reversed" = none
 str:mg "str" = none
 sum:mg "sum" = none
 dict:mg "dict" = none
 bool:mg "bool" = none
structure Def3 (P:Program) (w:World) (K:PySem.W.Frag) (mg:Str->Option Value) (base:Heap) (k:Nat) (x:Str) (ps:List Str) (sp:Sp):Prop where
 ex:∃ f fd,FnOk P w K mg base CX0 k f fd ps sp/\mg x=some (.ref f)/\PySem.W.keepIn K (.ref f)=true/\Binds K fd ps []
structure Top3 (K:PySem.W.Frag) (mg:Str->Option Value) (x:Str) (st:Stmt):Prop where
 ex:∃ f fd,Fun K x x st f fd/\mg x=some (.ref f)
structure CIx where
 C:Addr
 s:Shared
 H:Hp
 ex:List Addr
def compX {ι:Type} (X:ι->Cx) (scope:Scope) (N':List Str):ι × CIx->Cx:=fun p=>compCx (X p.1) scope N' p.2.C p.2.s p.2.H p.2.ex
def compO {κ:Type} (O:κ->Ob):{ p:κ × (Addr × List V) // ¬ (O p.1).M p.2.1 }->Ob:=fun p=>(O p.1.1).plus p.1.2.1 (.lst p.1.2.2)
def F3 {ι κ:Type} (K:PySem.W.Frag) (X:ι->Cx) (O:κ->Ob) (ifs:List Expr) (f:DT):Prop:=∃ t,(∀ i,PF (X i) ifs t)/\∀ j,TD K (O j) t f
def yesD:DT:=fun _ Q=>Q true
section
variable {ι κ : Type} {P : Program} {w : World} {K : PySem.W.Frag} {mg : Str → Option Value} {base : Heap} {k : Nat} {X : ι → Cx} {O : κ → Ob} {a b c tg : Expr} {fa fb fc : DE} {pos p : Pos} {es : List Expr} {ga : DA}
theorem Ctx3.comp (C:Ctx3 P w K mg base k X) (scope:Scope) (N':List Str):Ctx3 P w K mg base k (compX X scope N'):=⟨fun i=>C.hP i.1,fun i=>C.hw i.1,fun i=>C.hK i.1,fun i=>C.hmg i.1,fun i=>C.hb i.1,fun i=>C.calm i.1,fun i=>C.room i.1,fun _=>rfl⟩
theorem e_len (C:Ctx3 P w K mg base k X) (B:Blt mg) (ha:A3 K X O [a] ga) (hg:∀ i,Gl (X i) "len" := by intro i;rfl) (he:∀ i,starEach [a] (X i).env=(false,eval a (X i).env)::starEach [] (X i).env:=by intro i;rfl):E3 K X O (.Call (.Name "len" p) [a] [] pos) (callDE (fn1 lenF) ga) :=
 e_blt C (fun i=>by have h:=call_len (X:=X i);rw [C.hK] at h;exact h) (fun _=>cd_len) bt_len B.len ha hg (by decide) (by decide) he
theorem e_all (C:Ctx3 P w K mg base k X) (B:Blt mg) (ha:A3 K X O [a] ga) (hg:∀ i,Gl (X i) "all" := by intro i;rfl) (he:∀ i,starEach [a] (X i).env=(false,eval a (X i).env)::starEach [] (X i).env:=by intro i;rfl):E3 K X O (.Call (.Name "all" p) [a] [] pos) (callDE (allD false) ga) :=
 e_blt C (fun i=>call_allL (C.calm i)) (fun _=>cd_all false) bt_all B.all ha hg (by decide) (by decide) he
theorem e_tuplec (C:Ctx3 P w K mg base k X) (B:Blt mg) (ha:A3 K X O [a] ga) (hg:∀ i,Gl (X i) "tuple" := by intro i;rfl) (he:∀ i,starEach [a] (X i).env=(false,eval a (X i).env)::starEach [] (X i).env:=by intro i;rfl):E3 K X O (.Call (.Name "tuple" p) [a] [] pos) (callDE (fn1 tupF) ga) :=
 e_bty C (fun i=>by have h:=call_tuple_of (X:=X i);rw [C.hK] at h;exact h) (fun _=>cd_tuple) bt_tuple B.tuple ha hg (by decide) (by decide) he
theorem mtr_join {X:Cx}:MtR X "str.join" rJoin:=fun pins s σ H x xs v us Q I rx rv h=>mt_join pins s σ H x xs v us Q I rx rv h
theorem e_join {apos:Pos} (C:Ctx3 P w K mg base k X) (ho:E3 K X O a fa) (hb:E3 K X O b fb) (hbase:∀ i,attributeBase a "join" (X i).env (eval a (X i).env)=eval a (X i).env:=by intro i;rfl)
 (hfew:∀ i,((backTo pos (starEach [b] (X i).env)).all (fun x=>!x.1) && (backToKw pos (keywordEach [] (X i).env)).all (fun x=>x.1.isSome) && decide (([b]:List Expr).length+([]:List Keyword).length+(if ([]:List Keyword).isEmpty then 0 else 1)<30))=true:=by intro i;rfl)
 (hline:(apos.endLine == pos.line)=true:=by rfl) (hs:∀ i,starEach [b] (X i).env = [(false,eval b (X i).env)]:=by intro i;rfl):E3 K X O (.Call (.Attribute a "join" apos) [b] [] pos) (joinD fa fb) :=
 let ⟨_,p1,d1⟩:=ho;let ⟨_,p2,d2⟩:=hb; ⟨tBM K "str" rJoin _ (tCons _ tNil),fun i=>by
  have h:=pe_bm (apos:=apos) (cpos:=pos) PySem.F.plainAttrs_str PySem.F.slot_str_join PySem.F.type_str_join (mtr_join (X:=X i)) (p1 i) (pa_cons (p2 i) pa_nil (hs i)) (hbase i) (hfew i) hline (hs i)
  rw [C.hK] at h
  exact h,fun j=>ed_join (d1 j) (d2 j)⟩
theorem e_call {k' n:Nat} {x:Str} {ps:List Str} {φ:Ob->Prop} {F:List PyData->(R->Prop)->Prop} (C:Ctx3 P w K mg base k X) (D:Def3 P w K mg base k' x ps (spO K φ n F)) (hφ:∀ j,φ (O j)) (ha:A3 K X O (a::es) ga) (hk:k'<=k:=by decide) (hg:∀ i,Gl (X i) x:=by intro i;rfl)
 (hdb:(x == ("__debug__" : Str))=false:=by decide) (he:∀ i,starEach (a::es) (X i).env=(false,eval a (X i).env)::starEach es (X i).env:=by intro i;rfl) (hpl:∀ i,(backTo pos (starEach es (X i).env)).any (·.1)=false:=by intro i;rfl):E3 K X O (.Call (.Name x p) (a::es) [] pos) (calD n F ga):=by
 obtain ⟨f,fd,G,m,kp,bn⟩:=D.ex
 obtain ⟨t,q,d⟩:=ha
 refine ⟨tCall (spO K φ n F) [] E0 t,fun i=>?_,fun j=>ed_call (hφ j) (d j)⟩
 have G':FnOk (X i).prog (X i).w (X i).K (X i).mg (X i).base CX0 k f fd ps (spO K φ n F):=by rw [C.hP,C.hw,C.hK,C.hmg,C.hb];exact G.mono hk
 exact pe_call G' (C.room i) (hg i) (by rw [C.hmg];exact m) (by rw [C.hK];exact kp) (by rw [C.hK];exact bn) .nil pass0 (q i) hdb (he i) (hpl i)
theorem e_callO {k' n:Nat} (v:Nat) {x y:Str} {py:Pos} {ps:List Str} {φ:Ob->Prop} {F:List PyData->(R->Prop)->Prop} (C:Ctx3 P w K mg base k X) (D:Def3 P w K mg base k' x ps (spD K φ n F)) (hφ:∀ j,φ (O j)) (ha:A3 K X O es ga) (hk:k'<=k:=by decide) (hg:∀ i,Gl (X i) x:=by intro i;rfl)
 (hN:∀ i,(X i).N[v]? = some y:=by intro i;rfl) (hv:∀ i,Vis (X i).env.scope y:=by intro i;first | exact Or.inl rfl | exact Or.inr (Or.inl rfl) | exact Or.inr (Or.inr rfl)) (hd:(y == ("__debug__" : Str))=false:=by decide) (hcd:(y == ("__classdict__" : Str))=false:=by decide)
 (hdb:(x == ("__debug__" : Str))=false:=by decide) (he:∀ i,starEach (.Name y py::es) (X i).env=(false,eval (.Name y py) (X i).env)::starEach es (X i).env:=by intro i;rfl) (hpl:∀ i,(backTo pos (starEach es (X i).env)).any (·.1)=false:=by intro i;rfl) :
 E3 K X O (.Call (.Name x p) (.Name y py::es) [] pos) (calO v n F ga):=by
 obtain ⟨f,fd,G,m,kp,bn⟩:=D.ex
 obtain ⟨t,q,d⟩:=ha
 refine ⟨tCall (spD K φ n F) [] E0 (tCons (tVar v) t),fun i=>?_,fun j=>ed_callO (hφ j) (d j)⟩
 have G':FnOk (X i).prog (X i).w (X i).K (X i).mg (X i).base CX0 k f fd ps (spD K φ n F):=by rw [C.hP,C.hw,C.hK,C.hmg,C.hb];exact G.mono hk
 exact pe_call G' (C.room i) (hg i) (by rw [C.hmg];exact m) (by rw [C.hK];exact kp) (by rw [C.hK];exact bn) .nil pass0 (pa_cons (pe_var (hN i) (hv i) hd hcd) (q i) (he i)) hdb (he i) (hpl i)
theorem i_list (C:Ctx3 P w K mg base k X) (ha:E3 K X O a fa):I3 K X O tg a (srcL fa):=let ⟨_,p,d⟩:=ha; ⟨iList K _,fun i=>by have h:=pi_list (tg:=tg) (p i);rw [C.hK] at h;exact h,fun j=>src_list (d j)⟩
theorem i_tup (C:Ctx3 P w K mg base k X) (ha:E3 K X O a fa):I3 K X O tg a (srcT fa):=let ⟨_,p,d⟩:=ha; ⟨iTup K _,fun i=>by have h:=pi_tup (tg:=tg) (p i);rw [C.hK] at h;exact h,fun j=>src_tup (d j)⟩
theorem i_str (ha:E3 K X O a fa):I3 K X O tg a (srcS fa):=let ⟨_,p,d⟩:=ha; ⟨_,fun i=>pi_str (p i),fun j=>src_str (d j)⟩
theorem i_r1 (C:Ctx3 P w K mg base k X) (B:Blt mg) (ha:A3 K X O [a] ga) (hg:∀ i,Gl (X i) "range" := by intro i;rfl) (hs:∀ i,starEach [a] (X i).env = [(false,eval a (X i).env)]:=by intro i;rfl):I3 K X O tg (.Call (.Name "range" p) [a] [] pos) (srcR1 ga) :=
 let ⟨_,q,d⟩:=ha; ⟨_,fun i=>pi_range1 (hg i) (by rw [C.hmg];exact B.range) (q i) (hs i),fun j=>src_rng1 (d j)⟩
theorem i_r2 (C:Ctx3 P w K mg base k X) (B:Blt mg) (ha:A3 K X O [a,b] ga) (hg:∀ i,Gl (X i) "range" := by intro i;rfl) (hs:∀ i,starEach [a,b] (X i).env = [(false,eval a (X i).env),(false,eval b (X i).env)]:=by intro i;rfl) (hs2:∀ i,starEach [b] (X i).env = [(false,eval b (X i).env)]:=by intro i;rfl) :
 I3 K X O tg (.Call (.Name "range" p) [a,b] [] pos) (srcR2 ga):=let ⟨_,q,d⟩:=ha; ⟨_,fun i=>pi_range2 (hg i) (by rw [C.hmg];exact B.range) (q i) (hs i) (hs2 i),fun j=>src_rng2 (d j)⟩
theorem j_new {fi:DI} (h:I3 K X O tg a fi):J3 K X O tg a (newJ fi):=let ⟨_,p,d⟩:=h; ⟨_,p,fun j=>srcR_of (d j)⟩
theorem g_name {h:Nat} (n:Nat) {x:Str} (hlt:n<h:=by decide) (hN:∀ i,(X i).N.Nodup:=by intro i;exact of_decide_eq_true (by kernel_rfl)) (hi:∀ i,(X i).N[n]? = some x:=by intro i;rfl) (hx:∀ i,Loc (X i).env.scope x:=by intro i;first | exact Or.inl rfl | exact Or.inr rfl)
 (hf:∀ i,(X i).fn x=true\/(X i).env.scope.names.lookup x=some .local:=by intro i;first | exact .inl rfl | exact .inr rfl):G3 K X h (.Name x pos) (gN n):=⟨_,fun i=>pg_name (hN i) (hi i) (hx i) (hf i),fun _=>gs_name,fun _=>gr_name,own_name hlt⟩
def Gs3 {ι:Type} (K:PySem.W.Frag) (X:ι->Cx) (h:Nat) (es:List Expr) (is:List Nat):Prop:=∃ t,(∀ i,PGs (X i) es t)/\(∀ O:Ob,GSs K O t is)/\(∀ O:Ob,GRs K O t is)/\OwnGs h t/\MonGs t
theorem gq_nil {h:Nat}:Gs3 K X h [] []:=⟨_,fun i=>pgs_nil,fun _=>gss_nil,fun _=>grs_nil,own_nil,mon_nil⟩
theorem gq_cons {h:Nat} {es:List Expr} {is:List Nat} (n:Nat) {x:Str} (hr:Gs3 K X h es is) (hlt:n<h:=by decide) (hN:∀ i,(X i).N.Nodup:=by intro i;exact of_decide_eq_true (by kernel_rfl)) (hi:∀ i,(X i).N[n]? = some x:=by intro i;rfl) (hx:∀ i,Loc (X i).env.scope x:=by intro i;first | exact Or.inl rfl | exact Or.inr rfl)
 (hf:∀ i,(X i).fn x=true\/(X i).env.scope.names.lookup x=some .local:=by intro i;first | exact .inl rfl | exact .inr rfl) (hs:∀ i,(assignEach (.Name x pos::es) (X i).env).map (·.2)=assign (.Name x pos) (X i).env::(assignEach es (X i).env).map (·.2):=by intro i;rfl):Gs3 K X h (.Name x pos::es) (n::is) :=
 let ⟨_,p,d1,d2,o,m⟩:=hr; ⟨_,fun i=>pgs_cons (pg_name (hN i) (hi i) (hx i) (hf i)) (p i) (hs i),fun O=>gss_cons (d1 O),fun O=>grs_cons (d2 O),own_cons mon_name m (own_name hlt) o,mon_cons mon_name m⟩
theorem g_tup {h n:Nat} {es:List Expr} {is:List Nat} {j:Nat} (C:Ctx3 P w K mg base k X) (hr:Gs3 K X h es is) (hn:is.length=n:=by rfl) (hn2:∀ i,(assignEach es (X i).env).length=n:=by intro i;rfl) (hst:∀ i,(assignEach es (X i).env).findIdx? (·.1)=none:=by intro i;rfl):G3 K X h (.Tuple es j pos) (gT is) :=
 let ⟨_,p,d1,d2,o,m⟩:=hr; ⟨_,fun i=>by have z:=pg_tup (pos:=pos) (k:=j) (C.calm i) (p i) (hn2 i) (hst i);rw [C.hK] at z;exact z,fun O=>gs_tup hn (d1 O),fun O=>gr_tup hn (d2 O),own_tup o⟩
theorem e_neg {n:Int} {j:Nat} {p2:Pos}:E3 K X O (.UnaryOp .USub (.Constant (.int n) j p2) pos) (cD (.int (-n))):=⟨tUn (rU fun i => .int (-i)) (tC (.int n)),fun i=>pe_un un_neg pe_int,fun _ σ H ρ Q Qd S h kk=>⟨n,rfl,kk _ H (.o _) (.refl _ _) (Is.int _) h⟩⟩
theorem f_nil {O':κ->Ob}:F3 K X O' [] yesD:=⟨_,fun i=>pf_nil,fun j σ H ρ Q Qd S h k=>k true H (.refl _ _) h⟩
theorem f_one {ft:DT} (h:T3 K X O c ft):F3 K X O [c] ft:=let ⟨_,p,d⟩:=h; ⟨_,fun i=>pf_one (p i),d⟩
theorem e_comp {elt iter:Expr} {ifs:List Expr} {scope:Scope} {fi:DI} {g:DG} {ft:DT} {fe:DE} (h:Nat) (N':List Str) (C:Ctx3 P w K mg base k X) (S:∀ i,ScopeOk h N' (X i).N scope (X i).env.scope) (hs:I3 K X O tg iter fi)
 (hg:G3 K (compX X scope N') h tg g) (hf:F3 K (compX X scope N') (compO O) ifs ft) (he:E3 K (compX X scope N') (compO O) elt fe) (hset:∀ i x,foldedSetIterable iter (X i).env x=pure x:=by intro _ _;rfl) :
 E3 K X O (.ListComp elt [⟨tg,iter,ifs,0⟩] scope pos) (compD h fi g ft fe):=by
 obtain ⟨ti,p1,d1⟩:=hs
 obtain ⟨tg',p2,d2,_,ow⟩:=hg
 obtain ⟨tf,p3,d3⟩:=hf
 obtain ⟨te,p4,d4⟩:=he
 exact ⟨_,fun i=>pe_comp h (S i) (C.calm i) (p1 i) (fun c s H ex=>p2 (i,⟨c,s,H,ex⟩)) ow (fun c s H ex=>p3 (i,⟨c,s,H,ex⟩)) (fun c s H ex=>p4 (i,⟨c,s,H,ex⟩)) (hset i),fun j=>ed_comp (d1 j) d2 (fun D xs nm=>d3 ⟨(j,(D,xs)),nm⟩) fun D xs nm=>d4 ⟨(j,(D,xs)),nm⟩⟩
variable {st : Stmt} {sts : List Stmt} {g1 g2 : DS} {ft : DT}
theorem ss_nil:Ss3 K X O [] (fun Dd ρ=>Dd.nx ρ):=⟨_,fun i=>pss_nil,fun j=>sd_next⟩
theorem ss_one (h:S3 K X O st g1):Ss3 K X O [st] g1:=let ⟨_,p,d⟩:=h; ⟨_,fun i=>pss_one (p i),d⟩
theorem ss_cons (h:S3 K X O st g1) (h':Ss3 K X O sts g2):Ss3 K X O (st::sts) (seqD g1 g2):=let ⟨_,p,d⟩:=h;let ⟨_,p2,d2⟩:=h'; ⟨_,fun i=>pss_cons (p i) (p2 i),fun j=>sd_seq (d j) (d2 j)⟩
theorem s_ret (ha:E3 K X O a fa):S3 K X O (.Return (some a) pos) (retS fa):=let ⟨_,p,d⟩:=ha; ⟨_,fun i=>ps_ret (p i),fun j=>sd_ret (d j)⟩
theorem s_retO (n:Nat) {x:Str} {px:Pos} (hN:∀ i,(X i).N[n]? = some x:=by intro i;rfl) (hv:∀ i,Vis (X i).env.scope x:=by intro i;first | exact Or.inl rfl | exact Or.inr (Or.inl rfl) | exact Or.inr (Or.inr rfl)) (hd:(x == ("__debug__" : Str))=false:=by decide) (hcd:(x == ("__classdict__" : Str))=false:=by decide) :
 S3 K X O (.Return (some (.Name x px)) pos) (retO n):=⟨_,fun i=>ps_ret (pe_var (hN i) (hv i) hd hcd),fun j=>sd_retOwn⟩
theorem s_if {sa sb:List Stmt} (hc:T3 K X O c ft) (h:Ss3 K X O sa g1) (h':Ss3 K X O sb g2):S3 K X O (.If c sa sb pos) (ifS ft g1 g2):=let ⟨_,p,d⟩:=hc;let ⟨_,p1,d1⟩:=h;let ⟨_,p2,d2⟩:=h'; ⟨_,fun i=>ps_if (p i) (p1 i) (p2 i),fun j=>sd_if (d j) (d1 j) (d2 j)⟩
theorem s_set (n:Nat) {x:Str} {px:Pos} (ha:E3 K X O a fa) (hN:∀ i,(X i).N.Nodup:=by intro i;exact of_decide_eq_true (by kernel_rfl)) (hi:∀ i,(X i).N[n]? = some x:=by intro i;rfl) (hx:∀ i,Loc (X i).env.scope x:=by intro i;first | exact Or.inl rfl | exact Or.inr rfl)
 (hs:∀ i,swapsWith a (some (.Name x px)) pos.line (X i).env=pure false:=by intro i;rfl) (hf:∀ i,(X i).fn x=true\/(X i).env.scope.names.lookup x=some .local:=by intro i;first | exact .inl rfl | exact .inr rfl):S3 K X O (.Assign [.Name x px] a pos) (asgS n fa) :=
 let ⟨_,p,d⟩:=ha; ⟨_,fun i=>ps_set (hN i) (hi i) (hx i) (p i) (hs i) (hf i),fun j=>sd_asg (d j)⟩
theorem s_setC (n:Nat) {x:Str} {px p0:Pos} {elt iter:Expr} {ifs:List Expr} {scope:Scope} {fi:DI} {g:DG} {ft:DT} {fe:DE} (h:Nat) (N':List Str) (C:Ctx3 P w K mg base k X) (S:∀ i,ScopeOk h N' (X i).N scope (X i).env.scope) (hs:I3 K X O tg iter fi)
 (hg:G3 K (compX X scope N') h tg g) (hf:F3 K (compX X scope N') (compO O) ifs ft) (he:E3 K (compX X scope N') (compO O) elt fe) (hN:∀ i,(X i).N.Nodup:=by intro i;exact of_decide_eq_true (by kernel_rfl)) (hi:∀ i,(X i).N[n]? = some x:=by intro i;rfl) (hx:∀ i,(X i).env.scope.names.lookup x=some .local:=by intro i;rfl)
 (hsw:∀ i,swapsWith (.ListComp elt [⟨tg,iter,ifs,0⟩] scope p0) (some (.Name x px)) pos.line (X i).env=pure true:=by intro i;rfl) (hset:∀ i x,foldedSetIterable iter (X i).env x=pure x:=by intro _ _;rfl) :
 S3 K X O (.Assign [.Name x px] (.ListComp elt [⟨tg,iter,ifs,0⟩] scope p0) pos) (asgS n (compD h fi g ft fe)):=by
 obtain ⟨ti,p1,d1⟩:=hs
 obtain ⟨tg',p2,d2,_,ow⟩:=hg
 obtain ⟨tf,p3,d3⟩:=hf
 obtain ⟨te,p4,d4⟩:=he
 exact ⟨_,fun i=>ps_setComp (hN i) (hi i) (hx i) (hsw i) h (S i) (C.calm i) (p1 i) (fun c s H ex=>p2 (i,⟨c,s,H,ex⟩)) ow (fun c s H ex=>p3 (i,⟨c,s,H,ex⟩)) (fun c s H ex=>p4 (i,⟨c,s,H,ex⟩)) (hset i),fun j=>sd_asg (ed_comp (d1 j) d2 (fun D xs nm=>d3 ⟨(j,(D,xs)),nm⟩) fun D xs nm=>d4 ⟨(j,(D,xs)),nm⟩)⟩
theorem mtr_append {X:Cx}:MtR X "list.append" rAppend:=fun pins s σ H x xs v us Q I rx rv h=>mt_append pins s σ H x xs v us Q I rx rv h
theorem s_app (n:Nat) {x:Str} {px apos cpos:Pos} (C:Ctx3 P w K mg base k X) (hb:E3 K X O b fb) (hN:∀ i,(X i).N[n]? = some x:=by intro i;rfl) (hv:∀ i,Vis (X i).env.scope x:=by intro i;first | exact Or.inl rfl | exact Or.inr (Or.inl rfl) | exact Or.inr (Or.inr rfl)) (hd:(x == ("__debug__" : Str))=false:=by decide) (hcd:(x == ("__classdict__" : Str))=false:=by decide)
 (hbase:∀ i,attributeBase (.Name x px) "append" (X i).env (eval (.Name x px) (X i).env)=eval (.Name x px) (X i).env:=by intro i;rfl)
 (hfew:∀ i,((backTo cpos (starEach [b] (X i).env)).all (fun x=>!x.1) && (backToKw cpos (keywordEach [] (X i).env)).all (fun x=>x.1.isSome) && decide (([b]:List Expr).length+([]:List Keyword).length+(if ([]:List Keyword).isEmpty then 0 else 1)<30))=true:=by intro i;rfl)
 (hline:(apos.endLine == cpos.line)=true:=by rfl) (hs:∀ i,starEach [b] (X i).env = [(false,eval b (X i).env)]:=by intro i;rfl) (hsw:∀ i,swapsWith (.Call (.Attribute (.Name x px) "append" apos) [b] [] cpos) none pos.line (X i).env=pure false:=by intro i;rfl) :
 S3 K X O (.Expr (.Call (.Attribute (.Name x px) "append" apos) [b] [] cpos) pos) (appS n fb):=let ⟨_,p2,d2⟩:=hb;
 ⟨tDrop (tBM K "list" rAppend (tVar n) (tCons _ tNil)),fun i=>by
  have h:=pe_bm (apos:=apos) (cpos:=cpos) PySem.F.plainAttrs_list PySem.F.slot_list_append PySem.F.type_list_append (mtr_append (X:=X i)) (pe_var (pos:=px) (hN i) (hv i) hd hcd) (pa_cons (p2 i) pa_nil (hs i)) (hbase i) (hfew i) hline (hs i)
  rw [C.hK] at h
  exact ps_expr h (hsw i),fun j=>sd_append (d2 j)⟩
theorem passes_never {X:Cx} (h:X.xe=fun _ _=>False):PassesOwn (model X.prog X.w) X.A X.env X.xe:=by rw [h];exact PassesOwn.never
theorem s_for {iter:Expr} {body:List Stmt} {fj:DJ} {g:DG} {hh:Nat} (C:Ctx3 P w K mg base k X) (hi:J3 K X O tg iter fj) (hg:G3 K X hh tg g) (hb:Ss3 K X O body g1) (hs:∀ i x,foldedSetIterable iter (X i).env x=pure x:=by intro _ _;rfl):S3 K X O (.For tg iter body [] pos) (forS fj g g1):=by
 obtain ⟨ti,p1,d1⟩:=hi
 obtain ⟨tg',p2,_,d2,_⟩:=hg
 obtain ⟨tb,p3,d3⟩:=hb
 exact ⟨_,fun i=>ps_for (passes_never (C.xe i)) (C.calm i) (p1 i) (p2 i) (p3 i) (hs i),fun j=>sd_for (d1 j) (d2 (O j)) (d3 j)⟩
end
theorem len1 {fd:FuncData} {p0:Str} {us:List Value} (hl:us.length=1) (h:∀ u0,bindArgs fd ⟨[u0],[]⟩=pure ([p0].zip [u0])):bindArgs fd ⟨us,[]⟩=pure ([p0].zip us):=by
 match us,hl with
 | [u0],_=>exact h u0
theorem len2 {fd:FuncData} {p0 p1:Str} {us:List Value} (hl:us.length=2) (h:∀ u0 u1,bindArgs fd ⟨[u0,u1],[]⟩=pure ([p0,p1].zip [u0,u1])):bindArgs fd ⟨us,[]⟩=pure ([p0,p1].zip us):=by
 match us,hl with
 | [u0,u1],_=>exact h u0 u1
theorem len4 {fd:FuncData} {p0 p1 p2 p3:Str} {us:List Value} (hl:us.length=4) (h:∀ u0 u1 u2 u3,bindArgs fd ⟨[u0,u1,u2,u3],[]⟩=pure ([p0,p1,p2,p3].zip [u0,u1,u2,u3])):bindArgs fd ⟨us,[]⟩=pure ([p0,p1,p2,p3].zip us):=by
 match us,hl with
 | [u0,u1,u2,u3],_=>exact h u0 u1 u2 u3
section
variable {P : Program} {w : World} {K : PySem.W.Frag} {mg : Str → Option Value} {base : Heap} {k n : Nat} {x : Str} {st : Stmt} {N ps : List Str} {φ : Ob → Prop} {F : List PyData → (R → Prop) → Prop}
abbrev bodyX (P:Program) (w:World) (K:PySem.W.Frag) (mg:Str->Option Value) (base:Heap) (N:List Str) (x:Str) (sc:Scope) (f:Addr) (cdv:Value) (A:Around) (outer:List Env) (s:Shared) (H:Hp) (E:XK):Unit->Cx:=fun _=>(cxOf CX0 P w K mg base N x sc f cdv A outer s H E).nox
theorem ctx_body {f:Addr} {cdv:Value} {A:Around} {outer:List Env} {s:Shared} {H:Hp} {E:XK} {sc:Scope} (hr:Room k (A.deeper (envOfC x sc s.heap.objs.size f cdv))):Ctx3 P w K mg base k (bodyX P w K mg base N x sc f cdv A outer s H E) :=
 ⟨fun _=>rfl,fun _=>rfl,fun _=>rfl,fun _=>rfl,fun _=>rfl,fun _=>rfl,fun _=>hr,fun _=>rfl⟩
theorem mk_O (T:Top3 K mg x st) (S:FnScope N ps (defScope st)) (hb:∀ (kV doc pm:Value) (an:Option Addr) (cdv ct:Value) (us:List Value),us.length=ps.length->bindArgs (PySem.W.fnOf x x (defArgs st) (defBody st) (defScope st) .none kV doc pm an cdv ct) ⟨us,[]⟩=pure (ps.zip us)) (hn:ps.length=n)
 (body:∀ (f:Addr) (cdv:Value) (A:Around) (outer:List Env) (s:Shared) (H:Hp) (E:XK) (O:Ob),φ O->Ctx3 P w K mg base k (bodyX P w K mg base N x (defScope st) f cdv A outer s H E) ->
  ∃ g,Ss3 K (bodyX P w K mg base N x (defScope st) f cdv A outer s H E) (fun _:Unit=>O) (defBody st) g/\∀ ds Qr,ds.length=n->F ds Qr->g { nx:=fun _=>Qr (.o .none),rt:=Qr } (dstart N (ds.map .im))):Def3 P w K mg base (k+1) x ps (spO K φ n F):=by
 obtain ⟨f,fd,Fu,m⟩:=T.ex
 refine ⟨f,fd,Fu.ok S (spO_len hn) (fun cdv A outer s H vs Q E hr h=>?_),m,Fu.kp,Fu.binds hb⟩
 obtain ⟨O,ds,Qr,ok,hφ,p,hl,is,q,kk⟩:=h
 obtain ⟨g,⟨t,h1,h2⟩,h3⟩:=body f cdv A outer s H E O hφ (ctx_body hr)
 exact ⟨t,h1 (),run_O (h2 ()) ok p is (h3 ds Qr hl q) kk⟩
theorem mk_D (T:Top3 K mg x st) (S:FnScope N ps (defScope st)) (hb:∀ (kV doc pm:Value) (an:Option Addr) (cdv ct:Value) (us:List Value),us.length=ps.length->bindArgs (PySem.W.fnOf x x (defArgs st) (defBody st) (defScope st) .none kV doc pm an cdv ct) ⟨us,[]⟩=pure (ps.zip us)) (hn:ps.length=n+1)
 (body:∀ (f:Addr) (cdv:Value) (A:Around) (outer:List Env) (s:Shared) (H:Hp) (E:XK) (O:Ob),φ O->Ctx3 P w K mg base k (bodyX P w K mg base N x (defScope st) f cdv A outer s H E) ->
  ∃ g,Ss3 K (bodyX P w K mg base N x (defScope st) f cdv A outer s H E) (fun _:Unit=>O) (defBody st) g/\∀ ds Qr,ds.length=n->F ds Qr->g { nx:=fun _=>Qr (.o .none),rt:=Qr } (dstart N (.ob::ds.map .im))):Def3 P w K mg base (k+1) x ps (spD K φ n F):=by
 obtain ⟨f,fd,Fu,m⟩:=T.ex
 refine ⟨f,fd,Fu.ok S (spD_len hn) (fun cdv A outer s H vs Q E hr h=>?_),m,Fu.kp,Fu.binds hb⟩
 obtain ⟨O,ds,ws,Qr,ok,hφ,p,hl,rfl,is,q,kk⟩:=h
 obtain ⟨g,⟨t,h1,h2⟩,h3⟩:=body f cdv A outer s H E O hφ (ctx_body hr)
 exact ⟨t,h1 (),run_D (h2 ()) ok p is (h3 ds Qr hl q) kk⟩
end
end L3
namespace L3
open PySem PySem.Spec
open PyProof.Rows hiding St
open L2
structure PotStp (a l:Addr) (H H':Hp):Prop where
 oth:∀ b,b ≠ a->b ≠ l->H' b=H b
theorem PotStp.trans {a l:Addr} {H H1 H2:Hp} (x:PotStp a l H H1) (y:PotStp a l H1 H2):PotStp a l H H2:=⟨fun b h1 h2=>(y.oth b h1 h2).trans (x.oth b h1 h2)⟩
theorem PotStp.upA {a l:Addr} {H:Hp} (o:HO):PotStp a l H (upd H a o):=⟨fun b h1 _=>upd_ne h1⟩
abbrev lenR (K:PySem.W.Frag):List V->Hp->VK->Prop:=fun xs H Q=>∃ x n,xs = [x]/\LenV K x H n/\Q (.int n) H
abbrev pAt (K:PySem.W.Frag) (i:Int):TE:=tOp (rIxL K) (tVar 0) (tC (.int i))
def drawF:List PyData->(R->Prop)->Prop:=fun ds Q=>∃ m:Int,ds = [.int m]/\0<m/\m<1073741824/\∀ k,0<=k->k<m->Q (.o (.int k))
def abc:List Nat:=(List.range 26).map (· + 97)
def isLow (c:Nat):Prop:=97<=c/\c<123
theorem join_fold:∀ (l:List Nat) (acc:Array Nat),(l.map sg).foldl (fun acc p=>acc++(Str.ofString "").cps++p.cps) acc=acc++l.toArray
 | [],acc=>by simp
 | c::r,acc=>by
   rw [List.map_cons,List.foldl_cons,join_fold r]
   have e:(Str.ofString "").cps = #[]:=by decide +kernel
   rw [e]
   apply Array.toList_inj.mp
   simp [sg]
theorem join_sg (w:List Nat):Txt.join "" (w.map sg)=tx w:=by
 cases w with
 | nil=>decide +kernel
 | cons c r =>
   show Builtin.Str.glued (Str.ofString "") (sg c::r.map sg)=tx (c::r)
   unfold Builtin.Str.glued
   show (⟨(r.map sg).foldl _ (sg c).cps⟩:Str)=_
   rw [join_fold]
   unfold tx sg
   congr 1
   apply Array.toList_inj.mp
   simp
theorem sg_len (c:Nat):(sg c).length=1:=rfl
theorem sum_sg (w:List Nat):((w.map sg).map (·.length)).sum=w.length:=by
 induction w with
 | nil=>rfl
 | cons c r ih=>rw [List.map_cons,List.map_cons,List.sum_cons,ih,sg_len,List.length_cons];omega
theorem risingS_inc:∀ {w:List Nat} {x:Nat},risingS (sg x) (w.map sg)=true->(∀ c ∈ w,x<=c)/\w.Pairwise (·<=·)
 | [],_,_=>⟨fun _ h=>(nomatch h),.nil⟩
 | y::r,x,h=>by
   have h:(!(decide (y<x) || (y == x && false)) && risingS (sg y) (r.map sg))=true:=h
   rw [Bool.and_false,Bool.or_false,Bool.and_eq_true,Bool.not_eq_true',decide_eq_false_iff_not] at h
   obtain ⟨h1,h2⟩:=risingS_inc (w:=r) (x:=y) h.2
   refine ⟨fun c hc=>?_,.cons h1 h2⟩
   rcases List.mem_cons.mp hc with rfl | hc
   ·omega
   ·have:=h1 c hc
    omega
theorem sorted_inc:∀ {w:List Nat},sortedS (w.map sg)=true->w.Nodup->w.Pairwise (· < ·)
 | [],_,_ => .nil
 | x::r,h,hn=>by
   obtain ⟨h1,h2⟩:=risingS_inc (w:=r) (x:=x) h
   obtain ⟨n1,n2⟩:=List.nodup_cons.mp hn
   refine .cons (fun c hc=>Nat.lt_of_le_of_ne (h1 c hc) fun e=>n1 (e ▸ hc)) ?_
   exact (List.Pairwise.and h2 n2).imp fun ⟨a,b⟩=>Nat.lt_of_le_of_ne a b
end L3
namespace L3
open PySem PySem.Spec
open PyProof.Rows hiding St
open L2
structure StAt (H:Hp) (a l:Addr) (num cnt:Int) (pl:Nat) (cs:List Int):Prop where
 ne:a ≠ l
 ha:H a=some (.lst [.ref l,.int num,.int cnt,.int pl])
 hl:H l=some (.lst (cs.map V.int))
 n0:0<=num
 c0:0<=cnt
structure IsState (O:Ob):Prop where
 ex:∃ a l,O.v = .ref a/\O.M a/\O.M l/\(∀ H,O.P H->∃ n c p cs,StAt H a l n c p cs)/\∀ H H' n c p cs,O.P H->StAt H' a l n c p cs->(∀ b,O.M b->b ≠ a->b ≠ l->H' b=H b)->O.P H'
theorem IsState.plus {O:Ob} (h:IsState O) (D:Addr) (u:HO) (nm:¬ O.M D):IsState (O.plus D u):=by
 obtain ⟨a,l,hv,ma,ml,h1,h2⟩:=h.ex
 have da:D ≠ a:=fun e=>nm (e ▸ ma)
 have dl:D ≠ l:=fun e=>nm (e ▸ ml)
 refine ⟨a,l,hv,.inl ma,.inl ml,fun H p=>h1 H p.1,fun H H' n c p cs pp q k=>⟨h2 H H' n c p cs pp.1 q fun b mb=>k b (.inl mb),?_⟩⟩
 rw [k D (.inr rfl) da dl]
 exact pp.2
theorem upS {κ:Type} {O:κ->Ob} (h:∀ j,IsState (O j)):∀ j,IsState (compO O j):=fun j=>(h j.1.1).plus _ _ j.2
def stOb (a l:Addr):Ob:=⟨fun b=>b=a\/b=l,fun H=>∃ n c p cs,StAt H a l n c p cs,.ref a⟩
theorem stOb_ok (a l:Addr):(stOb a l).Ok:=by
 refine ⟨fun H H' e ⟨n,c,pl,cs,p⟩=>⟨n,c,pl,cs,p.ne,(e a (.inl rfl)).trans p.ha,(e l (.inr rfl)).trans p.hl,p.n0,p.c0⟩,fun H b o ⟨n,c,pl,cs,p⟩ eb m=>?_,fun H b ⟨n,c,pl,cs,p⟩ m=>?_⟩
 ·rcases m with rfl | rfl
  ·rw [p.ha] at eb;cases eb;exact ⟨fun _ z=>(by cases z),fun _ _ z=>(by cases z)⟩
  ·rw [p.hl] at eb;cases eb;exact ⟨fun _ z=>(by cases z),fun _ _ z=>(by cases z)⟩
 ·rcases m with rfl | rfl
  ·exact ⟨_,p.ha⟩
  ·exact ⟨_,p.hl⟩
theorem stOb_is (a l:Addr):IsState (stOb a l):=⟨a,l,rfl,.inl rfl,.inr rfl,fun _ p=>p,fun _ _ n c p cs _ q _=>⟨n,c,p,cs,q⟩⟩
abbrev mAdd (a b:TE):TE:=tOp (rI0 fun i j => .int (i+j)) a b
abbrev mMul (a b:TE):TE:=tOp (rI CMul fun i j => .int (i * j)) a b
abbrev mMod (a b:TE):TE:=tOp (rI (fun _ j=>0<j) fun i j => .int (i % j)) a b
abbrev mDiv (a b:TE):TE:=tOp (rI CDiv fun i j => .int (i / j)) a b
abbrev mC (i:Int):TE:=tC (.int i)
abbrev mLen (K:PySem.W.Frag):TE:=tCB (lenR K) (tCons (pAt K 0) tNil)
def tDrawT (K:PySem.W.Frag):TS :=
 tSeq (tAsg (mMod (mAdd (mAdd (mMul (mMod (tVar 3) (mC 2147483629)) (mC 48271)) (mMul (mC 7919) (pAt K 2))) (mC 5)) (mC 2147483647)) (gName 4))
 (tSeq (tAsg (mMod (mAdd (mMul (tVar 4) (tVar 4)) (mMul (mC 104729) (pAt K 2))) (mC 2147483629)) (gName 4))
 (tSeq (tAsg (mMod (mAdd (mMul (tVar 4) (mC 69621)) (mC 16807)) (mC 2147483587)) (gName 4))
 (tRet (mMod (mMod (mMul (tVar 4) (tVar 4)) (mC 2147483579)) (tVar 1)))))
def tDrawS (K:PySem.W.Frag):TS :=
 tSeq (tAsg (mAdd (pAt K 2) (mC 1)) (gSub (tVar 0) (mC 2) rSetL))
 (tSeq (tIfS (tTest (tOp (rI0 fun i j => .bl (decide (j<i))) (pAt K 1) (mC 0)))
  (tSeq (tAsg (mMod (pAt K 1) (tVar 1)) (gName 2)) (tSeq (tAsg (mDiv (pAt K 1) (tVar 1)) (gSub (tVar 0) (mC 1) rSetL)) (tRet (tVar 2)))) tNext)
 (tSeq (tAsg (mC 7) (gName 3))
 (tSeq (tIfS (tTest (tOp (rI0 fun i j => .bl (decide (i<j))) (pAt K 3) (mLen K)))
  (tSeq (tAsg (tOp (rIxL K) (pAt K 0) (pAt K 3)) (gName 3)) (tSeq (tAsg (mAdd (pAt K 3) (mC 1)) (gSub (tVar 0) (mC 3) rSetL))
   (tIfS (tTest (tOp (rI0 fun i j => .bl (decide (j<=i))) (tVar 3) (tOp (rI CPow fun i j => .int (i ^ j.toNat)) (mC 10) (mC 18))))
    (tSeq (tAsg (mDiv (tVar 3) (tVar 1)) (gSub (tVar 0) (mC 1) rSetL)) (tRet (mMod (tVar 3) (tVar 1)))) tNext)))
  (tIfS (tTest (tOp (rI0 fun i j => .bl (decide (j<i))) (mLen K) (mC 0))) (tAsg (tOp (rIxL K) (pAt K 0) (mMod (pAt K 2) (mLen K))) (gName 3)) tNext))
 (tDrawT K))))
theorem at_st {K:PySem.W.Frag} {H:Hp} {a l:Addr} {n c:Int} {pl:Nat} {cs:List Int} {σ:St} {Q:VK} (p:StAt H a l n c pl cs) (hσ:σ[0]? = some (some (.ref a))) {i:Int} {v:V} (hv:atI [V.ref l,V.int n,V.int c,V.int pl] i=some v) (q:Q v H):pAt K i σ H Q :=
 ⟨_,hσ,a,_,i,v,rfl,rfl,.of p.ha,hv,q⟩
theorem StAt.setN {H:Hp} {a l:Addr} {n c:Int} {pl:Nat} {cs:List Int} (p:StAt H a l n c pl cs) {n':Int} (h:0<=n'):StAt (upd H a (.lst ([V.ref l,V.int n,V.int c,V.int pl].set 1 (.int n')))) a l n' c pl cs :=
 ⟨p.ne,upd_same,by rw [upd_ne (Ne.symm p.ne)];exact p.hl,h,p.c0⟩
theorem StAt.setC {H:Hp} {a l:Addr} {n c:Int} {pl:Nat} {cs:List Int} (p:StAt H a l n c pl cs) {c':Int} (h:0<=c'):StAt (upd H a (.lst ([V.ref l,V.int n,V.int c,V.int pl].set 2 (.int c')))) a l n c' pl cs :=
 ⟨p.ne,upd_same,by rw [upd_ne (Ne.symm p.ne)];exact p.hl,p.n0,h⟩
theorem StAt.setP {H:Hp} {a l:Addr} {n c:Int} {pl:Nat} {cs:List Int} (p:StAt H a l n c pl cs) {pl':Nat}:StAt (upd H a (.lst ([V.ref l,V.int n,V.int c,V.int pl].set 3 (.int pl')))) a l n c pl' cs :=
 ⟨p.ne,upd_same,by rw [upd_ne (Ne.symm p.ne)];exact p.hl,p.n0,p.c0⟩
theorem drawT_ok {K:PySem.W.Frag} {H:Hp} {a l:Addr} {n c:Int} {pl:Nat} {cs:List Int} {m cell:Int} {o2 o4:Option V} {D:Ends} (p:StAt H a l n c pl cs) (m0:0<m) (q:∀ k,0<=k->k<m->D.rt (.int k) H):tDrawT K D [some (.ref a),some (.int m),o2,some (.int cell),o4] H:=by
 refine ⟨_,rfl,cell,2147483629,rfl,rfl,(show (0:Int)<2147483629 by decide),?_⟩
 refine ⟨_,_,rfl,rfl,.inr ⟨by decide,by decide⟩,?_⟩
 refine at_st p rfl rfl ?_
 refine ⟨7919,c,rfl,rfl,.inl ⟨by decide,by decide⟩,?_⟩
 refine ⟨_,_,rfl,rfl,_,_,rfl,rfl,_,_,rfl,rfl,(show (0:Int)<2147483647 by decide),?_⟩
 dsimp only
 generalize hA:(cell % 2147483629 * 48271+7919 * c+5) % 2147483647=A
 have a0:0<=A:=hA ▸ Int.emod_nonneg _ (by decide)
 have a1:A<2147483647:=hA ▸ Int.emod_lt_of_pos _ (by decide)
 refine ⟨_,rfl,_,rfl,A,A,rfl,rfl,.inl ⟨by omega,by omega⟩,?_⟩
 refine at_st p rfl rfl ?_
 refine ⟨104729,c,rfl,rfl,.inl ⟨by decide,by decide⟩,?_⟩
 refine ⟨_,_,rfl,rfl,_,_,rfl,rfl,(show (0:Int)<2147483629 by decide),?_⟩
 dsimp only
 generalize hB:(A * A+104729 * c) % 2147483629=B
 refine ⟨_,rfl,B,69621,rfl,rfl,.inr ⟨by decide,by decide⟩,?_⟩
 refine ⟨_,_,rfl,rfl,_,_,rfl,rfl,(show (0:Int)<2147483587 by decide),?_⟩
 dsimp only
 generalize hC:(B * 69621+16807) % 2147483587=C
 have c0:0<=C:=hC ▸ Int.emod_nonneg _ (by decide)
 have c1:C<2147483587:=hC ▸ Int.emod_lt_of_pos _ (by decide)
 refine ⟨_,rfl,_,rfl,C,C,rfl,rfl,.inl ⟨by omega,by omega⟩,?_⟩
 refine ⟨_,_,rfl,rfl,(show (0:Int)<2147483579 by decide),_,rfl,_,_,rfl,rfl,m0,?_⟩
 exact q _ (Int.emod_nonneg _ (by omega)) (Int.emod_lt_of_pos _ m0)
theorem drawS_ok {K:PySem.W.Frag} {H:Hp} {a l:Addr} {n c:Int} {pl:Nat} {cs:List Int} {m:Int} {D:Ends} (p:StAt H a l n c pl cs) (m0:0<m) (m1:m<1073741824)
 (q:∀ k H' n' c' pl',0<=k->k<m->StAt H' a l n' c' pl' cs->PotStp a l H H'->D.rt (.int k) H'):tDrawS K D [some (.ref a),some (.int m),none,none,none] H:=by
 refine at_st p rfl rfl ?_
 refine ⟨c,1,rfl,rfl,?_⟩
 refine ⟨_,rfl,a,_,2,2,rfl,rfl,p.ha,rfl,?_⟩
 have c0:=p.c0
 have p1:=p.setC (c':=c+1) (by omega)
 refine at_st p1 rfl rfl ?_
 refine ⟨n,0,rfl,rfl,_,rfl,?_⟩
 refine ite2 (fun z=>?_) (fun z=>?_)
 ·refine at_st p1 rfl rfl ?_
  refine ⟨_,rfl,n,m,rfl,rfl,m0,?_⟩
  refine at_st p1 rfl rfl ?_
  refine ⟨_,rfl,n,m,rfl,rfl,⟨m0,m1⟩,?_⟩
  refine ⟨_,rfl,a,_,1,1,rfl,rfl,p1.ha,rfl,?_⟩
  exact ⟨_,rfl,q _ _ _ _ _ (Int.emod_nonneg _ (by omega)) (Int.emod_lt_of_pos _ m0) (p1.setN (Int.ediv_nonneg p.n0 (by omega))) (PotStp.trans (.upA _) (.upA _))⟩
 ·refine at_st p1 rfl rfl ?_
  have ln:∀ {Q:VK} {σ:St},σ[0]? = some (some (.ref a))->Q (.int (cs.length:Nat)) (upd H a (.lst ([V.ref l,V.int n,V.int c,V.int pl].set 2 (.int (c+1)))))->mLen K σ (upd H a (.lst ([V.ref l,V.int n,V.int c,V.int pl].set 2 (.int (c+1))))) Q:=fun hs q=>at_st p1 hs rfl ⟨_,_,rfl,.inl ⟨_,.of p1.hl,by rw [List.length_map]⟩,q⟩
  refine ln rfl ?_
  refine ⟨(pl:Nat),(cs.length:Nat),rfl,rfl,_,rfl,?_⟩
  refine ite2 (fun z2=>?_) (fun z2=>?_)
  ·have hlt:pl<cs.length:=by have:=of_decide_eq_true z2;omega
   refine at_st p1 rfl rfl ?_
   refine at_st p1 rfl rfl ?_
   refine ⟨l,_,(pl:Nat),.int cs[pl],rfl,rfl,.of p1.hl,?_,?_⟩
   ·exact atI_nat (by rw [List.getElem?_map,List.getElem?_eq_getElem hlt];rfl)
   refine at_st p1 rfl rfl ?_
   refine ⟨(pl:Nat),1,rfl,rfl,?_⟩
   refine ⟨_,rfl,a,_,3,3,rfl,rfl,p1.ha,rfl,?_⟩
   have p2:=p1.setP (pl':=pl+1)
   generalize cs[pl]=cell
   have out:tDrawT K D [some (.ref a),some (.int m),none,some (.int cell),none] (upd (upd H a (.lst ([V.ref l,V.int n,V.int c,V.int pl].set 2 (.int (c+1))))) a (.lst ([V.ref l,V.int n,V.int (c+1),V.int pl].set 3 (.int ((pl+1:Nat):Int))))):=drawT_ok p2 m0 fun k k0 k1=>q k _ _ _ _ k0 k1 p2 (PotStp.trans (.upA _) (.upA _))
   refine ⟨_,rfl,10,18,rfl,rfl,⟨by decide,by decide,by decide⟩,cell,_,rfl,rfl,_,rfl,?_⟩
   refine ite2 (fun z3=>?_) (fun _=>out)
   have hc:(10:Int) ^ (18:Nat)<=cell:=of_decide_eq_true z3
   have hc0:0<=cell:=by omega
   refine ⟨_,rfl,_,rfl,cell,m,rfl,rfl,⟨m0,m1⟩,?_⟩
   refine ⟨_,rfl,a,_,1,1,rfl,rfl,p2.ha,rfl,?_⟩
   have p3:=p2.setN (n':=cell / m) (Int.ediv_nonneg hc0 (by omega))
   exact ⟨_,rfl,_,rfl,cell,m,rfl,rfl,m0,q _ _ _ _ _ (Int.emod_nonneg _ (by omega)) (Int.emod_lt_of_pos _ m0) p3 (PotStp.trans (PotStp.trans (.upA _) (.upA _)) (.upA _))⟩
  ·have out:∀ cell:Int,tDrawT K D [some (.ref a),some (.int m),none,some (.int cell),none] (upd H a (.lst ([V.ref l,V.int n,V.int c,V.int pl].set 2 (.int (c+1))))):=fun cell=>drawT_ok p1 m0 fun k k0 k1=>q k _ _ _ _ k0 k1 p1 (.upA _)
   refine ln rfl ?_
   refine ⟨(cs.length:Nat),0,rfl,rfl,_,rfl,?_⟩
   refine ite2 (fun z3=>?_) (fun _=>out 7)
   have hl:0<cs.length:=by have:=of_decide_eq_true z3;omega
   refine at_st p1 rfl rfl ?_
   refine at_st p1 rfl rfl ?_
   refine ln rfl ?_
   refine ⟨c+1,(cs.length:Nat),rfl,rfl,(show (0:Int)<(cs.length:Nat) by omega),?_⟩
   dsimp only
   have i0:0<=(c+1) % ((cs.length:Nat):Int):=Int.emod_nonneg _ (by omega)
   have i1:(c+1) % ((cs.length:Nat):Int)<((cs.length:Nat):Int):=Int.emod_lt_of_pos _ (by omega)
   obtain ⟨j,hj⟩:=Int.eq_ofNat_of_zero_le i0
   rw [hj] at i1 ⊢
   have hlt:j<cs.length:=by omega
   exact ⟨l,_,(j:Nat),.int cs[j],rfl,rfl,.of p1.hl,atI_nat (by rw [List.getElem?_map,List.getElem?_eq_getElem hlt];rfl),out _⟩
theorem st_stp {O:Ob} {H H':Hp} {a l:Addr} {n c n' c':Int} {p p':Nat} {cs cs':List Int} (ma:O.M a) (ml:O.M l) (h2:∀ H H' n c p cs,O.P H->StAt H' a l n c p cs->(∀ b,O.M b->b ≠ a->b ≠ l->H' b=H b)->O.P H') (p0:StAt H a l n c p cs) (p1:StAt H' a l n' c' p' cs') (st:PotStp a l H H'):Stp O H H':=by
 refine ⟨fun b o e nm=>?_,fun pp=>h2 H H' _ _ _ _ pp p1 fun b _ h3 h4=>st.oth b h3 h4,fun b u hu e=>?_⟩
 ·rw [st.oth b (fun z=>nm (z ▸ ma)) fun z=>nm (z ▸ ml)];exact e
 ·rw [st.oth b (fun z=>?_) fun z=>?_]
  ·exact e
  ·rw [z,p0.ha] at e;cases e;obtain ⟨xs,e1 | ⟨o,e1⟩⟩:=hu <;> cases e1
  ·rw [z,p0.hl] at e;cases e;obtain ⟨xs,e1 | ⟨o,e1⟩⟩:=hu <;> cases e1
theorem drawS_body {K:PySem.W.Frag} {O:Ob} {H:Hp} {ds:List PyData} {ws:List V} {Qr:R->Prop} {Q:VK} {x1 x2 x3 x4 x5:Str} (hφ:IsState O) (p:O.P H) (is:IsAll K (unM O) H ws ds) (q:drawF ds Qr) (kk:∀ r,Qr r->∀ v H',Stp O H H'->Out K O H H' v r->Q v H') :
 tDrawS K { nx:=fun _ H'=>Q .non H',rt:=Q } (L2.start [x1,x2,x3,x4,x5] (O.v::ws)) H:=by
 obtain ⟨m,rfl,m0,m1,q⟩:=q
 obtain ⟨a,l,hv,ma,ml,h1,h2⟩:=hφ.ex
 obtain ⟨n,c,pl,cs,pa⟩:=h1 H p
 cases is with
 | cons i1 is =>
   cases is
   cases i1
   rw [hv]
   exact drawS_ok pa m0 m1 fun k H' n' c' pl' k0 k1 pa' st=>kk _ (q k k0 k1) _ H' (st_stp ma ml h2 pa pa' st) (.int k)
end L3
namespace L31
open PySem PySem.Spec
open PyProof.Rows hiding St
open L2 L3
def top (i:Nat):Stmt:=PySem.Challenge.pw_lostpost_k31_houses_as_texts.main.body.getD i (.Pass ⟨0,0,0,0⟩)
section
variable {P : Program} {w : World} {K : PySem.W.Frag} {mg : Str → Option Value} {base : Heap} {k : Nat}
abbrev DDraw (P:Program) (w:World) (K:PySem.W.Frag) (mg:Str->Option Value) (base:Heap):Prop:=Def3 P w K mg base 1 "_law_draw" ["_law_state", "_law_many"] (spD K IsState 1 drawF)
abbrev sDraw:Stmt:=top 22
theorem scDraw:FnScope ["_law_state", "_law_many", "_law_found", "_law_cell", "_law_number_here"] ["_law_state", "_law_many"] (defScope sDraw):=⟨rfl,rfl,rfl,by decide +kernel,rfl,by decide +kernel,by decide +kernel⟩
theorem d_law_draw (B:Blt mg) (T:Top3 K mg "_law_draw" sDraw):Def3 P w K mg base 1 "_law_draw" ["_law_state", "_law_many"] (spD K IsState 1 drawF):=by
 obtain ⟨f,fd,Fu,m⟩:=T.ex
 refine ⟨f,fd,Fu.ok scDraw (spD_len rfl) (fun cdv A outer s H vs Q E hr h=>?_),m,Fu.kp,Fu.binds (fun _ _ _ _ _ _ us hl=>len2 hl fun _ _=>rfl)⟩
 obtain ⟨O,ds,ws,Qr,ok,hφ,p,hl,rfl,is,q,kk⟩:=h
 have nd:(["_law_state", "_law_many", "_law_found", "_law_cell", "_law_number_here"]:List Str).Nodup:=by decide +kernel
 refine ⟨tDrawS K,?_,drawS_body hφ p is q kk⟩
 exact (pss_cons (ps_asg (pe_op op_add (pe_ix ix_list (pe_var (i:=0) rfl (by first | exact Or.inl rfl | exact Or.inr (Or.inl rfl) | exact Or.inr (Or.inr rfl))) pe_int (fun _ _=>rfl)) pe_int) (pg_sub (pe_var (i:=0) rfl (by first | exact Or.inl rfl | exact Or.inr (Or.inl rfl) | exact Or.inr (Or.inr rfl))) pe_int set_list)) (pss_cons (ps_if (pt_cmpR op_gt (pe_ix ix_list (pe_var (i:=0) rfl (by first | exact Or.inl rfl | exact Or.inr (Or.inl rfl) | exact Or.inr (Or.inr rfl))) pe_int (fun _ _=>rfl)) pe_int (nomark _)) (pss_cons (ps_set (i:=2) nd rfl (by first | exact Or.inl rfl | exact Or.inr rfl) (pe_op op_mod (pe_ix ix_list (pe_var (i:=0) rfl (by first | exact Or.inl rfl | exact Or.inr (Or.inl rfl) | exact Or.inr (Or.inr rfl))) pe_int (fun _ _=>rfl)) (pe_var (i:=1) rfl (by first | exact Or.inl rfl | exact Or.inr (Or.inl rfl) | exact Or.inr (Or.inr rfl))))) (pss_cons (ps_asg (pe_op op_fdiv (pe_ix ix_list (pe_var (i:=0) rfl (by first | exact Or.inl rfl | exact Or.inr (Or.inl rfl) | exact Or.inr (Or.inr rfl))) pe_int (fun _ _=>rfl)) (pe_var (i:=1) rfl (by first | exact Or.inl rfl | exact Or.inr (Or.inl rfl) | exact Or.inr (Or.inr rfl)))) (pg_sub (pe_var (i:=0) rfl (by first | exact Or.inl rfl | exact Or.inr (Or.inl rfl) | exact Or.inr (Or.inr rfl))) pe_int set_list)) (pss_one (ps_ret (pe_var (i:=2) rfl (by first | exact Or.inl rfl | exact Or.inr (Or.inl rfl) | exact Or.inr (Or.inr rfl))))))) pss_nil) (pss_cons (ps_set (i:=3) nd rfl (by first | exact Or.inl rfl | exact Or.inr rfl) pe_int) (pss_cons (ps_if (pt_cmpR op_lt (pe_ix ix_list (pe_var (i:=0) rfl (by first | exact Or.inl rfl | exact Or.inr (Or.inl rfl) | exact Or.inr (Or.inr rfl))) pe_int (fun _ _=>rfl)) (pe_callB call_len rfl B.len bt_len (pa_cons (pe_ix ix_list (pe_var (i:=0) rfl (by first | exact Or.inl rfl | exact Or.inr (Or.inl rfl) | exact Or.inr (Or.inr rfl))) pe_int (fun _ _=>rfl)) pa_nil)) (nomark _)) (pss_cons (ps_set (i:=3) nd rfl (by first | exact Or.inl rfl | exact Or.inr rfl) (pe_ix ix_list (pe_ix ix_list (pe_var (i:=0) rfl (by first | exact Or.inl rfl | exact Or.inr (Or.inl rfl) | exact Or.inr (Or.inr rfl))) pe_int (fun _ _=>rfl)) (pe_ix ix_list (pe_var (i:=0) rfl (by first | exact Or.inl rfl | exact Or.inr (Or.inl rfl) | exact Or.inr (Or.inr rfl))) pe_int (fun _ _=>rfl)) (fun _ _=>rfl))) (pss_cons (ps_asg (pe_op op_add (pe_ix ix_list (pe_var (i:=0) rfl (by first | exact Or.inl rfl | exact Or.inr (Or.inl rfl) | exact Or.inr (Or.inr rfl))) pe_int (fun _ _=>rfl)) pe_int) (pg_sub (pe_var (i:=0) rfl (by first | exact Or.inl rfl | exact Or.inr (Or.inl rfl) | exact Or.inr (Or.inr rfl))) pe_int set_list)) (pss_one (ps_if (pt_cmpR op_ge (pe_var (i:=3) rfl (by first | exact Or.inl rfl | exact Or.inr (Or.inl rfl) | exact Or.inr (Or.inr rfl))) (pe_op op_pow pe_int pe_int) (nomark _)) (pss_cons (ps_asg (pe_op op_fdiv (pe_var (i:=3) rfl (by first | exact Or.inl rfl | exact Or.inr (Or.inl rfl) | exact Or.inr (Or.inr rfl))) (pe_var (i:=1) rfl (by first | exact Or.inl rfl | exact Or.inr (Or.inl rfl) | exact Or.inr (Or.inr rfl)))) (pg_sub (pe_var (i:=0) rfl (by first | exact Or.inl rfl | exact Or.inr (Or.inl rfl) | exact Or.inr (Or.inr rfl))) pe_int set_list)) (pss_one (ps_ret (pe_op op_mod (pe_var (i:=3) rfl (by first | exact Or.inl rfl | exact Or.inr (Or.inl rfl) | exact Or.inr (Or.inr rfl))) (pe_var (i:=1) rfl (by first | exact Or.inl rfl | exact Or.inr (Or.inl rfl) | exact Or.inr (Or.inr rfl))))))) pss_nil)))) (pss_one (ps_if (pt_cmpR op_gt (pe_callB call_len rfl B.len bt_len (pa_cons (pe_ix ix_list (pe_var (i:=0) rfl (by first | exact Or.inl rfl | exact Or.inr (Or.inl rfl) | exact Or.inr (Or.inr rfl))) pe_int (fun _ _=>rfl)) pa_nil)) pe_int (nomark _)) (pss_one (ps_set (i:=3) nd rfl (by first | exact Or.inl rfl | exact Or.inr rfl) (pe_ix ix_list (pe_ix ix_list (pe_var (i:=0) rfl (by first | exact Or.inl rfl | exact Or.inr (Or.inl rfl) | exact Or.inr (Or.inr rfl))) pe_int (fun _ _=>rfl)) (pe_op op_mod (pe_ix ix_list (pe_var (i:=0) rfl (by first | exact Or.inl rfl | exact Or.inr (Or.inl rfl) | exact Or.inr (Or.inr rfl))) pe_int (fun _ _=>rfl)) (pe_callB call_len rfl B.len bt_len (pa_cons (pe_ix ix_list (pe_var (i:=0) rfl (by first | exact Or.inl rfl | exact Or.inr (Or.inl rfl) | exact Or.inr (Or.inr rfl))) pe_int (fun _ _=>rfl)) pa_nil))) (fun _ _=>rfl)))) pss_nil))) (pss_cons (ps_set (i:=4) nd rfl (by first | exact Or.inl rfl | exact Or.inr rfl) (pe_op op_mod (pe_op op_add (pe_op op_add (pe_op op_mul (pe_op op_mod (pe_var (i:=3) rfl (by first | exact Or.inl rfl | exact Or.inr (Or.inl rfl) | exact Or.inr (Or.inr rfl))) pe_int) pe_int) (pe_op op_mul pe_int (pe_ix ix_list (pe_var (i:=0) rfl (by first | exact Or.inl rfl | exact Or.inr (Or.inl rfl) | exact Or.inr (Or.inr rfl))) pe_int (fun _ _=>rfl)))) pe_int) pe_int)) (pss_cons (ps_set (i:=4) nd rfl (by first | exact Or.inl rfl | exact Or.inr rfl) (pe_op op_mod (pe_op op_add (pe_op op_mul (pe_var (i:=4) rfl (by first | exact Or.inl rfl | exact Or.inr (Or.inl rfl) | exact Or.inr (Or.inr rfl))) (pe_var (i:=4) rfl (by first | exact Or.inl rfl | exact Or.inr (Or.inl rfl) | exact Or.inr (Or.inr rfl)))) (pe_op op_mul pe_int (pe_ix ix_list (pe_var (i:=0) rfl (by first | exact Or.inl rfl | exact Or.inr (Or.inl rfl) | exact Or.inr (Or.inr rfl))) pe_int (fun _ _=>rfl)))) pe_int)) (pss_cons (ps_set (i:=4) nd rfl (by first | exact Or.inl rfl | exact Or.inr rfl) (pe_op op_mod (pe_op op_add (pe_op op_mul (pe_var (i:=4) rfl (by first | exact Or.inl rfl | exact Or.inr (Or.inl rfl) | exact Or.inr (Or.inr rfl))) pe_int) pe_int) pe_int)) (pss_one (ps_ret (pe_op op_mod (pe_op op_mod (pe_op op_mul (pe_var (i:=4) rfl (by first | exact Or.inl rfl | exact Or.inr (Or.inl rfl) | exact Or.inr (Or.inr rfl))) (pe_var (i:=4) rfl (by first | exact Or.inl rfl | exact Or.inr (Or.inl rfl) | exact Or.inr (Or.inr rfl)))) pe_int) (pe_var (i:=1) rfl (by first | exact Or.inl rfl | exact Or.inr (Or.inl rfl) | exact Or.inr (Or.inr rfl)))))))))))))
end
end L31
namespace L3
open PySem PySem.Spec
open PyProof.Rows hiding St
open L2
theorem eqF_str {neg:Bool} {x y:Str} (hx:PyData.strOk x=true) (hy:PyData.strOk y=true):eqF neg (.str x) (.str y)=some (.o (.bool (if neg then !(x == y) else x == y))):=by
 unfold eqF
 rw [if_pos (by simp [okD,PyData.canLay0,PyData.depth,hx,hy])]
 rfl
theorem tx_inj {v w:List Nat} (h:tx v=tx w):v=w:=by
 have:=congrArg (fun x:Str=>x.cps.toList) h
 simpa [tx] using this
theorem eqF_int {neg:Bool} {i j:Int}:eqF neg (.int i) (.int j)=some (.o (.bool (if neg then !decide (i=j) else decide (i=j)))):=by
 unfold eqF
 have e:(okD (PyData.int i) && (PyData.int j).canLay0)=true:=by simp [okD,PyData.canLay0,PyData.depth]
 rw [if_pos e]
 rfl
theorem comp_of {α:Type} {enc:α->PyData} {i:Nat} {fe:DE} {ρ:DSt} {Q:List PyData->Prop} {as:List α} {e:α->PyData} {h:Nat} (step:∀ a ∈ as,∀ P:R->Prop,(∀ r,r.d=e a->P r)->fe ((List.replicate h none++ρ).set i (some (.im (enc a)))) P) (hz:as.length<=sizeLine) (q:Q (as.map e)) :
 compGo h (gN i) yesD fe ρ Q (as.map enc) []:=by
 have key:∀ (as:List α) (acc:List PyData),(∀ a ∈ as,∀ P:R->Prop,(∀ r,r.d=e a->P r)->fe ((List.replicate h none++ρ).set i (some (.im (enc a)))) P)->acc.length+as.length<=sizeLine->Q (acc++as.map e)->compGo h (gN i) yesD fe ρ Q (as.map enc) acc:=by
  intro as
  induction as with
  | nil=>intro acc _ _ q;show Q acc;simpa using q
  | cons a as ih =>
    intro acc st hz q
    rw [List.length_cons] at hz
    refine st a List.mem_cons_self _ fun r hr=>?_
    refine ⟨by omega,?_⟩
    rw [hr]
    exact ih (acc ++ [e a]) (fun a' ha=>st a' (List.mem_cons_of_mem _ ha)) (by rw [List.length_append];simp;omega) (by simpa using q)
 exact key as [] step (by simpa using hz) (by simpa using q)
theorem forGo_rev {g:DG} {gb:DS} {Dd:DEnds} {ds:List PyData} {ρ:DSt} (J:Nat->DSt->Prop) (h0:J 0 ρ) (fin:∀ ρ,J ds.length ρ->Dd.nx ρ)
 (step:∀ (j:Nat) d ρ (N:DSt->Prop),ds[j]? = some d->(∀ ρ',J (j+1) ρ'->N ρ')->J j ρ->flat d=true/\g d ρ fun ρ2=>gb { Dd with nx:=N,ct:=N,bk:=Dd.nx } ρ2):forGo g gb Dd ds ρ:=by
 have key:∀ (k j:Nat),j+k=ds.length->∀ ρ,J j ρ->forGo g gb Dd (ds.drop j) ρ:=by
  intro k
  induction k with
  | zero =>
    intro j hj ρ h
    rw [List.drop_eq_nil_of_le (by omega)]
    have e:j=ds.length:=by omega
    rw [e] at h
    exact fin ρ h
  | succ k ih =>
    intro j hj ρ h
    have hlt:j<ds.length:=by omega
    rw [List.drop_eq_getElem_cons hlt]
    exact step j ds[j] ρ _ (List.getElem?_eq_getElem hlt) (fun ρ' h'=>ih (j+1) (by omega) ρ' h') h
 have:=key ds.length 0 (by omega) ρ h0
 simpa using this
theorem numsD_len (lo:Int) (n:Nat):(numsD lo n).length=n:=by simp [numsD]
theorem flats_map {α:Type} {f:α->PyData} (h:∀ a,flat (f a)=true):∀ l:List α,flats (l.map f)=true
 | []=>rfl
 | a::l=>by rw [List.map_cons,flats,h a,flats_map h l];rfl
end L3
namespace L3
open PySem PySem.Spec
open PyProof.Rows hiding St
open L2
abbrev LowW (w:List Nat):Prop:=∀ c ∈ w,isLow c
theorem tx_len (w:List Nat):(tx w).length=w.length:=by simp [tx,Str.length]
theorem len_tx {w:List Nat} (h:w.length<=16777216):lenF [.str (tx w)]=some (.o (.int w.length)):=by
 unfold lenF
 dsimp only
 rw [tx_len,if_pos (by rw [sizeLine_eq];exact h)]
theorem idx_tx {w:List Nat} {k:Nat} (h:k<w.length) (hl:w.length<=16777216):idxF (.str (tx w)) (.int (k:Nat))=some (.o (.str (tx [w[k]]))):=by
 unfold idxF
 dsimp only
 rw [tx_len,if_pos (by rw [sizeLine_eq];exact hl),tx_toList,atI_nat (v:=w[k]) (by rw [List.getElem?_eq_getElem h])]
 rfl
theorem add_tx {v w:List Nat} (h:v.length+w.length<=16777216):addF (.str (tx v)) (.str (tx w))=some (.o (.str (tx (v++w)))):=by
 unfold addF
 dsimp only
 rw [tx_len,tx_len,if_pos (by rw [sizeLine_eq];exact h)]
 have e:tx v++tx w=tx (v++w):=by
  show Str.mk _=Str.mk _
  simp [tx]
 rw [e]
theorem sIx_nat (n d m:Nat):HT.sIx n d (some (m:Int))=min m n:=by
 have:=sIx_clip n d (m:Int)
 rw [if_neg (by omega)] at this
 omega
theorem sIx_none (n d:Nat):HT.sIx n d none=d:=rfl
theorem cut_to {α:Type} (xs:List α) (m:Nat):cutL xs none (some (m:Int))=xs.take m:=by
 unfold cutL
 rw [sIx_nat,sIx_none,List.drop_zero,Nat.sub_zero,List.take_eq_take_min,Nat.min_assoc,Nat.min_self,<- List.take_eq_take_min]
theorem cut_from {α:Type} (xs:List α) (m:Nat):cutL xs (some (m:Int)) none=xs.drop m:=by
 unfold cutL
 rw [sIx_nat,sIx_none]
 rcases Nat.le_total m xs.length with h | h
 ·rw [Nat.min_eq_left h,List.take_of_length_le (by rw [List.length_drop];exact Nat.le_refl _)]
 ·rw [Nat.min_eq_right h,List.drop_eq_nil_of_le (Nat.le_refl _),List.drop_eq_nil_of_le h,List.take_nil]
theorem draw_k {o:Nat} {m:Int} {ρ:DSt} {Q:R->Prop} (hρ:ρ[o]? = some (some .ob)) (h0:0<m) (h1:m<1073741824) (q:∀ k:Nat,(k:Int)<m->Q (.o (.int (k:Nat)))):calO o 1 drawF (aCons (cD (.int m)) aNil) ρ Q:=by
 refine ⟨hρ,rfl,m,rfl,h0,h1,fun k k0 k1=>?_⟩
 have:=q k.toNat (by omega)
 rwa [show ((k.toNat:Nat):Int)=k by omega] at this
theorem draw_len {o i:Nat} {d:PyData} {n:Nat} {ρ:DSt} {Q:R->Prop} (hρ:ρ[o]? = some (some .ob)) {v:DV} (hi:ρ[i]? = some (some v)) (hv:seeR v=some d) (hl:lenF [d]=some (.o (.int (n:Nat)))) (h0:0<n) (h1:n<1073741824) (q:∀ k:Nat,k<n->Q (.o (.int (k:Nat)))) :
 calO o 1 drawF (aCons (callDE (fn1 lenF) (aCons (vD i) aNil)) aNil) ρ Q:=by
 refine ⟨hρ,_,_,hi,hv,_,hl,rfl,_,rfl,by omega,by omega,fun k k0 k1=>?_⟩
 have:=q k.toNat (by omega)
 rwa [show ((k.toNat:Nat):Int)=k by omega] at this
theorem at_letter {o i:Nat} {ls:List Nat} {ρ:DSt} {Q:R->Prop} (hρ:ρ[o]? = some (some .ob)) (hi:ρ[i]? = some (some (.im (.str (tx ls))))) (hn:ls ≠ []) (hl:ls.length<=1000) (q:∀ c ∈ ls,Q (.o (.str (tx [c])))) :
 opDE (fn2 idxF) (vD i) (calO o 1 drawF (aCons (callDE (fn1 lenF) (aCons (vD i) aNil)) aNil)) ρ Q:=by
 have h0:0<ls.length:=List.length_pos_iff.mpr hn
 refine ⟨_,_,hi,rfl,draw_len hρ hi rfl (len_tx (by omega)) h0 (by omega) fun k hk=>⟨_,idx_tx hk (by omega),q _ (List.getElem_mem hk)⟩⟩
theorem join_ys (ws:List Nat) (hl:ws.length<=1000):∃ ys:List Str,PyData.list (ws.map fun c => .str (tx [c])) = .list (ys.map .str)/\(ys.map (·.length)).sum+ys.length * (Str.ofString "").length<=16777216/\Txt.join "" ys=tx ws:=by
 refine ⟨ws.map sg,by rw [List.map_map];rfl,?_,join_sg ws⟩
 have e0:(Str.ofString "").length=0:=by decide +kernel
 rw [sum_sg,e0]
 omega
theorem abc_eq:Str.ofString "abcdefghijklmnopqrstuvwxyz" = tx abc:=by decide +kernel
theorem abc_low:LowW abc:=by unfold LowW isLow;decide
theorem comp_sub {α:Type} {enc:α->PyData} {i h:Nat} {ft:DT} {fe:DE} {ρ:DSt} {Q:List PyData->Prop} {as:List α}
 (step:∀ a ∈ as,∀ (Pn:Prop) (Py:PyData->Prop),Pn->Py (enc a)->ft ((List.replicate h none++ρ).set i (some (.im (enc a)))) fun t=>if t=true then fe ((List.replicate h none++ρ).set i (some (.im (enc a)))) (fun r=>Py r.d) else Pn)
 (hz:as.length<=1000) (q:∀ bs:List α,bs.Sublist as->Q (bs.map enc)):compGo h (gN i) ft fe ρ Q (as.map enc) []:=by
 have sz:=sizeLine_eq
 have key:∀ (l:List α) (pre bs:List α),as=pre++l->bs.Sublist pre->compGo h (gN i) ft fe ρ Q (l.map enc) (bs.map enc):=by
  intro l
  induction l with
  | nil=>intro pre bs e hb;rw [List.append_nil] at e;subst e;exact q bs hb
  | cons a l ih =>
    intro pre bs e hb
    have hbl:bs.length<=pre.length:=hb.length_le
    have hal:as.length=pre.length+(l.length+1):=by rw [e,List.length_append,List.length_cons]
    have e2:as=(pre ++ [a])++l:=by rw [e];simp
    refine step a (by rw [e];simp) _ (fun d=>(bs.map enc).length<sizeLine/\compGo h (gN i) ft fe ρ Q (l.map enc) (bs.map enc ++ [d])) (ih (pre ++ [a]) bs e2 (hb.trans (List.sublist_append_left _ _))) ⟨by rw [List.length_map];omega,?_⟩
    have:=ih (pre ++ [a]) (bs ++ [a]) e2 (hb.append (List.Sublist.refl _))
    rwa [List.map_append] at this
 exact key as [] [] rfl (List.Sublist.refl _)
def spLaw (K:PySem.W.Frag):Sp:=fun vs H Q _=>∃ (a:Addr) (ns:List Int),vs = [.ref a]/\SqL K H a (ns.map V.int)/\ns.length<=63/\∀ H',Q (.bl true) H'
end L3
namespace L3
open PySem PySem.Spec
open PyProof.Rows hiding St
open L2
theorem noFill_tuple_mul:fillsNumberSlot (.type "tuple") "mul" = pure false :=
 PySem.fillsNumberSlot_seq (id := "tuple.__mul__") (r:=some (.builtin "tuple.__rmul__")) F.slot_tuple_mul.lookup (by decide +kernel) F.slot_tuple_rmul.lookup (by decide +kernel)
theorem repeat_tuple:seqRepeat? (.type "tuple")=pure (some (.builtin "tuple.__mul__")):=by
 unfold seqRepeat?
 rw [PySem.seqSlot_of (T := "tuple") (name := "__mul__") (id := "tuple.__mul__") F.slot_tuple_mul.lookup (by decide +kernel),PySem.seqSlot_of (T := "tuple") (name := "__rmul__") (id := "tuple.__rmul__") F.slot_tuple_rmul.lookup (by decide +kernel)]
 rfl
theorem int_rmul_tuple (a:Int) (t:Tok) (l:Addr) (items:Array Value) (n:Nat) (dd:Option Addr) (sl:Array (Option Value)) :
 Meets (Builtin.«int.__rmul__» ⟨[.int a t,.ref l],[]⟩) (fun _ R s=>s.heap.get? l=some { cls := .type "tuple", dict:=dd,data := .seq items n,slots:=sl }/\R (.ok (.ret Value.notImplemented)) s) :=
 .of_wp fun prog w A R s h=>by obtain ⟨hp,g,d,tk,os⟩:=s;obtain ⟨hl,h⟩:=h;wp_walk;exact ⟨_,rfl,h⟩
theorem tuple_mul_same (l:Addr) (items:Array Value) (n:Nat) (dd:Option Addr) (sl:Array (Option Value)) (x:Int) (u:Tok) (hr:(decide (x < -2 ^ 63) || decide (x ≥ 2 ^ 63))=false) (h1:(items.isEmpty || x == 1)=true) :
 Meets (Builtin.«tuple.__mul__» ⟨[.ref l,.int x u],[]⟩) (fun _ R s=>s.heap.get? l=some { cls := .type "tuple", dict:=dd,data := .seq items n,slots:=sl }/\R (.ok (.ret (.ref l))) s) :=
 .of_wp fun prog w A R s h=>by obtain ⟨hp,g,d,tk,os⟩:=s;obtain ⟨hl,h⟩:=h;wp_walk;refine wpAny_ite_false (decide_eq_false (by rw [hr];exact Bool.false_ne_true)) ?_;wp_walk;exact ⟨_,rfl,h⟩
theorem tuple_mul_none (l:Addr) (items:Array Value) (n:Nat) (dd:Option Addr) (sl:Array (Option Value)) (x:Int) (u:Tok) (hr:(decide (x < -2 ^ 63) || decide (x ≥ 2 ^ 63))=false) (h1:¬ (items.isEmpty || x == 1)=true) (h2:(decide (x<=0) || items.isEmpty)=true) :
 Meets (Builtin.«tuple.__mul__» ⟨[.ref l,.int x u],[]⟩) (fun _ R s=>s.heap.get? l=some { cls := .type "tuple", dict:=dd,data := .seq items n,slots:=sl }/\R (.ok (.ret (.ref s.heap.objs.size))) { s with heap:=s.heap.push { cls:=Value.type "tuple", data:=Data.seq #[] },toks:=s.toks }) :=
 .of_wp fun prog w A R s h=>by obtain ⟨hp,g,d,tk,os⟩:=s;obtain ⟨hl,h⟩:=h;wp_walk;refine wpAny_ite_false (decide_eq_false (by rw [hr];exact Bool.false_ne_true)) ?_;wp_walk;exact ⟨_,rfl,h⟩
theorem tuple_mul_more (l:Addr) (items:Array Value) (n:Nat) (dd:Option Addr) (sl:Array (Option Value)) (x:Int) (u:Tok) (hr:(decide (x < -2 ^ 63) || decide (x ≥ 2 ^ 63))=false) (h1:¬ (items.isEmpty || x == 1)=true) (h2:¬ (decide (x<=0) || items.isEmpty)=true) (h3:¬ (items.size:Int) * x > (2 ^ 63 - 1) / 8) (h4:¬ Builtin.Tuple.tupleTooMany ((items.size:Int) * x)=true) (h5:(List.foldl (fun x1 x2=>x1++x2) #[] (List.replicate x.toNat items)).size<=sizeLine) :
 Meets (Builtin.«tuple.__mul__» ⟨[.ref l,.int x u],[]⟩) (fun _ R s=>s.heap.get? l=some { cls := .type "tuple", dict:=dd,data := .seq items n,slots:=sl }/\R (.ok (.ret (.ref s.heap.objs.size))) { s with heap:=s.heap.push { cls:=Value.type "tuple", data:=Data.seq (List.foldl (fun x1 x2=>x1++x2) #[] (List.replicate x.toNat items)) },toks:=s.toks }) :=
 .of_wp fun prog w A R s h=>by obtain ⟨hp,g,d,tk,os⟩:=s;obtain ⟨hl,h⟩:=h;wp_walk;refine wpAny_ite_false (decide_eq_false (by rw [hr];exact Bool.false_ne_true)) ?_;wp_walk;refine wpAny_ite_false (decide_eq_false h3) ?_;wp_walk;exact ⟨_,rfl,h⟩
section
variable {X : Cx}
def rRepT (K:PySem.W.Frag):R2:=fun x y H Q=>∃ a k xs,x = .ref a/\y = .int k/\SqT K H a xs/\-(2 ^ 63)<=k/\k<2 ^ 63/\xs.length * k.toNat<=sizeLine /\
 ((xs = []\/k=1)->Q (.ref a) H)/\(¬ (xs = []\/k=1)->∀ p,H p=none->Q (.ref p) (upd H p (.tup (List.replicate k.toNat xs).flatten)))
theorem op_repT:OpR X (binaryOp .Mult) (rRepT X.K):=by
 intro pins s σ H x y v u Q I rx ry h
 obtain ⟨a,k,xs,rfl,rfl,hS,h1,h2,hz,q1,q2⟩:=h
 cases rx
 obtain ⟨t,rfl⟩:=ry
 obtain ⟨its,r1,p1,_⟩:=I.tuple hS
 obtain ⟨⟨cls,dd,data,sl⟩,ho,hc,n,hd⟩:=id p1
 simp only at hc hd
 subst hc hd
 have hlen:=r1.length
 have hr:(decide (k < -2 ^ 63) || decide (k ≥ 2 ^ 63))=false:=by
  rw [decide_eq_false (by omega),decide_eq_false (by omega)];rfl
 have nil:its.toArray.isEmpty=true↔xs = []:=by
  rw [<- r1.nil_iff]
  simp
 have go:∀ {R:Value->Shared->Prop},wpAny (model X.prog X.w) X.A (call (.builtin "tuple.__mul__") [.ref a,.int k t]) R X.xe s->wpAny (model X.prog X.w) X.A (binaryOp .Mult (.ref a) (.int k t)) R X.xe s:=fun {R} hh =>
  wpAny_binaryOp_repeat_ref (T := "tuple") (U := "int") (by decide) ⟨_,ho,rfl⟩ (fun s'=>typeIs_int s' k t) noFill_tuple_mul F.fills_int_mul F.slot_int_rmul repeat_tuple F.slot_int_index.lookup
   (call_meets F.slot_int_rmul (typeIs_int s k t) F.entry_int_rmul (F.args_int_rmul_2 _ _) (int_rmul_tuple k t a its.toArray n dd sl) ⟨ho,rfl,⟨_,ho,rfl⟩,hh⟩)
 by_cases hc:xs = []\/k=1
 ·refine go (call_meets F.slot_tuple_mul ⟨_,ho,rfl⟩ F.entry_tuple_mul (F.args_tuple_mul_2 _ _) (tuple_mul_same a its.toArray n dd sl k t hr ?_) ⟨ho,⟨.ref a,H,I,rfl,q1 hc⟩⟩)
  rcases hc with e | e
  ·rw [nil.mpr e];rfl
  ·rw [e];simp
 ·have hx:xs ≠ []:=fun e=>hc (.inl e)
  have hk:k ≠ 1:=fun e=>hc (.inr e)
  have hne:its.toArray.isEmpty=false:=by
   cases e:its.toArray.isEmpty with
   | false=>rfl
   | true=>exact absurd (nil.mp e) hx
  have hb:¬ (its.toArray.isEmpty || k == 1)=true:=by rw [hne];simp [hk]
  by_cases h0:k<=0
  ·refine go (call_meets F.slot_tuple_mul ⟨_,ho,rfl⟩ F.entry_tuple_mul (F.args_tuple_mul_2 _ _) (tuple_mul_none a its.toArray n dd sl k t hr hb (by rw [decide_eq_true h0];rfl)) ⟨ho,?_⟩)
   have e0:k.toNat=0:=by omega
   have q:=q2 hc s.heap.objs.size (I.hok.fresh (Nat.le_refl _))
   rw [e0] at q
   exact ⟨.ref s.heap.objs.size,_,I.laid (t':=s.toks) (o := .tup []) (fun b ob q=>Heap.get?_push_of_some _ q) (Nat.le_refl _) ⟨Nat.zero_le _,_,.nil,IsTup.new _ _⟩,rfl,q⟩
  ·have hsz:(its.toArray.size:Int) * k=((xs.length * k.toNat:Nat):Int):=by
    rw [List.size_toArray,<- hlen]
    rw [Int.natCast_mul]
    congr 1
    omega
   have hnew:List.foldl (fun x1 x2=>x1++x2) #[] (List.replicate k.toNat its.toArray)=(List.replicate k.toNat its).flatten.toArray:=by
    have:=foldl_rep its k.toNat []
    rw [List.nil_append] at this
    exact this
   have sz:=sizeLine_eq
   refine go (call_meets F.slot_tuple_mul ⟨_,ho,rfl⟩ F.entry_tuple_mul (F.args_tuple_mul_2 _ _) (tuple_mul_more a its.toArray n dd sl k t hr hb (by rw [hne,decide_eq_false h0];exact Bool.false_ne_true) (by rw [hsz];omega) (by rw [hsz];unfold Builtin.Tuple.tupleTooMany;rw [decide_eq_false (by omega)];exact Bool.false_ne_true) (by rw [hnew,List.size_toArray,len_rep,<- hlen,Nat.mul_comm];exact hz)) ⟨ho,?_⟩)
   rw [hnew]
   exact ⟨.ref s.heap.objs.size,_,I.laid (t':=s.toks) (o := .tup (List.replicate k.toNat xs).flatten) (fun b ob q=>Heap.get?_push_of_some _ q) (Nat.le_refl _) ⟨by rw [len_rep,Nat.mul_comm];exact hz,_,r1.rep k.toNat,IsTup.new _ _⟩,rfl,q2 hc _ (I.hok.fresh (Nat.le_refl _))⟩
def rRepS:R2:=fun x y H Q=>∃ i k,x = .str i/\y = .int k/\-(2 ^ 63)<=k/\k<2 ^ 63/\i.length * k.toNat<=sizeLine/\Q (.str (tx (List.replicate k.toNat i.cps.toList).flatten)) H
theorem foldl_repN (w:List Nat):∀ (k:Nat) (acc:List Nat),List.foldl (fun x1 x2=>x1++x2) acc.toArray (List.replicate k w.toArray)=(acc++(List.replicate k w).flatten).toArray
 | 0,acc=>by simp
 | k+1,acc=>by
   rw [List.replicate_succ,List.foldl_cons,List.append_toArray,foldl_repN w k (acc++w),List.replicate_succ,List.flatten_cons,List.append_assoc]
theorem op_repS:OpR X (binaryOp .Mult) rRepS:=by
 intro pins s σ H x y v u Q I rx ry h
 obtain ⟨i,k,rfl,rfl,h1,h2,hz,q⟩:=h
 obtain ⟨t,rfl⟩:=rx
 obtain ⟨t2,rfl⟩:=ry
 have sz:=sizeLine_eq
 have hr:(decide (k < -(2 ^ 63:Int)) || decide (k ≥ 2 ^ 63))=false:=by
  rw [decide_eq_false (by omega),decide_eq_false (by omega)];rfl
 have hlen:i.length=i.cps.toList.length:=by simp [Str.length]
 have hnew:(⟨(List.replicate k.toNat i.cps).foldl (· ++ ·) #[]⟩:Str)=tx (List.replicate k.toNat i.cps.toList).flatten:=by
  have:=foldl_repN i.cps.toList k.toNat []
  rw [List.nil_append] at this
  show Str.mk _=Str.mk _
  rw [<- this]
 refine PySem.P.mul_str hr (fun n1 nn=>?_) (fun n1 nn=>?_) ?_
 ·have hk:0<k.toNat:=by omega
  have h3:i.length<=sizeLine:=Nat.le_trans (Nat.le_mul_of_pos_right _ hk) hz
  intro hh
  have h4:(i.length:Int) * k<=16777216:=by
   have:((i.length * k.toNat:Nat):Int)<=16777216:=by omega
   rwa [Int.natCast_mul,show ((k.toNat:Nat):Int)=k by omega] at this
  have h5:=Int.lt_of_lt_of_le (Int.lt_mul_of_ediv_lt (by omega:(0:Int)<k) hh) h4
  omega
 ·unfold Builtin.Str.tooLong
  exact decide_eq_false (by omega)
 ·by_cases c1:k<1
  ·rw [if_pos c1]
   have e0:k.toNat=0:=by omega
   rw [e0] at q
   exact ⟨by decide,.str _,H,I.tok _,⟨_,rfl⟩,q⟩
  ·rw [if_neg c1]
   by_cases c2:(k == 1 || i.length == 0)=true
   ·rw [if_pos c2]
    have e1:tx (List.replicate k.toNat i.cps.toList).flatten=i:=by
     rcases (Bool.or_eq_true _ _).mp c2 with e | e
     ·have:k=1:=by simpa using e
      subst this
      show tx ([i.cps.toList]:List (List Nat)).flatten=i
      simp [tx]
     ·have e:i.length=0:=by simpa using e
      have e2:i.cps.toList = []:=List.eq_nil_of_length_eq_zero (by omega)
      rw [e2]
      have:(List.replicate k.toNat ([]:List Nat)).flatten = []:=by simp
      rw [this]
      have e3:i.cps = #[]:=Array.toList_inj.mp e2
      cases i
      simp_all [tx]
    rw [e1] at q
    exact ⟨.str i,H,I,⟨_,rfl⟩,q⟩
   ·rw [if_neg c2]
    refine ⟨?_,.str _,H,I.tok _,⟨_,rfl⟩,?_⟩
    ·show Str.length _<=sizeLine
     rw [hnew,tx_len,len_rep,Nat.mul_comm,<- hlen]
     exact hz
    ·show Q (.str _) H
     rw [hnew]
     exact q
end
def rMulU (K:PySem.W.Frag):R2:=fun x y H Q=>rI CMul (fun i j => .int (i * j)) x y H Q\/rRepS x y H Q\/rRep x y H Q\/rRepT K x y H Q
theorem op_mulU {X:Cx}:OpR X (binaryOp .Mult) (rMulU X.K):=op_mul.or (op_repS.or (op_rep.or op_repT))
def mulD:PyData->PyData->(R->Prop)->Prop:=fun d e Q=>∃ k:Int,e = .int k/\-(2 ^ 63)<=k/\k<2 ^ 63/\match d with
 | .int i=>CMul i k/\Q (.o (.int (i * k)))
 | .str x=>x.length * k.toNat<=sizeLine/\Q (.o (.str (tx (List.replicate k.toNat x.cps.toList).flatten)))
 | .list ds=>ds.length * k.toNat<=sizeLine/\Q (.n (List.replicate k.toNat ds).flatten)
 | .tuple ds=>ds.length * k.toNat<=sizeLine/\Q (.o (.tuple (List.replicate k.toNat ds).flatten))
 | _=>False
section
variable {K : PySem.W.Frag} {O : Ob} {F : Addr → Prop} {H : Hp}
theorem isAll_rep {xs:List V} {ds:List PyData} (h:IsAll K F H xs ds):∀ k:Nat,IsAll K F H (List.replicate k xs).flatten (List.replicate k ds).flatten
 | 0 => .nil
 | k+1=>by
   rw [List.replicate_succ,List.replicate_succ,List.flatten_cons,List.flatten_cons]
   exact h.append (isAll_rep h k)
theorem opd_mulU:OpD K O (rMulU K) mulD:=fun H x y d e Q Qd ok p ix iy ⟨k,he,h1,h2,q⟩ kk=>by
 subst he
 cases iy
 cases ix with
 | int i=>exact .inl ⟨_,_,rfl,rfl,q.1,kk _ H (.o _) (.refl _ _) (Is.int _) q.2⟩
 | str x=>exact .inr (.inl ⟨_,_,rfl,rfl,h1,h2,q.1,kk _ H (.o _) (.refl _ _) (Is.str _) q.2⟩)
 | list f1 h3 s1 =>
   refine .inr (.inr (.inl ⟨_,_,_,rfl,rfl,h3,h1,h2,by rw [s1.length];exact q.1,fun p' hp=>?_⟩))
   obtain ⟨a1,a2⟩:=out_list ok hp (isAll_rep s1 k.toNat)
   exact kk _ _ _ a1 a2 q.2
 | tuple h3 s1 =>
   refine .inr (.inr (.inr ⟨_,_,_,rfl,rfl,h3,h1,h2,by rw [s1.length];exact q.1,fun hc=>?_,fun hc p' hp=>?_⟩))
   ·rcases hc with e | e
    ·subst e
     cases s1
     have e2:(List.replicate k.toNat ([]:List PyData)).flatten = []:=by simp
     have q2:=q.2
     rw [e2] at q2
     exact kk _ H (.o _) (.refl _ _) (Is.tuple h3 .nil) q2
    ·subst e
     have q2:=q.2
     have e2:∀ ds:List PyData,(List.replicate (1:Int).toNat ds).flatten=ds:=fun ds=>by simp
     rw [e2] at q2
     exact kk _ H (.o _) (.refl _ _) (Is.tuple h3 s1) q2
   ·obtain ⟨a1,a2⟩:=out_tup ok hp (isAll_rep s1 k.toNat)
    exact kk _ _ _ a1 a2 q.2
 | _=>exact q.elim
end
theorem e_mulU {ι κ:Type} {P:Program} {w:World} {K:PySem.W.Frag} {mg:Str->Option Value} {base:Heap} {k:Nat} {X:ι->Cx} {O:κ->Ob} {a b:Expr} {fa fb:DE} {pos:Pos} (C:Ctx3 P w K mg base k X) (ha:E3 K X O a fa) (hb:E3 K X O b fb):E3 K X O (.BinOp a .Mult b pos) (opDE mulD fa fb):=e_op (fun i=>by have h:=op_mulU (X:=X i);rw [C.hK] at h;exact h) (fun _=>opd_mulU) ha hb
theorem comp_ofG {α:Type} {enc:α->PyData} {g:DG} {fe:DE} {ρ:DSt} {Q:List PyData->Prop} {as:List α} {e:α->PyData} {h:Nat} (step:∀ a ∈ as,∀ P:R->Prop,(∀ r,r.d=e a->P r)->g (enc a) (List.replicate h none++ρ) fun ρ2=>if true=true then fe ρ2 P else False) (mg:∀ d ρ (P P':DSt->Prop),(∀ ρ,P ρ->P' ρ)->g d ρ P->g d ρ P') (hz:as.length<=sizeLine) (q:Q (as.map e)) :
 compGo h g yesD fe ρ Q (as.map enc) []:=by
 have key:∀ (l:List α) (acc:List PyData),(∀ a ∈ l,a ∈ as)->acc.length+l.length<=sizeLine->Q (acc++l.map e)->compGo h g yesD fe ρ Q (l.map enc) acc:=by
  intro l
  induction l with
  | nil=>intro acc _ _ q;show Q acc;simpa using q
  | cons a l ih =>
    intro acc hs hz q
    rw [List.length_cons] at hz
    refine mg _ _ _ _ (fun ρ2 z=>?_) (step a (hs a List.mem_cons_self) (fun r=>acc.length<sizeLine/\compGo h g yesD fe ρ Q (l.map enc) (acc ++ [r.d])) fun r hr=>⟨by omega,?_⟩)
    ·rw [if_pos rfl] at z
     exact iteT (B:=compGo h g yesD fe ρ Q (l.map enc) acc) z
    ·rw [hr]
     exact ih (acc ++ [e a]) (fun x hx=>hs x (List.mem_cons_of_mem _ hx)) (by rw [List.length_append];simp;omega) (by simpa using q)
 exact key as [] (fun _ h=>h) (by simpa using hz) (by simpa using q)
theorem gT_mono {is:List Nat}:∀ d ρ (P P':DSt->Prop),(∀ ρ,P ρ->P' ρ)->gT is d ρ P->gT is d ρ P':=by
 have key:∀ (is:List Nat) (ds:List PyData) ρ (P P':DSt->Prop),(∀ ρ,P ρ->P' ρ)->gTD is ds ρ P->gTD is ds ρ P':=by
  intro is
  induction is with
  | nil=>intro ds ρ P P' h z;cases ds with
    | nil=>exact h _ z
    | cons _ _=>exact z.elim
  | cons i is ih=>intro ds ρ P P' h z;cases ds with
    | nil=>exact z.elim
    | cons d ds=>exact ih ds _ P P' h z
 exact fun d ρ P P' h ⟨ds,e,z⟩=>⟨ds,e,key _ _ _ _ _ h z⟩
theorem join_foldT:∀ (l:List (List Nat)) (acc:Array Nat),(l.map tx).foldl (fun acc p=>acc++(Str.ofString "").cps++p.cps) acc=acc++l.flatten.toArray
 | [],acc=>by simp
 | c::r,acc=>by
   rw [List.map_cons,List.foldl_cons,join_foldT r]
   have e:(Str.ofString "").cps = #[]:=by decide +kernel
   rw [e]
   apply Array.toList_inj.mp
   simp [tx]
theorem join_tx (w:List (List Nat)):Txt.join "" (w.map tx)=tx w.flatten:=by
 cases w with
 | nil=>decide +kernel
 | cons c r =>
   show Builtin.Str.glued (Str.ofString "") (tx c::r.map tx)=tx (c::r).flatten
   unfold Builtin.Str.glued
   show (⟨(r.map tx).foldl _ (tx c).cps⟩:Str)=_
   rw [join_foldT]
   unfold tx
   congr 1
   apply Array.toList_inj.mp
   simp
theorem sum_tx (w:List (List Nat)):((w.map tx).map (·.length)).sum=w.flatten.length:=by
 induction w with
 | nil=>rfl
 | cons c r ih=>rw [List.map_cons,List.map_cons,List.sum_cons,ih,tx_len,List.flatten_cons,List.length_append]
theorem join_yt (ws:List (List Nat)) (hl:ws.flatten.length<=16777216):∃ ys:List Str,PyData.list (ws.map fun v => .str (tx v)) = .list (ys.map .str)/\(ys.map (·.length)).sum+ys.length * (Str.ofString "").length<=16777216/\Txt.join "" ys=tx ws.flatten:=by
 refine ⟨ws.map tx,by rw [List.map_map];rfl,?_,join_tx ws⟩
 have e0:(Str.ofString "").length=0:=by decide +kernel
 rw [sum_tx,e0]
 omega
end L3
namespace L3
open PySem PySem.Spec
open PyProof.Rows hiding St
open L2
def truB:PyData->Option Bool
 | .none=>some false
 | .bool b=>some b
 | .int i=>some (i != 0)
 | .str x=>if x.length<=sizeLine then some ((x.length:Int) != 0) else none
 | .list ds=>some (!ds.isEmpty)
 | .tuple ds=>some (!ds.isEmpty)
 | _=>none
def truD (f:DE):DT:=fun ρ Q=>f ρ fun r=>∃ b,truB r.d=some b/\Q b
section
variable {K : PySem.W.Frag} {O : Ob}
theorem isAll_empty {F:Addr->Prop} {H:Hp} {xs:List V} {ds:List PyData} (h:IsAll K F H xs ds):xs.isEmpty=ds.isEmpty:=by
 cases h <;> rfl
theorem td_tru {t:TE} {f:DE} (h:ED K O t f):TD K O (fun σ H Q=>t σ H fun x H'=>∃ k,TruV K x H' k/\Q k H') (truD f):=fun σ H ρ Q Qd S hf k=>by
 refine h σ H ρ _ _ S hf fun v H1 r s1 o1 ⟨b,e,q⟩=>?_
 have iv:=o1.is S.ok S.p
 refine ⟨b,?_,k b H1 s1 q⟩
 generalize r.d=d at iv e
 cases iv with
 | none=>cases e;rfl
 | bool b=>cases e;rfl
 | int i=>cases e;rfl
 | str x =>
   have e:(if x.length<=sizeLine then some ((x.length:Int) != 0) else none)=some b:=e
   by_cases hl:x.length<=sizeLine
   ·rw [if_pos hl] at e
    cases e
    exact ⟨hl,rfl⟩
   ·rw [if_neg hl] at e
    cases e
 | list f1 h1 s1=>cases e;exact .inl ⟨_,.of h1,by rw [isAll_empty s1]⟩
 | tuple h1 s1=>cases e;exact .inr (.inl ⟨_,h1,by rw [isAll_empty s1]⟩)
end
section
variable {ι κ : Type} {P : Program} {w : World} {K : PySem.W.Frag} {mg : Str → Option Value} {base : Heap} {k : Nat} {X : ι → Cx} {O : κ → Ob} {a b : Expr} {fa : DE} {pos p : Pos} {ga : DA}
theorem t_tru (C:Ctx3 P w K mg base k X) (ha:E3 K X O a fa) (he:∀ i whole,isTrue a (X i).env whole=(do let v <- whole;standAt a.pos;holding [v] (truthy v)):=by intro _ _;rfl):T3 K X O a (truD fa):=let ⟨_,q,d⟩:=ha;
 ⟨_,fun i=>by have h:=pt_truth (X:=X i) (q i) (he i);rw [C.hK] at h;exact h,fun j=>td_tru (d j)⟩
end
section
variable {K : PySem.W.Frag} {O : Ob}
def extS (i:Nat) (f:DE):DS:=fun Dd ρ=>∃ ds,ρ[i]? = some (some (.own ds))/\f ρ fun r=>∃ es,r.d = .list es/\flats es=true/\ds.length+es.length<=sizeLine/\Dd.nx (ρ.set i (some (.own (ds++es))))
theorem sd_extend {i:Nat} {t:TE} {f:DE} (h:ED K O t f):SD K O (tDrop (tBM K "list" rExtend (tVar i) (tCons t tNil))) (extS i f):=fun H₀ A σ H ρ D Dd r q P=>by
 obtain ⟨ds,e,q⟩:=q
 obtain ⟨v,hv,a,xs,rfl,ha,hl,hs⟩:=r.at_ i _ e
 refine ⟨_,hv,?_⟩
 refine ⟨.inl ⟨rfl,xs,.of hl⟩,?_⟩
 refine h σ H ρ _ _ r.seen q fun w H1 x s1 o1 ⟨es,ed,fl,hz,q1⟩=>?_
 have r1:=r.stp s1
 obtain ⟨v1,hv1,a1,xs1,e1,ha1,hl1,hs1⟩:=r1.at_ i _ e
 rw [hv] at hv1
 cases hv1
 cases e1
 have iw:=o1.is r.ok r.p
 rw [ed] at iw
 cases iw with
 | list f1 h1 s2 =>
   refine ⟨a,_,xs1,_,rfl,rfl,hl1,h1,by rw [hs1.length,s2.length];exact hz,?_⟩
   exact P.nx A σ _ _ (r1.change e hv ha (hs1.append (IsAll.flats (TupStay.refl H1) s2 fl))) ((Frm.stp s1).trans (.change ha)) q1
end
section
variable {ι κ : Type} {P : Program} {w : World} {K : PySem.W.Frag} {mg : Str → Option Value} {base : Heap} {k : Nat} {X : ι → Cx} {O : κ → Ob} {a b : Expr} {fa fb : DE} {pos p : Pos} {ga : DA}
theorem mtr_extend {X:Cx}:MtR X "list.extend" rExtend:=fun pins s σ H x xs v us Q I rx rv h=>mt_extend pins s σ H x xs v us Q I rx rv h
theorem s_ext (n:Nat) {x:Str} {px apos cpos:Pos} (C:Ctx3 P w K mg base k X) (hb:E3 K X O b fb) (hN:∀ i,(X i).N[n]? = some x:=by intro i;rfl) (hv:∀ i,Vis (X i).env.scope x:=by intro i;first | exact Or.inl rfl | exact Or.inr (Or.inl rfl) | exact Or.inr (Or.inr rfl)) (hd:(x == ("__debug__" : Str))=false:=by decide) (hcd:(x == ("__classdict__" : Str))=false:=by decide)
 (hbase:∀ i,attributeBase (.Name x px) "extend" (X i).env (eval (.Name x px) (X i).env)=eval (.Name x px) (X i).env:=by intro i;rfl)
 (hfew:∀ i,((backTo cpos (starEach [b] (X i).env)).all (fun x=>!x.1) && (backToKw cpos (keywordEach [] (X i).env)).all (fun x=>x.1.isSome) && decide (([b]:List Expr).length+([]:List Keyword).length+(if ([]:List Keyword).isEmpty then 0 else 1)<30))=true:=by intro i;rfl)
 (hline:(apos.endLine == cpos.line)=true:=by rfl) (hs:∀ i,starEach [b] (X i).env = [(false,eval b (X i).env)]:=by intro i;rfl) (hsw:∀ i,swapsWith (.Call (.Attribute (.Name x px) "extend" apos) [b] [] cpos) none pos.line (X i).env=pure false:=by intro i;rfl) :
 S3 K X O (.Expr (.Call (.Attribute (.Name x px) "extend" apos) [b] [] cpos) pos) (extS n fb):=let ⟨_,p2,d2⟩:=hb;
 ⟨tDrop (tBM K "list" rExtend (tVar n) (tCons _ tNil)),fun i=>by
  have h:=pe_bm (apos:=apos) (cpos:=cpos) PySem.F.plainAttrs_list PySem.F.slot_list_extend PySem.F.type_list_extend (mtr_extend (X:=X i)) (pe_var (pos:=px) (hN i) (hv i) hd hcd) (pa_cons (p2 i) pa_nil (hs i)) (hbase i) (hfew i) hline (hs i)
  rw [C.hK] at h
  exact ps_expr h (hsw i),fun j=>sd_extend (d2 j)⟩
end
end L3
namespace L3
open PySem PySem.Spec
open PyProof.Rows hiding St
open L2
section
variable {K : PySem.W.Frag} {O : Ob} {X : Cx}
theorem isAll_texts {F:Addr->Prop} {H:Hp}:∀ ws:List Str,IsAll K F H (ws.map V.str) (ws.map PyData.str)
 | [] => .nil
 | w::ws => .cons (.str w) (isAll_texts ws)
def chD (F F':PyData->PyData->(R->Prop)->Prop) (fa fb fc:DE):DE:=fun ρ Q=>fa ρ fun a=>fb ρ fun b=>F a.d b.d fun z=>∃ k,z.d = .bool k/\(if k=true then fc ρ fun c=>F' b.d c.d Q else Q (.o (.bool false)))
theorem ed_chain {r r':R2} {ta tb tc:TE} {F F':PyData->PyData->(R->Prop)->Prop} {fa fb fc:DE} (hr:OpD K O r F) (hr':OpD K O r' F') (ha:ED K O ta fa) (hb:ED K O tb fb) (hc:ED K O tc fc):ED K O (tChain r r' ta tb tc) (chD F F' fa fb fc):=fun σ H ρ Q Qd S h k=>by
 refine ha σ H ρ _ _ S h fun v H1 a s1 o1 h1=>?_
 refine hb σ H1 ρ _ _ (S.stp s1) h1 fun w H2 b s2 o2 h2=>?_
 have p1:=s1.p S.p
 have p2:=s2.p p1
 have ib:=o2.is S.ok p1
 refine hr H2 v w a.d b.d _ _ S.ok p2 (Is.stp s2 (fun _ f=>f) (fun _ f=>f) (o1.is S.ok S.p)) ib h2 fun z H3 c s3 o3 ⟨kk,e,h3⟩=>?_
 have iz:=o3.is S.ok p2
 rw [e] at iz
 cases iz
 refine ⟨kk,rfl,?_⟩
 cases kk with
 | true =>
   refine hc σ H3 ρ _ _ (((S.stp s1).stp s2).stp s3) h3 fun x H4 d s4 o4 h4=>?_
   have p3:=s3.p p2
   refine hr' H4 w x b.d d.d _ _ S.ok (s4.p p3) (Is.stp s4 (fun _ f=>f) (fun _ f=>f) (Is.stp s3 (fun _ f=>f) (fun _ f=>f) ib)) (o4.is S.ok p3) h4 fun z H5 r5 s5 o5 h5=>?_
   exact k z H5 r5 ((((s1.trans s2).trans s3).trans s4).trans s5) (Out.ahead S.ok S.p (((s1.trans s2).trans s3).trans s4) o5) h5
 | false=>exact k _ H3 (.o (.bool false)) ((s1.trans s2).trans s3) (Is.bool false) h3
def rLeS:R2:=fun x y H Q=>∃ i j:Str,x = .str i/\y = .str j/\Q (.bl (!decide (j.cps.toList<i.cps.toList))) H
theorem op_le_str:OpR X (compareOp .LtE) rLeS:=by
 intro pins s σ H x y v u Q I rx ry h
 obtain ⟨i,j,rfl,rfl,q⟩:=h
 obtain ⟨t,rfl⟩:=rx
 obtain ⟨t',rfl⟩:=ry
 exact PySem.P.le_str ⟨.bl _,H,I,rfl,q⟩
def leSF:PyData->PyData->Option R:=fun d e=>match d,e with
 | .str i,.str j=>some (.o (.bool (!decide (j.cps.toList<i.cps.toList))))
 | _,_=>none
theorem opd_leS:OpD K O rLeS (fn2 leSF):=fun H x y d e Q Qd ok p ix iy ⟨r,hr,q⟩ k=>by
 unfold leSF at hr
 split at hr
 ·cases hr
  cases ix
  cases iy
  exact ⟨_,_,rfl,rfl,k _ H (.o _) (.refl _ _) (Is.bool _) q⟩
 ·cases hr
def rStr:List V->Hp->VK->Prop:=fun xs H Q=>(∃ i:Int,xs = [.int i]/\i.natAbs.log2<1920/\Q (.str (toString i)) H)\/∃ x:Str,xs = [.str x]/\Q (.str x) H
theorem call_strU:CallR X (.type "str") rStr:=by
 intro pins s σ H xs us Q I r h
 rcases h with h | ⟨x,rfl,q⟩
 ·exact call_str_int pins s σ H xs us Q I r h
 ·obtain ⟨u,rfl,t,rfl⟩:=vals1 r
  exact PySem.P.str_of_str ⟨.str x,H,I,⟨t,rfl⟩,q⟩
def strF:List PyData->Option R
 | [.int i]=>if i.natAbs.log2<1920 then some (.o (.str (toString i))) else none
 | [.str x]=>some (.o (.str x))
 | _=>none
theorem cd_str:CallD K O rStr (fn1 strF):=fun H vs ds Q Qd ok p is ⟨r,hr,q⟩ k=>by
 unfold strF at hr
 split at hr
 ·obtain ⟨v,rfl,iv⟩:=isAll_one is
  split at hr
  ·cases hr
   cases iv
   exact .inl ⟨_,rfl,by assumption,k _ H (.o _) (.refl _ _) (Is.str _) q⟩
  ·cases hr
 ·obtain ⟨v,rfl,iv⟩:=isAll_one is
  cases hr
  cases iv
  exact .inr ⟨_,rfl,k _ H (.o _) (.refl _ _) (Is.str _) q⟩
 ·cases hr
theorem bt_str:bootBuiltins "str" = some (.type "str"):=by decide +kernel
def rIntU:List V->Hp->VK->Prop:=fun xs H Q=>((∃ i,xs = [.int i]/\Q (.int i) H)\/∃ k,xs = [.bl k]/\Q (.int (if k then 1 else 0)) H)\/∃ x n,xs = [.str x]/\PySem.intText? x=some n/\x.length<=640/\Q (.int n) H
theorem call_intU:CallR X (.type "int") rIntU:=by
 intro pins s σ H xs us Q I r h
 rcases h with h | ⟨x,n,rfl,hn,hl,q⟩
 ·exact call_int1 pins s σ H xs us Q I r h
 ·obtain ⟨u,rfl,t,rfl⟩:=vals1 r
  exact PySem.W.KIN.call_text hn hl ⟨.int n,H,I.tok _,⟨_,rfl⟩,q⟩
def intUF:List PyData->Option R
 | [.int i]=>some (.o (.int i))
 | [.bool b]=>some (.o (.int (if b then 1 else 0)))
 | [.str x]=>if x.length<=640 then (PySem.intText? x).map fun n => .o (.int n) else none
 | _=>none
theorem cd_intU:CallD K O rIntU (fn1 intUF):=fun H vs ds Q Qd ok p is ⟨r,hr,q⟩ k=>by
 unfold intUF at hr
 split at hr
 ·obtain ⟨v,rfl,iv⟩:=isAll_one is
  cases hr
  cases iv
  exact .inl (.inl ⟨_,rfl,k _ H (.o _) (.refl _ _) (Is.int _) q⟩)
 ·obtain ⟨v,rfl,iv⟩:=isAll_one is
  cases hr
  cases iv
  exact .inl (.inr ⟨_,rfl,k _ H (.o _) (.refl _ _) (Is.int _) q⟩)
 ·obtain ⟨v,rfl,iv⟩:=isAll_one is
  split at hr
  ·obtain ⟨n,hn,rfl⟩:=Option.map_eq_some_iff.mp hr
   cases iv
   exact .inr ⟨_,n,rfl,hn,by assumption,k _ H (.o _) (.refl _ _) (Is.int _) q⟩
  ·cases hr
 ·cases hr
def rSplit:V->List V->Hp->VK->Prop:=fun x vs H Q=>∃ t y:Str,x = .str t/\vs = [.str y]/\(y.length == 0)=false/\t.length+2<=sizeLine/\∀ l,H l=none->Q (.ref l) (upd H l (.lst ((Txt.split t y).map V.str)))
theorem vals_strs:∀ (tk:Nat) (xs:List Str),Vals (xs.map V.str) (strsFrom tk xs)
 | _,[] => .nil
 | tk,x::r => .cons ⟨tk,rfl⟩ (vals_strs (tk+1) r)
theorem mt_split:MtM X "str.split" rSplit:=by
 intro pins s σ H x vs v us Q I rx rv h
 obtain ⟨t,y,rfl,rfl,hy,hz,q⟩:=h
 obtain ⟨tk,rfl⟩:=rx
 obtain ⟨u,rfl,ru⟩:=rv.one
 obtain ⟨tk',rfl⟩:=ru
 have hz2:=split_le t y
 have hf0:H s.heap.objs.size=none:=I.hok.fresh (Nat.le_refl _)
 have itself:Txt.split t y = [t]->EP X pins σ Q (.ref s.heap.objs.size) { s with heap:=s.heap.push { cls := .type "list", data := .seq [Value.str t tk].toArray } }:=fun e=>by
  have q:=q _ hf0
  rw [e] at q
  exact ⟨.ref s.heap.objs.size,_,I.laid (t':=s.toks) (fun b u e=>Heap.get?_push_of_some _ e) (Nat.le_refl _) (show ObjOk X.prog X.w _ _ _ (.lst [.str t]) from ⟨by show 1<=sizeLine;omega,[Value.str t tk],_,.cons ⟨tk,rfl⟩ .nil,Heap.get?_push_size _ rfl⟩),rfl,q⟩
 cases h1:(decide (t.length<y.length) || decide (Builtin.Str.strKind t<Builtin.Str.strKind y)) with
 | true=>exact call_meets F.slot_str_split (typeIs_str _ _ _) F.entry_str_split (F.args_str_split_2 _ _) (meets_str_split_cannot_occur t y tk tk' h1) (itself (if_pos h1))
 | false =>
   cases hf:(Builtin.Str.occurrences t y 0 t.length (t.length+1)).isEmpty with
   | true=>exact call_meets F.slot_str_split (typeIs_str _ _ _) F.entry_str_split (F.args_str_split_2 _ _) (meets_str_split_not_found t y tk tk' h1 hy hf) (itself ((if_neg (by rw [h1];exact Bool.false_ne_true)).trans (if_pos hf)))
   | false =>
     have e:Txt.split t y=Builtin.Str.partsBetween t (Builtin.Str.occurrences t y 0 t.length (t.length+1)) y.length:=(if_neg (by rw [h1];exact Bool.false_ne_true)).trans (if_neg (by rw [hf];exact Bool.false_ne_true))
     rw [e] at q hz2
     refine call_meets F.slot_str_split (typeIs_str _ _ _) F.entry_str_split (F.args_str_split_2 _ _) (meets_str_split_sep t y tk tk' h1 hy hf (by omega) (by omega)) ?_
     exact ⟨.ref s.heap.objs.size,_,I.laid (fun b u e=>Heap.get?_push_of_some _ e) (Nat.le_refl _) (show ObjOk X.prog X.w _ _ _ (.lst ((Builtin.Str.partsBetween t (Builtin.Str.occurrences t y 0 t.length (t.length+1)) y.length).map V.str)) from ⟨by rw [List.length_map];omega,_,_,vals_strs s.toks _,Heap.get?_push_size _ rfl⟩),rfl,q _ hf0⟩
theorem mtr_split:MtR X "str.split" rSplit:=fun pins s σ H x xs v us Q I rx rv h=>mt_split pins s σ H x xs v us Q I rx rv h
def splitD (fo fa:DE):DE:=fun ρ Q=>fo ρ fun r0=>∃ t,r0.d = .str t/\fa ρ fun r=>∃ y,r.d = .str y/\(y.length == 0)=false/\t.length+2<=sizeLine/\Q (.n ((Txt.split t y).map .str))
theorem ed_split {to ta:TE} {fo fa:DE} (ho:ED K O to fo) (ha:ED K O ta fa):ED K O (tBM K "str" rSplit to (tCons ta tNil)) (splitD fo fa):=fun σ H ρ Q Qd S hf k=>by
 refine ho σ H ρ _ _ S hf fun v H1 r0 s1 o1 ⟨t,e0,q1⟩=>?_
 have i0:=o1.is S.ok S.p
 rw [e0] at i0
 cases i0
 refine ⟨rfl,?_⟩
 refine ha σ H1 ρ _ _ (S.stp s1) q1 fun w H2 r s2 o2 ⟨y,e,hy,hz,q⟩=>?_
 have i1:=o2.is S.ok (s1.p S.p)
 rw [e] at i1
 cases i1
 have p2:=s2.p (s1.p S.p)
 refine ⟨t,y,rfl,rfl,hy,hz,fun l hl=>?_⟩
 have free:H l=none:=((s1.trans s2).s).free (fun m=>by
  obtain ⟨o,z⟩:=S.ok.here H2 l p2 m
  rw [hl] at z
  cases z) hl
 refine k _ _ (.n _) ((s1.trans s2).trans (.new S.ok hl _)) ⟨l,_,rfl,free,upd_same,?_⟩ q
 exact isAll_texts _
end
section
variable {ι κ : Type} {P : Program} {w : World} {K : PySem.W.Frag} {mg : Str → Option Value} {base : Heap} {k : Nat} {X : ι → Cx} {O : κ → Ob} {a b c : Expr} {fa fb fc : DE} {pos p : Pos} {st : Stmt} {es : List Expr} {ga : DA}
theorem e_chain {op op':CmpOp} {r r':R2} {F F':PyData->PyData->(R->Prop)->Prop} (ho:∀ i,OpR (X i) (compareOp op) r) (ho':∀ i,OpR (X i) (compareOp op') r') (hd:∀ j,OpD K (O j) r F) (hd':∀ j,OpD K (O j) r' F') (ha:E3 K X O a fa) (hb:E3 K X O b fb) (hc:E3 K X O c fc)
 (hm:lastMarks [op,op'] [b,c]=false:=by with_unfolding_all rfl):E3 K X O (.Compare a [op,op'] [b,c] pos) (chD F F' fa fb fc) :=
 let ⟨_,p1,d1⟩:=ha;let ⟨_,p2,d2⟩:=hb;let ⟨_,p3,d3⟩:=hc; ⟨_,fun i=>pe_chain (ho i) (ho' i) (p1 i) (p2 i) (p3 i) hm,fun j=>ed_chain (hd j) (hd' j) (d1 j) (d2 j) (d3 j)⟩
theorem e_chS (ha:E3 K X O a fa) (hb:E3 K X O b fb) (hc:E3 K X O c fc) (hm:lastMarks [.LtE,.LtE] [b,c]=false:=by with_unfolding_all rfl):E3 K X O (.Compare a [.LtE,.LtE] [b,c] pos) (chD (fn2 leSF) (fn2 leSF) fa fb fc) :=
 e_chain (fun i=>op_le_str) (fun i=>op_le_str) (fun _=>opd_leS) (fun _=>opd_leS) ha hb hc hm
theorem e_chI (ha:E3 K X O a fa) (hb:E3 K X O b fb) (hc:E3 K X O c fc) (hm:lastMarks [.LtE,.LtE] [b,c]=false:=by with_unfolding_all rfl):E3 K X O (.Compare a [.LtE,.LtE] [b,c] pos) (chD (fn2 (intF fun i j => .bool (decide (i<=j)))) (fn2 (intF fun i j => .bool (decide (i<=j)))) fa fb fc) :=
 e_chain (fun i=>op_le) (fun i=>op_le) (fun _=>opd_le) (fun _=>opd_le) ha hb hc hm
theorem e_strc (C:Ctx3 P w K mg base k X) (B:Blt mg) (ha:A3 K X O [a] ga) (hg:∀ i,Gl (X i) "str" := by intro i;rfl) (he:∀ i,starEach [a] (X i).env=(false,eval a (X i).env)::starEach [] (X i).env:=by intro i;rfl):E3 K X O (.Call (.Name "str" p) [a] [] pos) (callDE (fn1 strF) ga) :=
 e_bty C (fun i=>call_strU) (fun _=>cd_str) bt_str B.str ha hg (by decide) (by decide) he
theorem e_intU (C:Ctx3 P w K mg base k X) (B:Blt mg) (ha:A3 K X O [a] ga) (hg:∀ i,Gl (X i) "int" := by intro i;rfl) (he:∀ i,starEach [a] (X i).env=(false,eval a (X i).env)::starEach [] (X i).env:=by intro i;rfl):E3 K X O (.Call (.Name "int" p) [a] [] pos) (callDE (fn1 intUF) ga) :=
 e_bty C (fun i=>call_intU) (fun _=>cd_intU) bt_int B.int ha hg (by decide) (by decide) he
theorem e_split {apos:Pos} (C:Ctx3 P w K mg base k X) (ho:E3 K X O a fa) (hb:E3 K X O b fb) (hbase:∀ i,attributeBase a "split" (X i).env (eval a (X i).env)=eval a (X i).env:=by intro i;rfl)
 (hfew:∀ i,((backTo pos (starEach [b] (X i).env)).all (fun x=>!x.1) && (backToKw pos (keywordEach [] (X i).env)).all (fun x=>x.1.isSome) && decide (([b]:List Expr).length+([]:List Keyword).length+(if ([]:List Keyword).isEmpty then 0 else 1)<30))=true:=by intro i;rfl)
 (hline:(apos.endLine == pos.line)=true:=by rfl) (hs:∀ i,starEach [b] (X i).env = [(false,eval b (X i).env)]:=by intro i;rfl):E3 K X O (.Call (.Attribute a "split" apos) [b] [] pos) (splitD fa fb) :=
 let ⟨_,p1,d1⟩:=ho;let ⟨_,p2,d2⟩:=hb; ⟨tBM K "str" rSplit _ (tCons _ tNil),fun i=>by
  have h:=pe_bm (apos:=apos) (cpos:=pos) PySem.F.plainAttrs_str PySem.F.slot_str_split PySem.F.type_str_split (mtr_split (X:=X i)) (p1 i) (pa_cons (p2 i) pa_nil (hs i)) (hbase i) (hfew i) hline (hs i)
  rw [C.hK] at h
  exact h,fun j=>ed_split (d1 j) (d2 j)⟩
end
end L3
namespace L3
open PySem PySem.Spec
open PyProof.Rows hiding St
open L2
section
variable {K : PySem.W.Frag} {O : Ob} {H₀ H : Hp} {A : Nat → Addr → Prop} {σ : St} {ρ : DSt}
def noOwn (ρ:DSt):Prop:=(∀ (i:Nat) ds,ρ[i]? ≠ some (some (.own ds)))/\(∀ (i:Nat) ks,ρ[i]? ≠ some (some (.dct ks)))/\(∀ (i:Nat) f ds,ρ[i]? ≠ some (some (.gen f ds)))/\∀ (i:Nat) T,ρ[i]? ≠ some (some (.thg T))
theorem Rep.none (r:Rep K O H₀ A H σ ρ) (h:noOwn ρ):Rep K O H₀ (fun _ _=>False) H σ ρ:=by
 refine ⟨r.ok,r.p,r.p0,r.st,fun _ _ _ x=>x.elim,fun _ _ x=>x.elim,fun i x e=>?_,r.len⟩
 obtain ⟨v,hv,q⟩:=r.at_ i x e
 refine ⟨v,hv,?_⟩
 cases x with
 | im d=>exact Is.weak q fun a u=>⟨u.1,fun _ z=>z.elim⟩
 | own ds=>exact absurd e (h.1 i ds)
 | dct ks=>exact absurd e (h.2.1 i ks)
 | gen f ds=>exact absurd e (h.2.2.1 i f ds)
 | thg T=>exact absurd e (h.2.2.2 i T)
 | thr T=>obtain ⟨W,hw,z⟩:=q;exact ⟨W,fun a w=>⟨⟨(hw a w).1.1,fun _ z=>z.elim⟩,(hw a w).2⟩,T.to (fun a u f q=>⟨⟨f.1,fun _ z=>z.elim⟩,q⟩) (fun a u w q=>⟨w,q⟩) (TupStay.refl _) z⟩
 | rd f ds=>obtain ⟨a,xs,e,f,q,z⟩:=q;exact ⟨a,xs,e,⟨f.1,fun _ z=>z.elim⟩,q,z.weak fun a u=>⟨u.1,fun _ z=>z.elim⟩⟩
 | exc C ns ds=>obtain ⟨xs,e,z⟩:=q;exact ⟨xs,e.to fun a u f q=>⟨⟨f.1,fun _ z=>z.elim⟩,q⟩,z.weak fun a u=>⟨u.1,fun _ z=>z.elim⟩⟩
 | ob=>exact q
 | scr n=>exact IsS.to (fun a u f z=>⟨⟨f.1,fun _ z=>z.elim⟩,z⟩) q
theorem Frm.none:Frm O A H (fun _ _=>False) H:=fun a o e u=>⟨e,u.1,fun _ z=>z.elim⟩
def asgI (i:Nat) (f:DE):DS:=fun Dd ρ=>noOwn ρ/\f ρ fun r=>Dd.nx (ρ.set i (some (.im r.d)))
theorem sd_asgI {i:Nat} {t:TE} {f:DE} (h:ED K O t f):SD K O (tAsg t (gName i)) (asgI i f):=fun H₀ A σ H ρ D Dd r q P=>by
 obtain ⟨no,q⟩:=q
 have r0:=r.none no
 refine h σ H ρ _ _ r.seen q fun v H1 x s1 o1 q1=>?_
 have i1:Is K (unO O fun _ _=>False) H1 v x.d:=Is.weak (o1.is r.ok r.p) fun a u=>⟨u,fun _ z=>z.elim⟩
 exact P.nx _ _ H1 _ ((r0.stp s1).setIm i1) (Frm.trans Frm.none (.setIm s1)) q1
end
section
variable {ι κ : Type} {P : Program} {w : World} {K : PySem.W.Frag} {mg : Str → Option Value} {base : Heap} {k : Nat} {X : ι → Cx} {O : κ → Ob} {a tg : Expr} {fa : DE} {pos : Pos}
theorem s_setCI (n:Nat) {x:Str} {px p0:Pos} {elt iter:Expr} {ifs:List Expr} {scope:Scope} {fi:DI} {g:DG} {ft:DT} {fe:DE} (h:Nat) (N':List Str) (C:Ctx3 P w K mg base k X) (S:∀ i,ScopeOk h N' (X i).N scope (X i).env.scope) (hs:I3 K X O tg iter fi)
 (hg:G3 K (compX X scope N') h tg g) (hf:F3 K (compX X scope N') (compO O) ifs ft) (he:E3 K (compX X scope N') (compO O) elt fe) (hN:∀ i,(X i).N.Nodup:=by intro i;exact of_decide_eq_true (by kernel_rfl)) (hi:∀ i,(X i).N[n]? = some x:=by intro i;rfl) (hx:∀ i,(X i).env.scope.names.lookup x=some .local:=by intro i;rfl)
 (hsw:∀ i,swapsWith (.ListComp elt [⟨tg,iter,ifs,0⟩] scope p0) (some (.Name x px)) pos.line (X i).env=pure true:=by intro i;rfl) (hset:∀ i x,foldedSetIterable iter (X i).env x=pure x:=by intro _ _;rfl) :
 S3 K X O (.Assign [.Name x px] (.ListComp elt [⟨tg,iter,ifs,0⟩] scope p0) pos) (asgI n (compD h fi g ft fe)):=by
 obtain ⟨ti,p1,d1⟩:=hs
 obtain ⟨tg',p2,d2,_,ow⟩:=hg
 obtain ⟨tf,p3,d3⟩:=hf
 obtain ⟨te,p4,d4⟩:=he
 exact ⟨_,fun i=>ps_setComp (hN i) (hi i) (hx i) (hsw i) h (S i) (C.calm i) (p1 i) (fun c s H ex=>p2 (i,⟨c,s,H,ex⟩)) ow (fun c s H ex=>p3 (i,⟨c,s,H,ex⟩)) (fun c s H ex=>p4 (i,⟨c,s,H,ex⟩)) (hset i),fun j=>sd_asgI (ed_comp (d1 j) d2 (fun D xs nm=>d3 ⟨(j,(D,xs)),nm⟩) fun D xs nm=>d4 ⟨(j,(D,xs)),nm⟩)⟩
end
def joinL (c:Nat):List (List Nat)->List Nat
 | [] => []
 | [x]=>x
 | x::r=>x++c::joinL c r
theorem joinL_cons {c:Nat} {x:List Nat} {r:List (List Nat)} (h:r ≠ []):joinL c (x::r)=x++c::joinL c r:=by
 cases r with
 | nil=>exact absurd rfl h
 | cons y r=>rfl
theorem app_sep {c:Nat}:∀ {a b u v:List Nat},c ∉ a->c ∉ b->a++c::u=b++c::v->a=b/\u=v
 | [],[],u,v,_,_,h=>by cases h;exact ⟨rfl,rfl⟩
 | [],y::b,u,v,_,hb,h=>by cases h;exact absurd List.mem_cons_self hb
 | x::a,[],u,v,ha,_,h=>by cases h;exact absurd List.mem_cons_self ha
 | x::a,y::b,u,v,ha,hb,h=>by
   injection h with h1 h2
   obtain ⟨e1,e2⟩:=app_sep (fun z=>ha (List.mem_cons_of_mem _ z)) (fun z=>hb (List.mem_cons_of_mem _ z)) h2
   subst h1 e1
   exact ⟨rfl,e2⟩
theorem joinL_inj {c:Nat}:∀ {A B:List (List Nat)},A ≠ []->B ≠ []->(∀ x ∈ A,c ∉ x)->(∀ x ∈ B,c ∉ x)->joinL c A=joinL c B->A=B
 | [],_,h,_,_,_,_=>absurd rfl h
 | _,[],_,h,_,_,_=>absurd rfl h
 | [a],[b],_,_,_,_,h=>by rw [show a=b from h]
 | [a],b::d::r,_,_,ha,_,h=>by
   have e:c ∈ joinL c [a]:=by rw [h,joinL_cons (x:=b) (r:=d::r) (by simp)];simp
   exact absurd e (ha a (by simp))
 | a::d::r,[b],_,_,_,hb,h=>by
   have e:c ∈ joinL c [b]:=by rw [<- h,joinL_cons (x:=a) (r:=d::r) (by simp)];simp
   exact absurd e (hb b (by simp))
 | a::d::r,b::d'::r',_,_,ha,hb,h=>by
   rw [joinL_cons (x:=a) (r:=d::r) (by simp),joinL_cons (x:=b) (r:=d'::r') (by simp)] at h
   obtain ⟨e1,e2⟩:=app_sep (ha a (by simp)) (hb b (by simp)) h
   subst e1
   rw [joinL_inj (A:=d::r) (B:=d'::r') (by simp) (by simp) (fun x hx=>ha x (List.mem_cons_of_mem _ hx)) (fun x hx=>hb x (List.mem_cons_of_mem _ hx)) e2]
theorem join_toList (c:Nat):∀ l:List Str,(Str.join ⟨#[c]⟩ l).cps.toList=joinL c (l.map fun x=>x.cps.toList)
 | []=>rfl
 | [x]=>rfl
 | x::y::r=>by
   show ((x.cps ++ #[c])++(Str.join ⟨#[c]⟩ (y::r)).cps).toList=_
   rw [List.map_cons,joinL_cons (x:=x.cps.toList) (r:=(y::r).map fun x=>x.cps.toList) (by simp),<- join_toList c (y::r)]
   simp
theorem str_ext {x y:Str} (h:x.cps.toList=y.cps.toList):x=y:=by
 obtain ⟨⟨a⟩⟩:=x
 obtain ⟨⟨b⟩⟩:=y
 have h:a=b:=h
 rw [h]
theorem split_words {c:Nat} {ws:List (List Nat)} (hn:ws ≠ []) (hc:∀ w ∈ ws,c ∉ w):Txt.split (tx (joinL c ws)) ⟨#[c]⟩=ws.map tx:=by
 have h1:=StrLaws.join_split (tx (joinL c ws)) ⟨#[c]⟩
 have h2:=StrLaws.split_free (tx (joinL c ws)) c
 have h3:=split_pos (tx (joinL c ws)) ⟨#[c]⟩
 generalize Txt.split (tx (joinL c ws)) ⟨#[c]⟩=ps at h1 h2 h3
 have e:=congrArg (fun x:Str=>x.cps.toList) h1
 rw [join_toList,tx_toList] at e
 have e2:=joinL_inj (by intro z;rw [List.map_eq_nil_iff.mp z] at h3;simp at h3) hn (fun x hx=>by obtain ⟨p,hp,rfl⟩:=List.mem_map.mp hx;exact h2 p hp) hc e
 have e3:ps=(ps.map fun x=>x.cps.toList).map tx:=by
  rw [List.map_map]
  conv=>lhs;rw [<- List.map_id ps]
  refine List.map_congr_left fun x _=>?_
  exact str_ext (by rw [Function.comp_apply,tx_toList];rfl)
 rw [e3,e2]
end L3
namespace L3
open PySem PySem.Spec
open PyProof.Rows hiding St
open L2
def tyD:PyData->String
 | .none => "NoneType"
 | .bool _ => "bool"
 | .int _ => "int"
 | .str _ => "str"
 | .list _ => "list"
 | .tuple _ => "tuple"
 | .dict _ => "dict"
def isKind (d:PyData) (T:String):Option Bool:=match T with
 | "int" => some (match d with | .int _=>true | .bool _=>true | _=>false)
 | "bool" => some (match d with | .bool _=>true | _=>false)
 | "str" => some (match d with | .str _=>true | _=>false)
 | "tuple" => some (match d with | .tuple _=>true | _=>false)
 | "list" => some (match d with | .list _=>true | _=>false)
 | _=>none
theorem kit_kind (K:PySem.W.Frag) {d:PyData} {T:String} {b:Bool} (h:isKind d T=some b) (hd:∀ kvs,d ≠ .dict kvs):PySem.W.kitOne K (.type (tyD d)) (.type T)=some b:=by
 unfold isKind at h
 split at h
 all_goals first
  | (cases h;cases d <;> first | rfl | exact absurd rfl (hd _))
  | cases h
def tIsI (K:PySem.W.Frag) (T:String) (te:TE):TE:=fun σ H Q=>te σ H fun v H1=>∃ F d b,Is K F H1 v d/\isKind d T=some b/\Q (.bl b) H1
theorem isinst_data {X:Cx} {pins:List (Addr × Obj)} {σ:St} {H:Hp} {s:Shared} {A:Around} {E:Value->Shared->Prop} {Q:Value->Shared->Prop} {x:V} {u:Value} {F:Addr->Prop} {d:PyData} {T:String} {b:Bool} (I:Inv X pins σ H s) (rx:RelV x u) (is:Is X.K F H x d) (e:isKind d T=some b) (h:∀ tk,Q (.bool b) { s with toks:=tk }) :
 wpAny (model X.prog X.w) A (call (.builtin "isinstance") [u,.type T]) Q E s:=by
 cases is with
 | none=>exact isinst_ok I rx .non (kit_kind _ e fun _ z=>nomatch z) h
 | bool y=>exact isinst_ok I rx (.bl y) (kit_kind _ e fun _ z=>nomatch z) h
 | int i=>exact isinst_ok I rx (.int i) (kit_kind _ e fun _ z=>nomatch z) h
 | str y=>exact isinst_ok I rx (.str y) (kit_kind _ e fun _ z=>nomatch z) h
 | list f q r=>exact isinst_ok I rx (.lst q) (kit_kind _ e fun _ z=>nomatch z) h
 | @tuple a xs ds q r =>
   cases (show u=Value.ref a from rx)
   obtain ⟨its,_,⟨o,h1,h2,_⟩,_⟩:=I.tuple q
   exact PySem.W.kia_one PySem.W.kitx_tuple I.kIn ⟨o,h1,h2⟩ (kit_kind X.K (d := .tuple ds) e fun _ z=>nomatch z) (fun z=>nomatch z) h
theorem pe_isI {X:Cx} {e:Expr} {te:TE} {T:String} {x:Str} {p1 p2 p3:Pos} (gi:Gl X "isinstance") (mi:X.mg "isinstance" = none) (gT:Gl X x) (mT:X.mg x=none) (hT:bootBuiltins x=some (.type T)) (he:PE X e te) (hn:x ≠ "__name__" := by decide) (hdb:(x == ("__debug__" : Str))=false:=by decide)
 (s1:starEach [e,.Name x p2] X.env=(false,eval e X.env)::(false,eval (.Name x p2) X.env)::starEach [] X.env:=by rfl) (s2:starEach [e,.Name x p2] X.env=(false,eval e X.env)::starEach [.Name x p2] X.env:=by rfl) (s3:(backTo p3 (starEach [.Name x p2] X.env)).any (·.1)=false:=by rfl) :
 PE X (.Call (.Name "isinstance" p1) [e,.Name x p2] [] p3) (tIsI X.K T te):=by
 intro pins s σ H Q I h
 refine wpAny_Call_Name_kw (ld_blt I gi mi (u := .builtin "isinstance") (by decide +kernel) ?_)
 refine PyProof.Rows.callWith_builtin1 ?_ s2 s3
 rw [s1]
 show wpAny _ _ (spliced ((false,eval e X.env)::(false,eval (.Name x p2) X.env) :: [])) _ _ s
 refine Calls.spliced_cons (thn (he pins s σ H _ I h) fun u s' ⟨y,H1,I1,r1,F,d,b,is,ek,q⟩=>?_)
 refine Calls.spliced_cons (ld_blt I1 gT mT hT (Calls.spliced_nil ?_) hn hdb)
 exact isinst_data I1 r1 is ek fun tk=>⟨.bl b,H1,I1.tok _,rfl,q⟩
def isID (T:String) (f:DE):DE:=fun ρ Q=>f ρ fun r=>∃ b,isKind r.d T=some b/\Q (.o (.bool b))
theorem ed_isI {K:PySem.W.Frag} {O:Ob} {T:String} {t:TE} {f:DE} (h:ED K O t f):ED K O (tIsI K T t) (isID T f):=fun σ H ρ Q Qd S hf k=>by
 refine h σ H ρ _ _ S hf fun v H1 r s1 o1 ⟨b,e,q⟩=>?_
 exact ⟨_,r.d,b,o1.is S.ok S.p,e,k _ H1 (.o (.bool b)) s1 (Is.bool b) q⟩
section
variable {ι κ : Type} {P : Program} {w : World} {K : PySem.W.Frag} {mg : Str → Option Value} {base : Heap} {k : Nat} {X : ι → Cx} {O : κ → Ob} {a : Expr} {fa : DE} {pos p p2 : Pos}
theorem e_isI {x:Str} {T:String} (C:Ctx3 P w K mg base k X) (B:Blt mg) (ha:E3 K X O a fa) (hm:mg x=none) (hT:bootBuiltins x=some (.type T):=by decide +kernel) (hg:∀ i,Gl (X i) "isinstance" := by intro i;rfl) (hg2:∀ i,Gl (X i) x:=by intro i;rfl) (hn:x ≠ "__name__" := by decide) (hdb:(x == ("__debug__" : Str))=false:=by decide)
 (s1:∀ i,starEach [a,.Name x p2] (X i).env=(false,eval a (X i).env)::(false,eval (.Name x p2) (X i).env)::starEach [] (X i).env:=by intro i;rfl) (s2:∀ i,starEach [a,.Name x p2] (X i).env=(false,eval a (X i).env)::starEach [.Name x p2] (X i).env:=by intro i;rfl) (s3:∀ i,(backTo pos (starEach [.Name x p2] (X i).env)).any (·.1)=false:=by intro i;rfl) :
 E3 K X O (.Call (.Name "isinstance" p) [a,.Name x p2] [] pos) (isID T fa) :=
 let ⟨_,q,d⟩:=ha; ⟨_,fun i=>by
  have h:=pe_isI (p1:=p) (p3:=pos) (hg i) (by rw [C.hmg];exact B.isinstance) (hg2 i) (by rw [C.hmg];exact hm) hT (q i) hn hdb (s1 i) (s2 i) (s3 i)
  rw [C.hK] at h
  exact h,fun j=>ed_isI (d j)⟩
end
end L3
namespace L3
open PySem PySem.Spec
open PyProof.Rows hiding St
open L2
section
variable {K : PySem.W.Frag} {O : Ob}
def rLtS:R2:=fun x y H Q=>∃ i j:Str,x = .str i/\y = .str j/\Q (.bl (decide (i.cps.toList<j.cps.toList))) H
def ltSF:PyData->PyData->Option R:=fun d e=>match d,e with
 | .str i,.str j=>some (.o (.bool (decide (i.cps.toList<j.cps.toList))))
 | _,_=>none
theorem opd_ltS:OpD K O rLtS (fn2 ltSF):=fun H x y d e Q Qd ok p ix iy ⟨r,hr,q⟩ k=>by
 unfold ltSF at hr
 split at hr
 ·cases hr
  cases ix
  cases iy
  exact ⟨_,_,rfl,rfl,k _ H (.o _) (.refl _ _) (Is.bool _) q⟩
 ·cases hr
end
section
variable {ι κ : Type} {P : Program} {w : World} {K : PySem.W.Frag} {mg : Str → Option Value} {base : Heap} {k : Nat} {X : ι → Cx} {O : κ → Ob} {a b : Expr} {fa fb : DE} {pos : Pos} {es : List Expr} {fs : List DE}
theorem e_ltS (ha:E3 K X O a fa) (hb:E3 K X O b fb):E3 K X O (.Compare a [.Lt] [b] pos) (opDE (fn2 ltSF) fa fb):=e_cmp (r:=rLtS) (fun i=>op_lt_str) (fun _=>opd_ltS) ha hb (nomark b)
end
end L3
namespace L3
open PySem PySem.Spec
open PyProof.Rows hiding St
open L2
abbrev tS (w:List Nat):PyData := .str (tx w)
def lowB (w:List Nat):Bool:=w.all fun c=>decide (97<=c) && decide (c<=122)
theorem lt_one (a b:Nat):decide (([a]:List Nat) < [b])=decide (a<b):=by
 by_cases h:a<b
 ·rw [decide_eq_true h]
  exact decide_eq_true (List.Lex.rel h)
 ·rw [decide_eq_false h]
  refine decide_eq_false fun z=>?_
  cases z with
  | rel z=>exact h z
  | cons z=>cases z
theorem leS_sg {a b:Nat}:leSF (.str (sg a)) (.str (sg b))=some (.o (.bool (decide (a<=b)))):=by
 show some (R.o (.bool (!decide (([b]:List Nat) < [a]))))=_
 rw [lt_one]
 by_cases h:a<=b
 ·rw [decide_eq_true h,decide_eq_false (by omega)];rfl
 ·rw [decide_eq_false h,decide_eq_true (by omega)];rfl
theorem ch_sg {lo c hi:Nat} {i:Nat} {ρ:DSt} {Q:R->Prop} (hi':ρ[i]? = some (some (.im (.str (sg c))))) (q:Q (.o (.bool (decide (lo<=c) && decide (c<=hi))))):chD (fn2 leSF) (fn2 leSF) (cD (.str (sg lo))) (vD i) (cD (.str (sg hi))) ρ Q:=by
 refine ⟨_,_,hi',rfl,_,leS_sg,_,rfl,?_⟩
 by_cases h:lo<=c
 ·rw [decide_eq_true h,if_pos rfl]
  rw [decide_eq_true h,Bool.true_and] at q
  exact ⟨_,leS_sg,q⟩
 ·rw [decide_eq_false h,if_neg Bool.false_ne_true]
  rw [decide_eq_false h,Bool.false_and] at q
  exact q
theorem all_of {w:List Nat} {g:Nat->Bool}:w.map (fun c=>PyData.bool (g c))=(w.map g).map PyData.bool:=by rw [List.map_map];rfl
theorem joinL_flat (c:Nat) (x:List Nat):∀ r:List (List Nat),joinL c (x::r)=x++(r.map fun w=>c::w).flatten
 | []=>by simp [joinL]
 | y::r=>by
   rw [joinL_cons (by simp),joinL_flat c y r]
   simp
def riseB (w:List Nat):Bool:=(List.range' 1 (w.length - 1)).all fun k=>decide (w.getD (k - 1) 0<w.getD k 0)
def alphB (w:List Nat):Bool:=lowB w && riseB w
end L3
namespace L3
open PySem PySem.Spec
open PyProof.Rows hiding St
open L2
mutual
def solid:PyData->Bool
 | .none=>true
 | .int _=>true
 | .str _=>true
 | .tuple ds=>solids ds
 | _=>false
def solids:List PyData->Bool
 | []=>true
 | d::ds=>solid d && solids ds
end
theorem idx_lst {ds:List PyData} {i:Nat} {d:PyData} (h:ds[i]? = some d):idxF (.list ds) (.int (i:Nat))=some (.o d):=by
 show (atI ds _).map R.o=_
 rw [atI_nat (v:=d) h]
 rfl
theorem idx_tup {ds:List PyData} {i:Nat} {d:PyData} (h:ds[i]? = some d):idxF (.tuple ds) (.int (i:Nat))=some (.o d):=by
 show (atI ds _).map R.o=_
 rw [atI_nat (v:=d) h]
 rfl
theorem add_lst {a b:List PyData} (h:a.length+b.length<=16777216):addF (.list a) (.list b)=some (.n (a++b)):=by
 show (if a.length+b.length<=sizeLine then some (R.n (a++b)) else none)=_
 rw [if_pos (by rw [sizeLine_eq];exact h)]
end L3
namespace L2
open PySem PySem.Spec
open PyProof.Rows hiding St
section
variable {X : Cx} {pins : List (Addr × Obj)} {σ : St} {H : Hp} {s : Shared} {h' : Heap}
theorem Inv.adopt {q:Addr} {o:HO} {t':Nat} (I:Inv X pins σ H s) (fp:FpOk X pins H q) (k:∀ b u,b ≠ q->s.heap.get? b=some u->h'.get? b=some u) (new:ObjOk X.prog X.w (upd H q o) h' q o):Inv X pins σ (upd H q o) { s with heap:=h',toks:=t' }:=by
 obtain ⟨f0,f1,f2,f3,f4,f5⟩:=fp
 have nq:∀ c u,H c=some u->c ≠ q:=fun c u e=>ne_of_none e f0
 refine I.step (g':=s.gens) (d':=s.drawn) (ch := [q]) (fun b hb=>?_) (fun b o _ _ hc e _=>k b o (fun z=>hc (by simp [z])) e) (fun b o _ _ hc e _=>⟨o.slots,k b o (fun z=>hc (by simp [z])) e⟩)
  (fun b o hc _ n=>by rw [upd_ne (fun z=>hc (by simp [z]))];exact n) (fun b o hc e=>⟨o,k b o (fun z=>hc (by simp [z])) e⟩) (fun b xs e=>by rw [upd_ne (nq _ _ e)];exact e) (fun b o u e=>by rw [upd_ne (nq _ _ e)];exact e)
  (fun b ps e=>⟨#[],by rw [upd_ne (nq _ _ e),e];simp⟩) (fun m hm=>?_) (fun b u e=>?_) I.bare
 ·have e:b=q:=by simpa using hb
  subst e
  exact ⟨f3,f1,f4,f5⟩
 ·obtain ⟨o,es,ep,ho,r⟩:=hm
  exact ⟨o,es,ep,k _ o (Ne.symm f1) ho,r⟩
 ·by_cases hb:b=q
  ·subst hb;rw [upd_same] at e;cases e;exact new
  ·rw [upd_ne hb] at e
   refine (I.hok b u e).stay (fun c v hc r=>k c v ?_ r) (fun c r=>by rw [upd_ne (nq _ _ r)];exact r) fun c xs r=>by rw [upd_ne (nq _ _ r)];exact r
   rcases hc with z | z
   ·rw [z];exact hb
   ·exact nq _ _ z
end
end L2
namespace SX
open PySem PySem.Spec PyProof.Rows
abbrev Es:=Array (Int × Value)
def keyE (e:Int × Value):Str:=strOf e.2
def keys (es:Es):List Str:=es.toList.map keyE
def byT (w:World):Bool:=w.params.followText "set-order"
structure Sx (w:World) (h:Heap) (a:Addr) (es:Es) (ep:Nat) (t:SetTable):Prop where
 at_:∃ o,h.get? a=some o/\o.ExactSet/\o.data = .set es ep t
 lt:es.size<scanBound
 fit:t.fits es.size=true
 led:t.led = !byT w
 pl:1<es.size->t.plain=false
structure Tx (P:Program) (w:World) (h:Heap) (a:Addr) (es:Es) (ep:Nat) (t:SetTable):Prop extends Sx w h a es ep t where
 el:ElemsOf (PySem.strKind P w) es.toList
 nd:(keys es).Nodup
theorem led_new (t:SetTable) (es:Es) (h:Int) (x:Value):(layNew t es h x).2.1.led=t.led:=by
 unfold layNew
 cases t.freeSlot h with
 | none=>rfl
 | some p =>
   obtain ⟨j,d⟩:=p
   show ((t.put j).1.orStandIn _).led=t.led
   unfold SetTable.orStandIn
   split <;> rfl
theorem led_all (t:SetTable) (es:Es) (n:Nat):(relayAll t es n).2.1.led=t.led/\(t.plain=false->(relayAll t es n).2.1.plain=false):=by
 unfold relayAll
 cases e:t.relaid (es.map (·.1)) n with
 | none=>exact ⟨rfl,fun _=>rfl⟩
 | some p =>
   obtain ⟨t',ord⟩:=p
   have:t'.led=t.led/\t'.plain=t.plain:=by
    unfold SetTable.relaid SetTable.laid at e
    cases q:SetTable.layClean (SetTable.sizeAbove n - 1) (es.map (·.1)) with
    | none=>rw [q] at e;cases e
    | some o=>rw [q] at e;cases e;exact ⟨rfl,rfl⟩
   dsimp only
   split
   ·exact ⟨this.1,fun h=>this.2.trans h⟩
   ·exact ⟨rfl,fun _=>rfl⟩
section
variable {P : Program} {w : World} {A : Around} {E : Value → Shared → Prop} {s : Shared}
theorem key_is {e:Int × Value} (h:∃ k,(PySem.strKind P w).is k e.2=true/\e.1=(PySem.strKind P w).hash k) (k:Str):(PySem.strKind P w).is k e.2=true↔keyE e=k:=by
 obtain ⟨k',hk,_⟩:=h
 obtain ⟨i,v⟩:=e
 obtain ⟨t,ev⟩:=Value.isStrOf_shape hk
 subst ev
 show Value.isStrOf k (.str k' t)=true↔k'=k
 constructor
 ·intro h
  exact (PySem.strKind P w).inj (.str k' t) _ _ hk h
 ·rintro rfl
  exact hk
theorem Tx.put {a:Addr} {es es':Es} {ep:Nat} {t t':SetTable} (S:Tx P w s.heap a es ep t) (el:ElemsOf (PySem.strKind P w) es'.toList) (nd:(keys es').Nodup) (lt:es'.size<scanBound) (fit:t'.fits es'.size=true) (led:t'.led = !byT w) (pl:t'.plain=false)
 {Q:Unit->Shared->Prop} (h:∀ h',Heap.SameBut a s.heap h'->Tx P w h' a es' (ep+1) t'->Q () { s with heap:=h' }):wpAny (model P w) A (storeSet a es' t') Q E s:=by
 obtain ⟨o,ho,hx,hd⟩:=S.at_
 refine wpAny_storeSet_of ho hd (h _ (.update ..) ⟨⟨⟨{ o with data := .set es' (ep+1) t' },?_,hx,rfl⟩,lt,fit,led,fun _=>pl⟩,el,nd⟩) (fits_of_scanBound lt)
 have:=Heap.get?_update_self (Obj.putSet es' t') ho (by rw [putSet_of es' t' hd];rfl)
 rw [putSet_of es' t' hd] at this
 exact this
theorem size_perm {es es':Es} (p:es'.toList.Perm es.toList):es'.size=es.size:=by simpa using p.length_eq
theorem keys_perm {es es':Es} (p:es'.toList.Perm es.toList):(keys es').Perm (keys es):=p.map _
theorem Tx.add {a:Addr} {es:Es} {ep:Nat} {t:SetTable} {x:Str} {tk:Tok} {Q:Bool->Shared->Prop} (S:Tx P w s.heap a es ep t) (hr:es.size+1<scanBound)
 (h:∀ b h' es' ep' t',Heap.SameBut a s.heap h'->Tx P w h' a es' ep' t'->(∀ k,k ∈ keys es'↔k ∈ keys es\/k=x)->es'.size<=es.size+1->Q b { s with heap:=h' }) :
 wpAny (model P w) A (setAddHashed a (.str x tk) (hashStr w x)) Q E s:=by
 have hk:(PySem.strKind P w).is x (.str x tk)=true:=by show Value.isStrOf x (.str x tk)=true;simp [Value.isStrOf]
 obtain ⟨o,ho,hx,hd⟩:=S.at_
 have gw:∀ (b:Bool) (s₁:Shared) (Q':Unit->Shared->Prop),Q' () s₁->wpAny (model P w) A (match b with | true=>rule "set.scan.the-table-gave-way" | false=>pure ()) Q' E s₁:=fun b s₁ Q' q=>by
  cases b
  ·exact wpAny_pure q
  ·exact wpAny_rule q
 unfold setAddHashed setAddHashedIn
 refine wpAny_holding (wpAny_bind (wpAny_setState_of ho hd S.fit ?_))
 dsimp only
 rw [if_pos (byScan_of rfl S.lt S.el)]
 unfold setAddByScan
 refine wpAny_bind (wpAny_bind (wpAny_rule (wpAny_bind (wpAny_setScan_of (knd:=PySem.strKind P w) hk ho hd S.fit S.el ?_))))
 cases hf:es.toList.findIdx? (fun e=>(PySem.strKind P w).is x e.2) with
 | some j =>
   obtain ⟨hj,hp,_⟩:=List.findIdx?_eq_some_iff_getElem.mp hf
   have hm:x ∈ keys es:=List.mem_map.mpr ⟨_,List.getElem_mem hj,(key_is (S.el _ (List.getElem_mem hj)).1 x).mp hp⟩
   refine wpAny_pure (wpAny_pure ?_)
   exact h false s.heap es ep t (.refl ..) S (fun k=>⟨.inl,fun z=>z.elim id fun z=>z ▸ hm⟩) (Nat.le_succ _)
 | none =>
   have hm:x ∉ keys es:=fun hm=>by
    obtain ⟨e,he,hk'⟩:=List.mem_map.mp hm
    have:=List.findIdx?_eq_none_iff.mp hf e he
    rw [(key_is (S.el e he).1 x).mpr hk'] at this
    cases this
   have hp:=layNew_perm t es (hashStr w x) (.str x tk)
   have hfit:=layNew_fits t es (hashStr w x) (.str x tk)
   have hled:=led_new t es (hashStr w x) (.str x tk)
   generalize layNew t es (hashStr w x) (Value.str x tk)=L at hp hfit hled ⊢
   obtain ⟨e1,t1,wd,gv⟩:=L
   dsimp only at hp hfit hled ⊢
   rw [Array.toList_push] at hp
   have el1:ElemsOf (PySem.strKind P w) e1.toList:=(S.el.push (k:=x) (x := .str x tk) hk rfl).perm hp
   have kp:(keys e1).Perm (keys es ++ [x]):=by
    have:=hp.map keyE
    rw [List.map_append] at this
    exact this
   have nd1:(keys e1).Nodup:=kp.nodup_iff.mpr (List.nodup_append.mpr ⟨S.nd,(by simp),fun a ha b hb=>by
    rw [List.mem_singleton] at hb
    subst hb
    exact fun z=>hm (z ▸ ha)⟩)
   have mem1:∀ k,k ∈ keys e1↔k ∈ keys es\/k=x:=fun k=>by rw [kp.mem_iff,List.mem_append,List.mem_singleton]
   have sz1:e1.size=es.size+1:=by simpa using hp.length_eq
   have lt1:e1.size<scanBound:=by omega
   refine wpAny_bind (gw _ _ _ ?_)
   have fin:∀ t2:SetTable,t2.fits e1.size=true->t2.led=t.led->t2.plain=false->wpAny (model P w) A (do
    storeSet a e1 t2
    if (!wd && t2.tooFull)=true then do
        (match (relayAll t2 e1 (SetTable.grown e1.size)).2.2 with | true=>rule "set.scan.the-table-gave-way" | false=>pure ())
        storeSet a (relayAll t2 e1 (SetTable.grown e1.size)).1 (relayAll t2 e1 (SetTable.grown e1.size)).2.1
        pure (some true)
     else pure (some true)) (fun r s₁=>wpAny (model P w) A (match r with | some b=>pure b | none=>setAddHashedIn a (.str x tk) (hashStr w x) 99999) Q E s₁) E s:=fun t2 f2 l2 p2=>by
    refine wpAny_bind (S.put el1 nd1 lt1 f2 (l2.trans S.led) p2 fun h1 sb1 S1=>?_)
    cases hw:(!wd && t2.tooFull) with
    | false=>exact wpAny_pure (wpAny_pure (h true h1 e1 _ t2 sb1 S1 mem1 (Nat.le_of_eq sz1)))
    | true =>
      have rp:=relayAll_perm t2 e1 (SetTable.grown e1.size)
      have rf:=relayAll_fits t2 e1 (SetTable.grown e1.size)
      have rl:=led_all t2 e1 (SetTable.grown e1.size)
      generalize relayAll t2 e1 (SetTable.grown e1.size)=R at rp rf rl ⊢
      obtain ⟨e2,t3,g2⟩:=R
      dsimp only at rp rf rl ⊢
      refine wpAny_bind (gw _ _ _ ?_)
      have z2:=size_perm rp
      refine wpAny_bind (S1.put (s:={ s with heap:=h1 }) (el1.perm rp) ((keys_perm rp).nodup_iff.mpr nd1) (by omega) rf (rl.1.trans (l2.trans S.led)) (rl.2 p2) fun h2 sb2 S2=>?_)
      exact wpAny_pure (wpAny_pure (h true h2 e2 _ t3 (sb1.trans sb2) S2 (fun k=>by rw [(keys_perm rp).mem_iff];exact mem1 k) (by omega)))
   split
   ·rename_i hpl
    refine wpAny_bind ?_
    rw [hashByValue_scannable 8 (x := .str x tk) rfl]
    refine wpAny_pure ?_
    exact fin { t1 with plain:=false } (SetTable.fits_plain_off hfit) hled rfl
   ·rename_i hpl
    refine wpAny_bind (wpAny_pure ?_)
    exact fin t1 hfit hled (by simpa using hpl)
end
end SX
namespace SX
open PySem PySem.Spec PyProof.Rows
section
variable {P : Program} {w : World} {A : Around} {R : Result → Shared → Prop} {I : Addr} {fp wr : List Addr} {G : Array GenState → Array GenState → Prop} {n : Nat} {Pv : Nat → Value → Prop} {St : Nat → Shared → Prop}
theorem Sx.keep {h h':Heap} {a:Addr} {es:Es} {ep:Nat} {t:SetTable} (S:Sx w h a es ep t) (k:∀ o,h.get? a=some o->h'.get? a=some o):Sx w h' a es ep t :=
 { S with at_:=let ⟨o,e,r⟩:=S.at_; ⟨o,k o e,r⟩ }
theorem Tx.keep {h h':Heap} {a:Addr} {es:Es} {ep:Nat} {t:SetTable} (S:Tx P w h a es ep t) (k:∀ o,h.get? a=some o->h'.get? a=some o):Tx P w h' a es ep t :=
 ⟨S.toSx.keep k,S.el,S.nd⟩
theorem loop_tx (W:WalksS P w A.in1 I fp wr G n Pv St) (S:Addr) (hS:S ∉ fp) (val:Nat->Str) (hval:∀ i v,Pv i v->∃ t,v = .str (val i) t) (hb:n+1<scanBound) :
 ∀ (m i:Nat) (s:Shared) (es:Es) (ep:Nat) (t:SetTable),n - i=m->i<=n->St i s->Tx P w s.heap S es ep t->(∀ x,x ∈ keys es↔∃ j,j<i/\val j=x)->es.size<=i ->
   (∀ s' es' ep' t',Moved (S::wr) G s s'->Tx P w s'.heap S es' ep' t'->(∀ x,x ∈ keys es'↔∃ j,j<n/\val j=x)->R (.ok (.ret .none)) s') ->
   codeAny (model P w) A (.builtin "set.update.loop" ⟨[.ref S,.ref I],[]⟩) R s:=by
 have nw:S ∉ wr:=fun z=>hS (W.sub _ z)
 have up:∀ b ∈ wr,b ∈ S::wr:=fun b z=>List.mem_cons_of_mem _ z
 intro m
 induction m with
 | zero =>
   intro i s es ep t hm hi st T hk _ k
   obtain rfl:i=n:=by omega
   refine codeAny_builtin F.entry_set_update_loop ?_
   rw [Around.under_plainId F.plain_set_update_loop _]
   refine wpAny_bind (W.done s _ _ st fun s' mv=>wpAny_pure ?_)
   exact k s' es ep t (mv.mono up) (T.keep fun o e=>mv.heap S o nw e) hk
 | succ m ih =>
   intro i s es ep t hm hi st T hk hz k
   have hlt:i<n:=by omega
   refine codeAny_builtin F.entry_set_update_loop ?_
   rw [Around.under_plainId F.plain_set_update_loop _]
   refine wpAny_bind (W.item i s _ _ hlt st fun v s' pv st' mv=>?_)
   obtain ⟨tk,rfl⟩:=hval i v pv
   have T1:Tx P w s'.heap S es ep t:=T.keep fun o e=>mv.heap S o nw e
   refine wpAny_bind (m:=holding [Value.str (val i) tk] (setAdd S (.str (val i) tk))) (wpAny_holding ?_)
   unfold setAdd
   refine wpAny_holding (wpAny_bind ((PySem.strKind P w).pyHash (k:=val i) (by show Value.isStrOf (val i) (.str (val i) tk)=true;simp [Value.isStrOf]) ?_))
   refine Tx.add (s:={ s' with toks:=s'.toks+1 }) (x:=val i) T1 (by omega) fun b h' es' ep' t' sb T2 hk' hz'=>?_
   refine wpAny_pure ⟨plainId_quiet F.plain_set_update_loop _,ih (i+1) _ es' ep' t' (by omega) hlt (W.frame _ s' _ _ st' (Nat.le_succ _) fun b hb o e=>?_) T2 (fun x=>?_) (by omega) fun s'' e2 p2 t2 mv2 T3 hk3=>?_⟩
   ·rw [sb.2 b (fun z:b=S=>hS (z ▸ hb))]
    exact e
   ·rw [hk',hk]
    constructor
    ·rintro (⟨j,h1,h2⟩ | rfl)
     ·exact ⟨j,by omega,h2⟩
     ·exact ⟨i,by omega,rfl⟩
    ·rintro ⟨j,h1,h2⟩
     by_cases hj:j=i
     ·subst hj
      exact .inr h2.symm
     ·exact .inl ⟨j,by omega,h2⟩
   ·refine k s'' e2 p2 t2 (.trans W.gtrans ((mv.mono up).then_heap (Nat.le_succ _) fun b o hb e=>?_) mv2) T3 hk3
    rw [sb.2 b (fun z:b=S=>hb (z ▸ List.mem_cons_self))]
    exact e
end
section
variable {P : Program} {w : World} {A : Around} {E : Value → Shared → Prop} {s : Shared}
abbrev eObj (w:World):Obj:={ cls := .type "set", dict:=none,data := .set #[] 0 (.fresh 0 0 (!byT w)) }
theorem tx_nil {h:Heap} {a:Addr} (e:h.get? a=some (eObj w)):Tx P w h a #[] 0 (.fresh 0 0 (!byT w)) :=
 ⟨⟨⟨_,e,⟨rfl,rfl,rfl⟩,rfl⟩,by decide,rfl,rfl,fun z=>absurd z (by decide)⟩,fun _ z=>by simp at z,by simp [keys]⟩
theorem set_new (v:Value) {Q:Value->Shared->Prop} (h:Q (.ref s.heap.objs.size) { s with heap:=s.heap.push (eObj w) }) :
 codeAny (model P w) A (.call (.builtin "set.__new__") ⟨[.type "set", v],[]⟩) (wants Q E) s:=by
 refine codeAny_of_tree ?_
 refine wpAny_bind (m:=checkBuiltinCall "set.__new__" ⟨[.type "set", v],[]⟩) (wpAny_of_eq (F.newCall_set_1 v) (wpAny_pure ⟨plainId_quiet F.plain_set_new _,codeAny_builtin F.entry_set_new ?_⟩))
 rw [Around.under_plainId F.plain_set_new _]
 unfold Builtin.«set.__new__» Builtin.Frozenset.newClass
 have hsub:=sub_set_self
 obtain ⟨hp,g,d,tk,os⟩:=s
 dsimp only
 wp_walk
 refine wpAny_askSetting (wpAny_pure ?_)
 dsimp only
 simp only [newObj]
 refine wpAny_bind (wpAny_alloc (wpAny_pure ?_))
 exact wpAny_pure h
end
end SX
namespace SX
open PySem PySem.Spec PyProof.Rows
section
variable {P : Program} {w : World} {A : Around} {E : Value → Shared → Prop} {s : Shared}
abbrev Ext (h h':Heap):Prop:=∀ b o,h.get? b=some o->h'.get? b=some o
def Src (P:Program) (w:World) (h:Heap) (v:Value) (n:Nat) (Pv:Nat->Value->Prop):Prop :=
 ∀ (A:Around) (E:Value->Shared->Prop) (s₁:Shared) (Q:Value->Shared->Prop),A.handled=none->Ext h s₁.heap ->
   (∀ I h' fp St,(∀ A':Around,A'.handled=none->Walks P w A' I fp [I] n Pv St)->St 0 h'->Ext s₁.heap h'->(∀ b ∈ fp,b<h.objs.size\/s₁.heap.objs.size<=b)->s₁.heap.objs.size<=I->Q (.ref I) { s₁ with heap:=h' }) ->
   wpAny (model P w) A (pyIter v) Q E s₁
theorem call_setT {v:Value} {T:String} {n:Nat} {Pv:Nat->Value->Prop} {val:Nat->Str} {Q:Value->Shared->Prop} (hh:A.handled=none) (hT:∀ s₁:Shared,Ext s.heap s₁.heap->s₁.TypeIs v T)
 (h1:isSubtype (.type T) (.type "set")=pure false) (h2:isSubtype (.type T) (.type "frozenset")=pure false) (h3:(Value.type T == Value.type "dict")=false) (src:Src P w s.heap v n Pv)
 (hval:∀ i v,Pv i v->∃ t,v = .str (val i) t) (hb:n+1<scanBound)
 (k:∀ h' tk es ep t,Tx P w h' s.heap.objs.size es ep t->(∀ x,x ∈ keys es↔∃ j,j<n/\val j=x)->Ext s.heap h'->Q (.ref s.heap.objs.size) { s with heap:=h',toks:=tk }) :
 wpAny (model P w) A (call (.type "set") [v]) Q E s:=by
 obtain ⟨c,tl,hmro⟩:=F.called_set.mro
 have hmade:=F.called_set.made
 have hsub:=F.called_set.sub
 refine wpAny_call (codeAny_of_tree ?_)
 show wpAny _ _ (callAny (.type "set") _) _ _ _
 refine wpAny_pure ⟨Code.quiet_builtin _ (by decide +kernel),codeAny_builtin F.entry_type_call ?_⟩
 rw [Around.under_plain (weight_type_call_type "set" [v] []) rfl]
 have c1:=F.called_set.notType
 have c2:=F.called_set.canCreate
 have c3:=F.typeCall_set_1 v
 repeat (any_goals (first | assumption | wp_step))
 refine codeAny_mono (set_new v (E:=E) (Q:=fun r s₁=>r = .ref s.heap.objs.size/\s₁ = { s with heap:=s.heap.push (eObj w) }) ⟨rfl,rfl⟩) fun r s₁ hr=>?_
 cases r with
 | error e=>exact hr
 | ok fl =>
   cases fl with
   | ret obj =>
     obtain ⟨rfl,rfl⟩:=hr
     have eS:(s.heap.push (eObj w)).get? s.heap.objs.size=some (eObj w):=Heap.get?_push_size _ rfl
     have hS:Shared.TypeIs { s with heap:=s.heap.push (eObj w) } (.ref s.heap.objs.size) "set" := ⟨_,eS,rfl⟩
     have c4:=F.called_set.init.lookup
     have c5:=F.called_set.init.bind (.ref s.heap.objs.size)
     repeat (any_goals (first | assumption | wp_step))
     refine codeAny_mono (codeAny_call_builtin (R:=wants (fun r s₂=>r = .none/\∃ h' tk es ep t,s₂ = { s with heap:=h',toks:=tk }/\Tx P w h' s.heap.objs.size es ep t/\(∀ x,x ∈ keys es↔∃ j,j<n/\val j=x)/\Ext s.heap h') E) F.called_set.init.plain F.entry_set_init (check_set_init_1 hS ?_)) fun r₂ s₂ hr₂=>?_
     ·have e0:Ext s.heap (s.heap.push (eObj w)):=fun b o e=>Heap.get?_push_of_some _ e
      have hTv:=hT { s with heap:=s.heap.push (eObj w) } e0
      unfold Builtin.«set.__init__» noKeywords Builtin.Frozenset.updateFrom
      generalize hPI:pyIter=PI
      wp_walk
      subst hPI
      have lt0:s.heap.objs.size<(s.heap.push (eObj w)).objs.size:=by rw [Heap.size_push];exact Nat.lt_succ_self _
      refine src _ _ _ _ (by simpa using hh) e0 fun I h' fp St W st ex fpb hI=>?_
      refine wpAny_bind (wpAny_runValue ?_)
      have nS:s.heap.objs.size ∉ fp:=fun z=>by
       rcases fpb _ z with y | y
       ·exact Nat.lt_irrefl _ y
       ·exact absurd lt0 (Nat.not_lt.mpr y)
      refine loop_tx (W _ (by simpa using hh)).toS s.heap.objs.size nS val hval hb n 0 _ #[] 0 _ rfl (Nat.zero_le _) st (tx_nil (ex _ _ eS)) (fun x=>by simp [keys]) (Nat.le_refl _) fun s' es ep t mv T hk=>?_
      obtain ⟨h2,g2,d2,tk2,os2⟩:=s'
      obtain rfl:g2=s.gens:=mv.gens
      obtain rfl:d2=s.drawn:=mv.drawn
      obtain rfl:os2=s.os:=mv.os
      show wpAny _ _ _ _ _ _
      refine wpAny_pure (wpAny_pure ⟨rfl,h2,tk2,es,ep,t,rfl,T,hk,fun b o e=>mv.heap b o (fun z=>?_) (ex b o (e0 b o e))⟩)
      have hbl:=Heap.lt_size e
      rcases List.mem_cons.mp z with z | z
      ·exact Nat.ne_of_lt hbl z
      ·rw [List.mem_singleton.mp z] at hbl
       exact absurd hbl (Nat.not_lt.mpr (Nat.le_trans (Nat.le_of_lt lt0) hI))
     ·cases r₂ with
      | error e=>exact hr₂
      | ok fl₂ =>
        cases fl₂ with
        | ret r =>
          obtain ⟨rfl,h',tk,es,ep,t,rfl,T,hk,ex⟩:=hr₂
          repeat (any_goals (first | assumption | wp_step))
          exact k _ _ _ _ _ T hk ex
        | _=>exact hr₂.elim
   | _=>exact hr.elim
end
end SX
namespace SX
open PySem PySem.Spec PyProof.Rows
theorem nx_slot:Slot "set_iterator" "__next__" "set_iterator.__next__" := by
 refine Slot.of (owner := "set_iterator") (n := "__next__") ?_ (by decide +kernel) (by decide +kernel) (by decide +kernel) ?_ ?_
 ·rw [typeLookup_type,builtinLookup_eq_fast]
  kernel_rfl
 ·first
   | exact .inl (by decide +kernel)
   | exact .inr (by decide +kernel)
 ·rw [isSubtype_type]
  kernel_rfl
theorem it_slot:Slot "set_iterator" "__iter__" "set_iterator.__iter__" := by
 refine Slot.of (owner := "set_iterator") (n := "__iter__") ?_ (by decide +kernel) (by decide +kernel) (by decide +kernel) ?_ ?_
 ·rw [typeLookup_type,builtinLookup_eq_fast]
  kernel_rfl
 ·first
   | exact .inl (by decide +kernel)
   | exact .inr (by decide +kernel)
 ·rw [isSubtype_type]
  kernel_rfl
theorem nx_entry:entryFor table "set_iterator.__next__" = some Builtin.«set_iterator.__next__»:=by
 refine entryFor_of_tree ?_
 kernel_rfl
theorem it_entry:entryFor table "set_iterator.__iter__" = some Builtin.«dict_keyiterator.__iter__»:=by
 refine entryFor_alias (id' := "dict_keyiterator.__iter__") ?_ rfl ?_ ?_
 ·kernel_rfl
 ·decide +kernel
 ·kernel_rfl
theorem set_iter_entry:entryFor table "set.__iter__" = some Builtin.«frozenset.__iter__»:=by
 refine entryFor_alias (id' := "frozenset.__iter__") ?_ rfl ?_ ?_
 ·kernel_rfl
 ·decide +kernel
 ·kernel_rfl
theorem owner_it:Manifest.owners.lookup (String.ofList ['r','o','t','a','r','e','t','i','_','t','e','s'].reverse)=some Manifest.sig_set_iterator:=by kernel_rfl
theorem nx_args (a:Value):argsOk "set_iterator.__next__" ⟨[a],[]⟩:=by
 unfold argsOk
 rw [signature?_of (id := "set_iterator.__next__") (n := ['_','_','t','x','e','n','_','_']) (o := ['r','o','t','a','r','e','t','i','_','t','e','s']) (by kernel_rfl) owner_it]
 kernel_rfl
theorem it_args (a:Value):argsOk "set_iterator.__iter__" ⟨[a],[]⟩:=by
 unfold argsOk
 rw [signature?_of (id := "set_iterator.__iter__") (n := ['_','_','r','e','t','i','_','_']) (o := ['r','o','t','a','r','e','t','i','_','t','e','s']) (by kernel_rfl) owner_it]
 kernel_rfl
theorem cons_erase {α:Type}:∀ {l:List α} {i:Nat} (h:i<l.length),(l[i]::l.eraseIdx i).Perm l
 | [],_,h=>absurd h (Nat.not_lt_zero _)
 | x::l,0,_ => .refl _
 | x::l,i+1,h=>(List.Perm.swap x _ _).trans ((cons_erase (l:=l) (i:=i) (Nat.lt_of_succ_lt_succ h)).cons x)
theorem pick_go {α:Type} (f:Nat->Nat):∀ (m k:Nat) (l:List α) (out:Array α),l.length=m->(pickOrder.go f m k l out).toList.Perm (out.toList++l)
 | 0,k,l,out,h=>by
   obtain rfl:l = []:=by cases l with | nil=>rfl | cons _ _=>simp at h
   simp [pickOrder.go]
 | m+1,k,l,out,h=>by
   have hi:f k % l.length<l.length:=Nat.mod_lt _ (by omega)
   unfold pickOrder.go
   rw [List.getElem?_eq_getElem hi]
   refine (pick_go f m (k+1) (l.eraseIdx (f k % l.length)) (out.push l[f k % l.length]) (by rw [List.length_eraseIdx];simp [hi];omega)).trans ?_
   rw [Array.toList_push,List.append_assoc]
   refine List.Perm.append_left _ ?_
   exact cons_erase hi
theorem pick_perm {α:Type} (f:Nat->Nat) (xs:Array α):(pickOrder f xs).toList.Perm xs.toList:=by
 simpa [pickOrder] using pick_go f xs.size 0 xs.toList #[] (by simp)
end SX
namespace SX
open PySem PySem.Spec PyProof.Rows
section
variable {P : Program} {w : World} {A : Around} {E : Value → Shared → Prop} {s : Shared} {α : Type}
theorem wp_choose {src:Source} {n:Nat} {Q:Nat->Shared->Prop} (hn:n ≠ 0) (h:∀ i d,i<n->Q i { s with drawn:=d }):wpAny (model P w) A (choose src n) Q E s:=fun Γ p _ =>
 ⟨hn,h _ _ (Nat.mod_lt _ (Nat.pos_of_ne_zero hn))⟩
theorem wp_draw:∀ (m:Nat) (xs:List α) (s:Shared) (Q:List α->Shared->Prop),xs.length=m->(∀ ys d,ys.Perm xs->Q ys { s with drawn:=d })->wpAny (model P w) A (drawOrder m xs) Q E s
 | 0,xs,s,Q,e,h=>by
   obtain rfl:xs = []:=List.length_eq_zero_iff.mp e
   exact wpAny_pure (h [] s.drawn .nil)
 | m+1,[],s,Q,e,h=>by cases e
 | m+1,x::xs,s,Q,e,h=>by
   unfold drawOrder
   refine wpAny_bind (wp_choose (by simp) fun i d hi=>?_)
   rw [List.getElem?_eq_getElem hi]
   refine wpAny_bind (wp_draw m _ _ _ (by rw [List.length_eraseIdx,if_pos hi];simpa using e) fun ys d2 hp=>?_)
   exact wpAny_pure (h _ d2 ((hp.cons _).trans (cons_erase hi)))
theorem wp_f {c:Prop} [Decidable c] {a b:Sem α} {Q:α->Shared->Prop} (hc:¬ c) (h:wpAny (model P w) A b Q E s):wpAny (model P w) A (if c then a else b) Q E s:=by
 rw [if_neg hc]
 exact h
theorem wp_t {c:Prop} [Decidable c] {a b:Sem α} {Q:α->Shared->Prop} (hc:c) (h:wpAny (model P w) A a Q E s):wpAny (model P w) A (if c then a else b) Q E s:=by
 rw [if_pos hc]
 exact h
theorem wp_byT {Q:Bool->Shared->Prop} (h:Q (byT w) s):wpAny (model P w) A setsByText Q E s:=by
 unfold setsByText
 exact wpAny_bind (wpAny_askSetting (wpAny_pure h))
theorem Sx.state {a:Addr} {es:Es} {ep:Nat} {t:SetTable} {Q:(Es × Nat × SetTable)->Shared->Prop} (S:Sx w s.heap a es ep t) (h:Q (es,ep,t) s):wpAny (model P w) A (setState a) Q E s :=
 let ⟨_,ho,_,hd⟩:=S.at_
 wpAny_setState_of ho hd S.fit h
theorem Sx.entries {a:Addr} {es:Es} {ep:Nat} {t:SetTable} {Q:Es->Shared->Prop} (S:Sx w s.heap a es ep t) (h:Q es s):wpAny (model P w) A (setEntries a) Q E s :=
 let ⟨_,ho,_,hd⟩:=S.at_
 wpAny_setEntries_of ho hd S.fit h
theorem Sx.epoch {a:Addr} {es:Es} {ep:Nat} {t:SetTable} {Q:Nat->Shared->Prop} (S:Sx w s.heap a es ep t) (h:Q ep s):wpAny (model P w) A (setEpoch a) Q E s :=
 let ⟨_,ho,_,hd⟩:=S.at_
 wpAny_setEpoch_of ho hd S.fit h
abbrev itO (first:Value) (i:Nat) (S:Addr) (n ep:Nat):Obj:={ cls := .type "set_iterator", dict:=none,data := .fields #[first,.int i 0,.ref S,.int n 0,.int ep 0],slots:=#[] }
theorem wp_stop {Z:α->Shared->Prop} {R:Option Value->Shared->Prop} (hh:A.handled=none) (h:∀ h',Ext s.heap h'->R none { s with heap:=h' }) :
 wpAny (model P w) A.in1 (do raiseNew (<- newExc (.type "StopIteration") [])) Z (fun e s₁=>wpAny (model P w) A (do if <- isInstance e (.type "StopIteration") then pure none else throw e) R E s₁) s:=by
 refine wpAny_bind ?_
 simp only [newExc,newTuple]
 refine wpAny_bind (wpAny_newObj_type ?_ (by size_fits))
 refine wpAny_bind (m:=firstArgMember _ _) (wpAny_of_eq (a:=Value.none) (by first | rfl | (simp only [firstArgMember];rfl)) ?_)
 refine wpAny_newObj_type ?_ (by size_fits)
 simp only [raiseNew]
 refine wpAny_bind (wpAny_handled ?_)
 rw [show A.in1.handled=none from hh]
 refine wpAny_bind (wpAny_pure (wpAny_throw ?_))
 refine wpAny_bind (wpAny_isInstance (T := "StopIteration") (b:=true) ⟨_,Heap.get?_push_size _ rfl,rfl⟩ isSubtype_stop ?_)
 exact wpAny_pure (h _ fun b o e=>Heap.get?_push_of_some _ (Heap.get?_push_of_some _ e))
end
end SX
namespace SX
open PySem PySem.Spec PyProof.Rows
section
variable {P : Program} {w : World} {A : Around} {E : Value → Shared → Prop} {s : Shared} {it S : Addr} {es : Es} {ep : Nat} {t : SetTable}
theorem nxt_num {first:Value} {sl:Nat} {i:Nat} {R:Option Value->Shared->Prop} (hf:first = .int sl 0) (ho:s.heap.get? it=some (itO first i S es.size ep)) (T:Sx w s.heap S es ep t)
 (h:wpAny (model P w) A.in1 (setNext S sl i ep) (fun r s₁=>s₁=s/\match r with
  | some (x,nx)=>∀ h',h'.get? it=some (itO (.int nx 0) (i+1) S es.size ep)->Heap.SameBut it s.heap h'->R (some x) { s with heap:=h' }
  | none=>∀ h',(∀ b o,b ≠ it->s.heap.get? b=some o->h'.get? b=some o)->R none { s with heap:=h' }) (fun _ _=>False) s) (hh:A.handled=none):wpAny (model P w) A (pyNext (.ref it)) R E s:=by
 subst hf
 have hT:s.TypeIs (.ref it) "set_iterator" := ⟨_,ho,rfl⟩
 unfold pyNext
 refine wpAny_bind (wpAny_attempt (wpAny_callSpecial?_slot (name:=Str.ofString "__next__") hT nx_slot (wpAny_call_entry nx_slot hT nx_entry ?_ (nx_args _))))
 unfold Builtin.«set_iterator.__next__»
 refine wpAny_bind (wpAny_pure ?_)
 refine wpAny_bind (wpAny_fieldsOf ho rfl ?_)
 refine wpAny_bind (T.entries ?_)
 refine wp_f (by simp) ?_
 refine wpAny_bind (wpAny_mono h (fun r s₁ q=>?_) fun _ _ z=>z.elim)
 obtain ⟨rfl,q⟩:=q
 match r,q with
 | some (x,nx),q =>
   refine wpAny_bind (wpAny_setField_rec ho (by simp) fun h1 e1 b1=>?_)
   refine wpAny_bind (wpAny_setField_rec (s:={ s₁ with heap:=h1 }) e1 (by simp) fun h2 e2 b2=>?_)
   refine wpAny_pure ⟨x,rfl,wpAny_pure (q h2 ?_ (b1.trans b2))⟩
   exact e2
 | none,q =>
   refine wpAny_bind (wpAny_setField_rec ho (by simp) fun h1 e1 b1=>?_)
   exact wp_stop (s:={ s₁ with heap:=h1 }) hh fun h' ex=>q h' fun b o n e=>ex b o ((b1.2 b n).trans e)
end
end SX
namespace SX
open PySem PySem.Spec PyProof.Rows
section
variable {P : Program} {w : World} {A : Around} {E : Value → Shared → Prop} {s : Shared} {it S : Addr} {es : Es} {ep : Nat} {t : SetTable}
theorem num_A {sl i:Nat} {Q:Option (Value × Nat)->Shared->Prop} (hb:byT w=true) (T:Sx w s.heap S es ep t) (h:Q (((pickOrder (w.params.setOrder S ep) es)[i]?).map fun e=>(e.2,sl)) s):wpAny (model P w) A (setNext S sl i ep) Q E s:=by
 unfold setNext
 refine wpAny_bind (T.state ?_)
 refine wpAny_bind (wp_byT ?_)
 rw [hb]
 refine wp_t rfl ?_
 refine wp_f (by simp) ?_
 refine wpAny_bind ?_
 unfold setWalk
 refine wpAny_bind (T.state ?_)
 refine wpAny_bind (wp_byT ?_)
 rw [hb]
 refine wp_t rfl ?_
 exact wpAny_bind (wpAny_askSetting (wpAny_pure (wpAny_pure h)))
theorem num_C {sl i:Nat} {Q:Option (Value × Nat)->Shared->Prop} (hb:byT w=false) (hz:es.size<=1) (T:Sx w s.heap S es ep t) (h:Q (match es[SetTable.below t.place sl]?,t.place[SetTable.below t.place sl]? with
 | some (_,x),some j=>some (x,j+1)
 | _,_=>none) s):wpAny (model P w) A (setNext S sl i ep) Q E s:=by
 unfold setNext
 refine wpAny_bind (T.state ?_)
 refine wpAny_bind (wp_byT ?_)
 rw [hb]
 refine wp_f (by decide) ?_
 refine wp_f (show ¬ ((!t.plain && decide (es.size > 1))=true) by simp;omega) ?_
 refine wpAny_bind (m:=if (!t.led && !es.isEmpty)=true then unsupported "set:maker-not-led" else pure ()) (wp_f (by rw [T.led,hb];simp) (wpAny_pure ?_))
 exact wpAny_pure h
theorem nxt_tup {Tp:Addr} {pls:List Value} {c:Nat} {i:Nat} {R:Option Value->Shared->Prop} (ho:s.heap.get? it=some (itO (.ref Tp) i S es.size ep)) (hp:s.heap.get? Tp=some { cls := .type "tuple", data := .seq pls.toArray c }) (T:Sx w s.heap S es ep t)
 (h:match pls[i]? with
  | some v=>∃ (j:Nat) (e:Int × Value),v = .int j 0/\es[j]? = some e/\∀ h',h'.get? it=some (itO (.ref Tp) (i+1) S es.size ep)->Heap.SameBut it s.heap h'->R (some e.2) { s with heap:=h' }
  | none=>∀ h',(∀ b o,b ≠ it->s.heap.get? b=some o->h'.get? b=some o)->R none { s with heap:=h' }) (hh:A.handled=none):wpAny (model P w) A (pyNext (.ref it)) R E s:=by
 have hT:s.TypeIs (.ref it) "set_iterator" := ⟨_,ho,rfl⟩
 unfold pyNext
 refine wpAny_bind (wpAny_attempt (wpAny_callSpecial?_slot (name:=Str.ofString "__next__") hT nx_slot (wpAny_call_entry nx_slot hT nx_entry ?_ (nx_args _))))
 unfold Builtin.«set_iterator.__next__»
 refine wpAny_bind (wpAny_pure ?_)
 refine wpAny_bind (wpAny_fieldsOf ho rfl ?_)
 refine wpAny_bind (T.entries ?_)
 refine wp_f (by simp) ?_
 refine wpAny_bind (wpAny_seqItems hp rfl ?_)
 have ea:(pls.toArray)[(i:Int).toNat]? = pls[i]?:=by simp
 dsimp only
 rw [ea]
 cases hv:pls[i]? with
 | some v =>
   rw [hv] at h
   obtain ⟨j,e,rfl,he,h⟩:=h
   dsimp only
   refine wpAny_bind ?_
   unfold setNextDrawn
   refine wpAny_bind (T.state ?_)
   refine wp_f (by simp) ?_
   have ej:es[(j:Int).toNat]? = some e:=by simpa using he
   rw [ej]
   refine wpAny_pure ?_
   refine wpAny_bind (wpAny_setField_rec ho (by simp) fun h1 e1 b1=>?_)
   exact wpAny_pure ⟨_,rfl,wpAny_pure (h h1 e1 b1)⟩
 | none =>
   rw [hv] at h
   dsimp only
   refine wpAny_bind (wpAny_setField_rec ho (by simp) fun h1 e1 b1=>?_)
   refine wpAny_bind (wpAny_setField_rec (s:={ s with heap:=h1 }) e1 (by simp) fun h2 e2 b2=>?_)
   exact wp_stop (s:={ s with heap:=h2 }) hh fun h' ex=>h h' fun b o n e=>ex b o ((b2.2 b n).trans ((b1.2 b n).trans e))
theorem it_self {first:Value} {i n:Nat} {Q:Value->Shared->Prop} (ho:s.heap.get? it=some (itO first i S n ep)) (h:Q (.ref it) s):wpAny (model P w) A (pyIter (.ref it)) Q E s:=by
 have hT:s.TypeIs (.ref it) "set_iterator" := ⟨_,ho,rfl⟩
 refine wpAny_pyIter_slot hT it_slot (wpAny_call_entry it_slot hT it_entry ?_ (it_args _))
 exact wpAny_pure ⟨_,rfl, "set_iterator", _,hT,nx_slot.lookup,h⟩
end
end SX
namespace SX
open PySem PySem.Spec PyProof.Rows
section
variable {P : Program} {w : World} {A : Around} {E : Value → Shared → Prop} {s : Shared} {it S : Addr} {es : Es} {ep : Nat} {t : SetTable}
def ordP (ord:List (Int × Value)):Nat->Value->Prop:=fun i v=>∃ e,ord[i]? = some e/\v=e.2
theorem walk_A (hh:A.handled=none) (hb:byT w=true) (ne:S ≠ it) :
 Walks P w A it [it,S] [it] (pickOrder (w.params.setOrder S ep) es).toList.length (ordP (pickOrder (w.params.setOrder S ep) es).toList) (fun i h=>(∃ sl:Nat,h.get? it=some (itO (.int sl 0) i S es.size ep))/\Sx w h S es ep t) where
 sub:=fun b z=>by simp at z;simp [z]
 frame:=fun i h h' st k=>⟨let ⟨sl,e⟩:=st.1; ⟨sl,k it (by simp) _ e⟩,st.2.keep fun o e=>k S (by simp) o e⟩
 item:=fun i s Q E hi st k=>by
  obtain ⟨⟨sl,ho⟩,T⟩:=st
  refine nxt_num rfl ho T (num_A hb T ⟨rfl,?_⟩) hh
  have hx:(pickOrder (w.params.setOrder S ep) es)[i]? = some ((pickOrder (w.params.setOrder S ep) es).toList[i]):=by
   rw [<- Array.getElem?_toList]
   exact List.getElem?_eq_getElem hi
  rw [hx]
  refine fun h' e' sb=>k _ h' s.toks ⟨_,List.getElem?_eq_getElem hi,rfl⟩ ⟨⟨sl,e'⟩,T.keep fun o e=>(sb.2 S ne).trans e⟩ fun b o nb e=>(sb.2 b (by simpa using nb)).trans e
 done:=fun s Q E st k=>by
  obtain ⟨⟨sl,ho⟩,T⟩:=st
  refine nxt_num rfl ho T (num_A hb T ⟨rfl,?_⟩) hh
  rw [show (pickOrder (w.params.setOrder S ep) es)[(pickOrder (w.params.setOrder S ep) es).toList.length]? = none by simp]
  exact fun h' kp=>k h' s.toks fun b o nb e=>kp b o (by simpa using nb) e
 self:=fun i s Q E st h=>it_self st.1.choose_spec h
theorem fm_map:∀ {js:List Nat},(∀ j ∈ js,j<es.size)->(js.filterMap fun j=>es[j]?)=js.map fun j=>es[j]?.getD (0,.none)
 | [],_=>rfl
 | j::js,hj=>by
   obtain ⟨e,h1⟩:∃ e,es[j]? = some e:=⟨_,Array.getElem?_eq_getElem (hj j (by simp))⟩
   rw [List.filterMap_cons_some h1,List.map_cons,h1,fm_map fun x z=>hj x (List.mem_cons_of_mem _ z)]
   rfl
theorem walk_B {Tp:Addr} {ord:List (Int × Value)} {js:List Nat} (hh:A.handled=none) (ne:S ≠ it) (nt:Tp ≠ it) (ho:ord=js.filterMap fun j=>es[j]?) (hj:∀ j ∈ js,j<es.size) :
 Walks P w A it [it,S,Tp] [it] ord.length (ordP ord) (fun i h=>h.get? it=some (itO (.ref Tp) i S es.size ep)/\Sx w h S es ep t/\h.get? Tp=some { cls := .type "tuple", data := .seq (js.map fun (j:Nat)=>Value.int j 0).toArray }) where
 sub:=fun b z=>by simp at z;simp [z]
 frame:=fun i h h' st k=>⟨k it (by simp) _ st.1,st.2.1.keep fun o e=>k S (by simp) o e,k Tp (by simp) _ st.2.2⟩
 item:=fun i s Q E hi st k=>by
  obtain ⟨hi1,T,ht⟩:=st
  have el:=ho.trans (fm_map hj)
  have hl:i<js.length:=by rw [el] at hi;simpa using hi
  obtain ⟨e,h1⟩:∃ e,es[js[i]]? = some e:=⟨_,Array.getElem?_eq_getElem (hj _ (List.getElem_mem hl))⟩
  refine nxt_tup hi1 ht T ?_ hh
  rw [List.getElem?_map,List.getElem?_eq_getElem hl]
  refine ⟨js[i],_,rfl,h1,fun h' e' sb=>k _ h' s.toks ⟨e,?_,rfl⟩ ⟨e',T.keep fun o e=>(sb.2 S ne).trans e,(sb.2 Tp nt).trans ht⟩ fun b o nb e=>(sb.2 b (by simpa using nb)).trans e⟩
  rw [el,List.getElem?_map,List.getElem?_eq_getElem hl]
  show some (es[js[i]]?.getD (0,.none))=_
  rw [h1]
  rfl
 done:=fun s Q E st k=>by
  obtain ⟨hi1,T,ht⟩:=st
  have el:ord.length=js.length:=by rw [ho.trans (fm_map hj)];simp
  refine nxt_tup hi1 ht T ?_ hh
  rw [List.getElem?_map,List.getElem?_eq_none (by omega)]
  exact fun h' kp=>k h' s.toks fun b o nb e=>kp b o (by simpa using nb) e
 self:=fun i s Q E st h=>it_self st.1 h
theorem below_one {p:Array Nat} {sl:Nat} (h:p.size=1):SetTable.below p sl=if p.getD 0 sl<sl then 1 else 0:=by
 unfold SetTable.below
 rw [h]
 unfold SetTable.below.go
 rw [if_pos (by omega)]
 show (if p.getD 0 sl<sl then SetTable.below.go p sl 0 1 1 else SetTable.below.go p sl 0 0 0)=_
 split <;> rfl
theorem walk_C (hh:A.handled=none) (hb:byT w=false) (hz:es.size<=1) (ne:S ≠ it) :
 Walks P w A it [it,S] [it] es.toList.length (ordP es.toList) (fun i h=>(∃ sl:Nat,(i=0->sl=0)/\(i=1->∃ j,t.place[0]? = some j/\sl=j+1)/\h.get? it=some (itO (.int sl 0) i S es.size ep))/\Sx w h S es ep t) where
 sub:=fun b z=>by simp at z;simp [z]
 frame:=fun i h h' st k=>⟨let ⟨sl,e0,e1,e⟩:=st.1; ⟨sl,e0,e1,k it (by simp) _ e⟩,st.2.keep fun o e=>k S (by simp) o e⟩
 item:=fun i s Q E hi st k=>by
  obtain ⟨⟨sl,h0,_,ho⟩,T⟩:=st
  have hi':i<es.size:=by simpa using hi
  obtain rfl:i=0:=by omega
  obtain rfl:=h0 rfl
  have f1:t.place.size=1:=by
   have:=T.fit
   simp only [SetTable.fits,Bool.and_eq_true,beq_iff_eq] at this
   omega
  have hbel:SetTable.below t.place 0=0:=by rw [below_one f1,if_neg (Nat.not_lt_zero _)]
  refine nxt_num rfl ho T (num_C hb hz T ⟨rfl,?_⟩) hh
  rw [hbel]
  have e1:es[0]? = some es[0]:=Array.getElem?_eq_getElem hi'
  have e2:t.place[0]? = some t.place[0]:=Array.getElem?_eq_getElem (by omega)
  rw [e1,e2]
  refine fun h' e' sb=>k _ h' s.toks ⟨es[0],by rw [Array.getElem?_toList];exact e1,rfl⟩ ⟨⟨t.place[0]+1,fun z=>by omega,fun _=>⟨_,e2,rfl⟩,e'⟩,T.keep fun o e=>(sb.2 S ne).trans e⟩ fun b o nb e=>(sb.2 b (by simpa using nb)).trans e
 done:=fun s Q E st k=>by
  obtain ⟨⟨sl,_,h1,ho⟩,T⟩:=st
  have f1:t.place.size=es.size:=by
   have:=T.fit
   simp only [SetTable.fits,Bool.and_eq_true,beq_iff_eq] at this
   omega
  refine nxt_num rfl ho T (num_C hb hz T ⟨rfl,?_⟩) hh
  have none':es[SetTable.below t.place sl]? = none:=by
   by_cases h:es.size=0
   ·exact Array.getElem?_eq_none (by omega)
   ·obtain ⟨j,e1,e2⟩:=h1 (by simp;omega)
    rw [below_one (by omega),Array.getD_eq_getD_getElem?,e1,e2]
    show es[if j<j+1 then 1 else 0]? = none
    rw [if_pos (Nat.lt_succ_self _)]
    exact Array.getElem?_eq_none (by omega)
  rw [none']
  exact fun h' kp=>k h' s.toks fun b o nb e=>kp b o (by simpa using nb) e
 self:=fun i s Q E st h=>it_self st.1.choose_spec.2.2 h
end
end SX
namespace SX
open PySem PySem.Spec PyProof.Rows
section
variable {P : Program} {w : World} {A : Around} {E : Value → Shared → Prop} {s : Shared} {it S : Addr} {es : Es} {ep : Nat} {t : SetTable}
theorem Sx.typ (T:Sx w s.heap S es ep t):s.TypeIs (.ref S) "set" := let ⟨_,ho,hx,_⟩:=T.at_; ⟨_,ho,hx.1⟩
theorem Sx.lts (T:Sx w s.heap S es ep t):S<s.heap.objs.size:=let ⟨_,ho,_⟩:=T.at_;Heap.lt_size ho
theorem wp_drawn {Q:Bool->Shared->Prop} (T:Sx w s.heap S es ep t) (h:Q (!byT w && decide (es.size > 1)) s):wpAny (model P w) A (setDrawn S) Q E s:=by
 unfold setDrawn
 refine wpAny_bind (T.state ?_)
 refine wpAny_bind (wp_byT ?_)
 have e:(!byT w && (!t.plain && decide (es.size > 1)))=(!byT w && decide (es.size > 1)):=by
  by_cases hz:1<es.size
  ·rw [T.pl hz];simp
  ·simp [hz]
 refine wpAny_pure ?_
 show Q (!byT w && (!t.plain && decide (es.size > 1))) s
 rw [e]
 exact h
theorem iter_set {Q:Value->Shared->Prop} (T:Sx w s.heap S es ep t)
 (k:∀ (it:Addr) (h':Heap) (d':Drawn) (ord:List (Int × Value)) (fp:List Addr) (St:Nat->Heap->Prop),ord.Perm es.toList->(∀ A':Around,A'.handled=none->Walks P w A' it fp [it] ord.length (ordP ord) St)->St 0 h'->Ext s.heap h'->(∀ b ∈ fp,b<s.heap.objs.size->b=S)->(∀ b ∈ fp,b<h'.objs.size)->s.heap.objs.size<=it->it ∈ fp->Q (.ref it) { s with heap:=h',drawn:=d' }) :
 wpAny (model P w) A (pyIter (.ref S)) Q E s:=by
 have hlt:=T.lts
 refine wpAny_pyIter_slot T.typ F.slot_set_iter (wpAny_call_entry F.slot_set_iter T.typ set_iter_entry ?_ (F.args_set_iter_1 _))
 unfold Builtin.«frozenset.__iter__»
 refine wpAny_bind (m:=Builtin.Frozenset.slot0 "__iter__" ⟨[.ref S],[]⟩) (wpAny_pure ?_)
 refine wpAny_bind (wpAny_bind (T.entries (wpAny_pure ?_)))
 refine wpAny_bind (wp_drawn T ?_)
 have sz:∀ (h:Heap) (o:Obj),(h.push o).objs.size=h.objs.size+1:=fun h o=>Heap.size_push ..
 cases hd:(!byT w && decide (es.size > 1)) with
 | true =>
   refine wp_t rfl ?_
   refine wpAny_bind (wp_draw es.size _ _ _ (by simp) fun js d hp=>?_)
   have hz:js.length<=sizeLine:=by
    have:=fits_of_scanBound T.lt
    rw [hp.length_eq,List.length_range]
    exact this
   refine wpAny_bind (wpAny_newTuple ?_ (by rw [List.length_map];exact hz))
   have T1:Sx w (s.heap.push { cls := .type "tuple", data := .seq (js.map fun (j:Nat)=>rawInt j).toArray }) S es ep t:=T.keep fun o e=>Heap.get?_push_of_some _ e
   refine wpAny_bind (Sx.epoch (s:={ s with heap:=s.heap.push { cls := .type "tuple", data := .seq (js.map fun (j:Nat)=>rawInt j).toArray },drawn:=d }) T1 ?_)
   refine wpAny_bind (wpAny_newObj_type (wpAny_pure ⟨_,rfl, "set_iterator", _,⟨_,Heap.get?_push_size _ rfl,rfl⟩,nx_slot.lookup,?_⟩))
   have hj:∀ j ∈ js,j<es.size:=fun j z=>List.mem_range.mp (hp.mem_iff.mp z)
   refine k _ _ d (js.filterMap fun j=>es[j]?) [(s.heap.push { cls := .type "tuple", data := .seq (js.map fun (j:Nat)=>rawInt j).toArray }).objs.size,S,s.heap.objs.size] _ ?_ (fun A' hA=>walk_B (t:=t) (ep:=ep) hA ?_ ?_ rfl hj) ⟨Heap.get?_push_size _ rfl,T1.keep fun o e=>Heap.get?_push_of_some _ e,Heap.get?_push_of_some _ (Heap.get?_push_size _ rfl)⟩ (fun b o e=>Heap.get?_push_of_some _ (Heap.get?_push_of_some _ e)) ?_ ?_ ?_ (by simp)
   ·refine (hp.filterMap _).trans ?_
    rw [filterMap_getElem?_range]
   ·rw [sz];exact Nat.ne_of_lt (Nat.lt_succ_of_lt hlt)
   ·rw [sz];exact Nat.ne_of_lt (Nat.lt_succ_self _)
   ·intro b hb hl
    rw [sz] at hb
    simp at hb
    rcases hb with rfl | rfl | rfl
    ·exact absurd hl (Nat.not_lt.mpr (Nat.le_succ _))
    ·rfl
    ·exact absurd hl (Nat.lt_irrefl _)
   ·intro b hb
    rw [sz] at hb
    rw [sz,sz]
    simp at hb
    rcases hb with rfl | rfl | rfl
    ·exact Nat.lt_succ_self _
    ·exact Nat.lt_succ_of_lt (Nat.lt_succ_of_lt hlt)
    ·exact Nat.lt_succ_of_lt (Nat.lt_succ_self _)
   ·rw [sz];exact Nat.le_succ _
 | false =>
   refine wp_f (by decide) (wpAny_bind (wpAny_pure ?_))
   refine wpAny_bind (T.epoch ?_)
   refine wpAny_bind (wpAny_newObj_type (wpAny_pure ⟨_,rfl, "set_iterator", _,⟨_,Heap.get?_push_size _ rfl,rfl⟩,nx_slot.lookup,?_⟩))
   have ne:S ≠ s.heap.objs.size:=Nat.ne_of_lt hlt
   have fpo:∀ b ∈ [s.heap.objs.size,S],b<s.heap.objs.size->b=S:=fun b hb hl=>by
    simp at hb
    rcases hb with rfl | rfl
    ·exact absurd hl (Nat.lt_irrefl _)
    ·rfl
   have fpl:∀ o:Obj,∀ b ∈ [s.heap.objs.size,S],b<(s.heap.push o).objs.size:=fun o b hb=>by
    rw [sz]
    simp at hb
    rcases hb with rfl | rfl
    ·exact Nat.lt_succ_self _
    ·exact Nat.lt_succ_of_lt hlt
   cases hb:byT w with
   | true =>
     exact k _ _ s.drawn _ [s.heap.objs.size,S] _ (pick_perm _ es) (fun A' hA=>walk_A (t:=t) hA hb ne) ⟨⟨0,Heap.get?_push_size _ rfl⟩,T.keep fun o e=>Heap.get?_push_of_some _ e⟩ (fun b o e=>Heap.get?_push_of_some _ e) fpo (fpl _) (Nat.le_refl _) (by simp)
   | false =>
     have hz:es.size<=1:=by rw [hb] at hd;simpa using hd
     exact k _ _ s.drawn es.toList [s.heap.objs.size,S] _ (.refl _) (fun A' hA=>walk_C (t:=t) (ep:=ep) hA hb hz ne) ⟨⟨0,fun _=>rfl,fun z=>absurd z (by decide),Heap.get?_push_size _ rfl⟩,T.keep fun o e=>Heap.get?_push_of_some _ e⟩ (fun b o e=>Heap.get?_push_of_some _ e) fpo (fpl _) (Nat.le_refl _) (by simp)
end
end SX
namespace SX
open PySem PySem.Spec PyProof.Rows
section
variable {P : Program} {w : World} {A : Around} {E : Value → Shared → Prop} {s : Shared} {it S : Addr} {es : Es} {ep : Nat} {t : SetTable}
abbrev lO (xs:Array Value) (c:Nat):Obj:={ cls := .type "list", dict:=none,data := .seq xs c,slots:=#[] }
theorem set_self:isSubtype (.type "set") (.type "set")=pure true:=by
 rw [isSubtype_type]
 kernel_rfl
theorem upd_at {a:Addr} {xs:Array Value} {c:Nat} (f:Array Value->Array Value) {Q:Unit->Shared->Prop} (ho:s.heap.get? a=some (lO xs c)) (hz:xs.size<=sizeLine) (hz2:(f xs).size<=sizeLine+1)
 (h:∀ h' c',h'.get? a=some (lO (f xs) c')->Heap.SameBut a s.heap h'->Q () { s with heap:=h' }):wpAny (model P w) A (Builtin.List.listUpdate (.ref a) f) Q E s :=
 listUpdate_at ho rfl (h _ _ (Heap.get?_update_self (Obj.mapSeq f) ho rfl) (.update ..)) hz hz2
theorem collect_set {Q:List Value->Shared->Prop} (hh:A.handled=none) (T:Sx w s.heap S es ep t)
 (k:∀ (h':Heap) (d':Drawn) (tk:Nat) (vs:List Value),Ext s.heap h'->vs.Perm (es.toList.map (·.2))->s.heap.objs.size<h'.objs.size->Q vs { s with heap:=h',drawn:=d',toks:=tk }):wpAny (model P w) A (collect (.ref S)) Q E s:=by
 have hlt:=T.lts
 unfold collect
 refine wpAny_bind (wpAny_runValue (codeAny_builtin F.entry_proto_collect ?_))
 rw [Around.under_plainId F.plain_proto_collect _]
 refine wpAny_bind (m:=newList []) (wpAny_newObj_type ?_)
 refine wpAny_pure ⟨plainId_quiet F.plain_list_iadd _,codeAny_builtin F.entry_list_iadd ?_⟩
 rw [Around.under_plainId F.plain_list_iadd _]
 have T1:Sx w (s.heap.push (lO #[] 0)) S es ep t:=T.keep fun o e=>Heap.get?_push_of_some _ e
 have eL:(s.heap.push (lO #[] 0)).get? s.heap.objs.size=some (lO #[] 0):=Heap.get?_push_size _ rfl
 have sz1:(s.heap.push (lO #[] 0)).objs.size=s.heap.objs.size+1:=Heap.size_push ..
 show wpAny _ A.in1 (Builtin.List.listExtendWith (.ref s.heap.objs.size) (.ref S) (.ref s.heap.objs.size)) _ _ { s with heap:=s.heap.push (lO #[] 0) }
 unfold Builtin.List.listExtendWith
 refine wpAny_bind (wpAny_typeOf (T1.typ (s:={ s with heap:=s.heap.push (lO #[] 0) })) ?_)
 have nsr:Builtin.List.listSameRef (.ref s.heap.objs.size) (.ref S)=false:=by
  show (s.heap.objs.size == S)=false
  exact beq_eq_false_iff_ne.mpr (Nat.ne_of_gt hlt)
 rw [nsr]
 refine wp_f (by decide) ?_
 refine wpAny_bind (iter_set (s:={ s with heap:=s.heap.push (lO #[] 0) }) T1 fun it h2 d2 ord fp St hp W st ex fpo fpl hit hmem=>?_)
 have T2:Sx w h2 S es ep t:=T1.keep fun o e=>ex _ o e
 have tS:Shared.TypeIs { s with heap:=h2,drawn:=d2 } (.ref S) "set" := T2.typ (s:={ s with heap:=h2,drawn:=d2 })
 refine wpAny_bind (wpAny_holding ?_)
 unfold Builtin.List.listLengthHint
 refine wpAny_bind (wpAny_specialOf tS F.slot_set_len.lookup ?_)
 generalize hid:("set.__len__" : String)=id0
 (fail_if_success (clear hid id0))
 wp_delta
 rw [show splitId id0=some ("set", "__len__") from by subst hid;decide +kernel]
 subst hid
 refine wpAny_bind (wpAny_isInstance (b:=true) tS set_self ?_)
 refine wp_f (by decide) ?_
 refine wp_t (by decide +kernel) ?_
 refine wpAny_bind (wpAny_typeOf tS ?_)
 refine wpAny_pure ?_
 refine wp_t (by decide +kernel) ?_
 refine wpAny_bind (wpAny_rule ?_)
 refine wpAny_bind ?_
 unfold Builtin.List.listTouch
 have h64:(0:Nat)<=sizeLine:=Nat.zero_le _
 have eL2:h2.get? s.heap.objs.size=some (lO #[] 0):=ex _ _ eL
 refine wpAny_bind (upd_at (s:={ s with heap:=h2,drawn:=d2 }) (·.push Value.none) eL2 h64 (by simp) fun h3 c3 e3 b3=>?_)
 refine upd_at (s:={ s with heap:=h3,drawn:=d2 }) (·.pop) e3 (by rw [sizeLine_eq];decide) (by simp) fun h4 c4 e4 b4=>?_
 have nLf:s.heap.objs.size ∉ fp:=fun z=>by
  have:=fpo _ z (by rw [sz1];exact Nat.lt_succ_self _)
  exact Nat.ne_of_gt hlt this
 have st4:St 0 h4:=(W A hh).frame 0 h2 h4 st fun b hb o e=>by
  have nb:b ≠ s.heap.objs.size:=fun z=>nLf (z ▸ hb)
  exact (b4.2 b nb).trans ((b3.2 b nb).trans e)
 have hn:ord.length<=sizeLine:=by
  rw [hp.length_eq,Array.length_toList]
  exact fits_of_scanBound T.lt
 refine wpAny_pure ⟨plainId_quiet F.plain_extend_loop _,codeAny_extend_loopS (W A.in1 (by simpa using hh)).toS hn _ nLf _ ord.length 0 { s with heap:=h4,drawn:=d2 } #[] c4 rfl (Nat.zero_le _) st4 e4 (ItemsOf.nil _) fun s' acc c mv eA hacc=>?_⟩
 refine wpAny_bind (wpAny_load eA (wpAny_pure ?_))
 obtain ⟨h5,g5,d5,tk5,os5⟩:=s'
 obtain rfl:g5=s.gens:=mv.gens
 obtain rfl:d5=d2:=mv.drawn
 obtain rfl:os5=s.os:=mv.os
 have ev:acc.toList=ord.map (·.2):=by
  refine List.ext_getElem? fun i=>?_
  rw [Array.getElem?_toList]
  by_cases hi:i<acc.size
  ·rw [Array.getElem?_eq_getElem hi]
   obtain ⟨e,h1,h2⟩:=hacc.2 i _ (Array.getElem?_eq_getElem hi)
   rw [List.getElem?_map,h1,h2]
   rfl
  ·rw [Array.getElem?_eq_none (by omega),List.getElem?_map,List.getElem?_eq_none (by have:=hacc.1;omega)]
   rfl
 refine k h5 d5 tk5 acc.toList (fun b o e=>mv.heap b o (fun z=>?_) ?_) (by rw [ev];exact hp.map _) (Heap.lt_size eA)
 ·have hbl:=Heap.lt_size e
  rcases List.mem_cons.mp z with z | z
  ·exact Nat.ne_of_lt hbl z
  ·rw [List.mem_singleton.mp z] at hbl
   have:s.heap.objs.size+1<=it:=by rw [<- sz1];exact hit
   exact absurd hbl (Nat.not_lt.mpr (Nat.le_of_succ_le this))
 ·have nb:b ≠ s.heap.objs.size:=Nat.ne_of_lt (Heap.lt_size e)
  exact (b4.2 b nb).trans ((b3.2 b nb).trans (ex b o (Heap.get?_push_of_some _ e)))
end
end SX
namespace SX
open PySem PySem.Spec PyProof.Rows
section
variable {P : Program} {w : World} {A : Around} {E : Value → Shared → Prop} {s : Shared} {it S : Addr} {es : Es} {ep : Nat} {t : SetTable}
theorem strs_of:∀ {vs:List Value},(∀ v ∈ vs,∃ x t,v = .str x t)->StrsAre vs (vs.map strOf)
 | [],_ => .nil
 | v::vs,h=>by
   obtain ⟨x,t,rfl⟩:=h v (by simp)
   exact .cons x t (strs_of fun u z=>h u (List.mem_cons_of_mem _ z))
theorem sorted_set {Q:Value->Shared->Prop} (hh:A.handled=none) (T:Tx P w s.heap S es ep t) (h64:es.size<64)
 (k:∀ (h':Heap) (d':Drawn) (tk:Nat) (out:Array Value) (c:Nat) (zs:List Str) (l:Addr),Ext s.heap h'->s.heap.objs.size<=l->h'.get? l=some (seqObj "list" out c)->StrsAre out.toList zs->zs.Perm (keys es)->sortedS zs=true->Q (.ref l) { s with heap:=h',drawn:=d',toks:=tk }) :
 wpAny (model P w) A (call (.builtin "sorted") [.ref S]) Q E s:=by
 refine Calls.call_function_entry kind_sorted plain_sorted entry_sorted (args_sorted1 _) ?_
 unfold Builtin.«sorted»
 refine wpAny_bind (m:=checkCount "sorted" 1 1 _) (wpAny_pure ?_)
 refine wpAny_bind (collect_set (by simpa using hh) T.toSx fun h' d' tk vs ex hp hl=>?_)
 have v64:vs.length<64:=by rw [hp.length_eq];simpa using h64
 refine wpAny_bind (wpAny_newList ?_ (by rw [sizeLine_eq];omega))
 have hS:StrsAre vs (vs.map strOf):=strs_of fun v z=>by
  obtain ⟨e,he,rfl⟩:=List.mem_map.mp (hp.mem_iff.mp z)
  obtain ⟨⟨x,hx,_⟩,_⟩:=T.el e he
  obtain ⟨u,hu⟩:=Value.isStrOf_shape hx
  exact ⟨x,u,hu⟩
 have eL:(h'.push (seqObj "list" vs.toArray 0)).get? h'.objs.size=some (seqObj "list" vs.toArray 0):=Heap.get?_push_size _ rfl
 refine wpAny_bind (wpAny_holding (wpAny_call_entry slot_list_sort ⟨_,eL,rfl⟩ entry_list_sort (list_sort_treeK (s:={ s with heap:=h'.push (seqObj "list" vs.toArray 0),drawn:=d',toks:=tk }) strKind_oneLt eL hS.keysOf (fun v₁ v₂ rest e=>keyKind_strs (by rw [<- e];exact hS)) v64 fun st' a1 a2=>⟨_,rfl,?_⟩) (args_list_sort _)))
 obtain ⟨zs,z1,z2,z3⟩:=sorted_out_str hS a1 a2
 obtain ⟨c,ec⟩:=sortedHeap_at (out:=(arrOf st').map (·.2)) eL
 refine wpAny_pure ⟨_,rfl,k _ d' tk _ c zs h'.objs.size (fun b o e=>?_) (Nat.le_of_lt hl) ec z1 ?_ z3⟩
 ·have eb:=ex b o e
  have nb:b ≠ h'.objs.size:=Nat.ne_of_lt (Heap.lt_size eb)
  show (sortedHeap (h'.push (seqObj "list" vs.toArray 0)) h'.objs.size vs _).get? b=_
  rw [sortedHeap_old nb (by rw [size_push'];exact Nat.lt_succ_of_lt (Heap.lt_size eb))]
  exact Heap.get?_push_of_some _ eb
 ·refine z2.trans ?_
  have:=hp.map strOf
  rw [List.map_map] at this
  exact this
end
end SX
namespace L3
open PySem PySem.Spec
open PyProof.Rows hiding St
open L2
open SX
theorem Inv.draw {X:Cx} {pins:List (Addr × Obj)} {σ:List (Option V)} {H:Hp} {s:Shared} (I:Inv X pins σ H s) (d:Drawn):Inv X pins σ H { s with drawn:=d } :=
 ⟨I.ok,I.os,I.bare,I.base,I.loc,I.cell,I.free,I.freeC,I.pin,I.hok,I.len⟩
def TxsV (K:PySem.W.Frag) (H:Hp) (v:V) (ys:List Str):Prop:=(∃ x:Str,v = .str x/\ys=x.cps.toList.map sg)\/∃ a,v = .ref a/\SqL K H a (ys.map V.str)
def tSS (K:PySem.W.Frag) (te:TE):TE:=fun σ H Q=>te σ H fun v H1=>∃ ys:List Str,TxsV K H1 v ys/\ys.length<64/\∀ (zs:List Str) p,zs.Nodup->(∀ k,k ∈ zs↔k ∈ ys)->sortedS zs=true->H1 p=none->Q (.ref p) (upd H1 p (.lst (zs.map V.str)))
theorem src_tx {P:Program} {w:World} {h:Heap} (x:Str) (tk:Tok):Src P w h (.str x tk) x.cps.size (SignAt x):=fun A E s₁ Q hh ex k=>by
 refine wpAny_pyIter_str fun o St W st=>?_
 refine k _ _ [s₁.heap.objs.size] St W st (fun b o e=>Heap.get?_push_of_some _ e) (fun b hb => .inr (by simp at hb;exact Nat.le_of_eq hb.symm)) (Nat.le_refl _)
theorem src_ls {P:Program} {w:World} {h:Heap} {l:Addr} {items:Array Value} (hl:h.IsList l items):Src P w h (.ref l) items.size (fun i v=>items[i]? = some v):=fun A E s₁ Q hh ex k=>by
 have hl1:s₁.heap.IsList l items:=hl.at fun o e=>ex l o e
 have lt:l<h.objs.size:=by obtain ⟨o,e,_⟩:=hl;exact Heap.lt_size e
 have lt1:l<s₁.heap.objs.size:=by obtain ⟨o,e,_⟩:=hl1;exact Heap.lt_size e
 refine wpAny_pyIter_list hl1 ?_
 refine k s₁.heap.objs.size _ [s₁.heap.objs.size,l] _ (fun A' hA=>Walks.list hA _ l (Nat.ne_of_lt lt1) items) ⟨⟨_,Heap.get?_push_size _ rfl,rfl,rfl⟩,hl1.push _⟩ (fun b o e=>Heap.get?_push_of_some _ e) (fun b hb=>?_) (Nat.le_refl _)
 simp at hb
 rcases hb with rfl | rfl
 ·exact .inr (Nat.le_refl _)
 ·exact .inl lt
theorem len_nodup {xs ys:List Str} (h:xs.Nodup) (hs:∀ k ∈ xs,k ∈ ys):xs.length<=ys.length:=by
 induction xs generalizing ys with
 | nil=>exact Nat.zero_le _
 | cons x xs ih =>
   have hx:x ∈ ys:=hs x (by simp)
   have h':=List.nodup_cons.mp h
   have:=ih (ys:=ys.erase x) h'.2 fun k hk=>(List.mem_erase_of_ne (fun z:k=x=>h'.1 (z ▸ hk))).mpr (hs k (List.mem_cons_of_mem _ hk))
   rw [List.length_erase_of_mem hx] at this
   have:0<ys.length:=List.length_pos_of_mem hx
   simp only [List.length_cons]
   omega
theorem pe_sortset {X:Cx} {e:Expr} {te:TE} {p1 p2 p3 p4:Pos} (hc:X.calm=true) (gl:Gl X "sorted") (ml:X.mg "sorted" = none) (gr:Gl X "set") (mr:X.mg "set" = none) (he:PE X e te)
 (s1:starEach [.Call (.Name "set" p2) [e] [] p3] X.env=(false,eval (.Call (.Name "set" p2) [e] [] p3) X.env)::starEach [] X.env:=by rfl) (s2:starEach [e] X.env=(false,eval e X.env)::starEach [] X.env:=by rfl) :
 PE X (.Call (.Name "sorted" p1) [.Call (.Name "set" p2) [e] [] p3] [] p4) (tSS X.K te):=by
 intro pins s σ H Q I h
 have calm:=I.ok.hd hc
 refine wpAny_Call_Name_kw (ld_blt I gl ml bt_sorted ?_)
 refine PyProof.Rows.callWith_builtin1 ?_ s1
 rw [s1]
 show wpAny _ _ (spliced ((false,eval (.Call (.Name "set" p2) [e] [] p3) X.env) :: [])) _ _ s
 refine Calls.spliced_cons ?_
 refine wpAny_Call_Name_kw (ld_blt I gr mr (u := .type "set") rfl ?_)
 refine PyProof.Rows.callWith_type1 ?_ s2
 rw [s2]
 show wpAny _ _ (spliced ((false,eval e X.env) :: [])) _ _ s
 refine Calls.spliced_cons (thn (he pins s σ H _ I h) fun u s' ⟨y,H1,I1,r1,ys,hy,hz,q⟩=>?_)
 refine Calls.spliced_nil ?_
 have fin:∀ (n:Nat) (val:Nat->Str) (h':Heap) (tk:Nat) (es:Es) (ep:Nat) (t:SetTable),(∀ k,(∃ j,j<n/\val j=k)↔k ∈ ys)->Tx X.prog X.w h' s'.heap.objs.size es ep t->(∀ x,x ∈ keys es↔∃ j,j<n/\val j=x)->Ext s'.heap h' ->
  wpAny (model X.prog X.w) X.A (spliced []) (fun a s₁=>wpAny (model X.prog X.w) X.A (call (.builtin "sorted") (Value.ref s'.heap.objs.size::a)) (EP X pins σ Q) X.xe s₁) X.xe { s' with heap:=h',toks:=tk }:=fun n val h' tk es ep t hv T hk ex=>by
  have mem:∀ k,k ∈ keys es↔k ∈ ys:=fun k=>(hk k).trans (hv k)
  have z64:es.size<64:=by
   have:=len_nodup T.nd (fun k hk=>(mem k).mp hk)
   simp [keys] at this
   omega
  refine Calls.spliced_nil ?_
  refine sorted_set (s:={ s' with heap:=h',toks:=tk }) calm T z64 fun h2 d2 tk2 out c zs l ex2 hl el st zp zs'=>?_
  have lt':s'.heap.objs.size<=l:=Nat.le_trans (Nat.le_of_lt (T.lts (s:={ s' with heap:=h',toks:=tk }))) hl
  have I2:=(Inv.draw (I1.laid (a:=l) (o := .lst (zs.map V.str)) (t':=tk2) (h':=h2) (fun b o e=>ex2 b o (ex b o e)) lt' ?_) d2)
  ·exact ⟨.ref l,_,I2,rfl,q zs l (zp.nodup_iff.mpr T.nd) (fun k=>by rw [zp.mem_iff];exact mem k) zs' (I1.hok.fresh lt')⟩
  ·refine ⟨?_,out.toList,c,vals_of_strs st,by simpa using el⟩
   rw [List.length_map,zp.length_eq]
   simp only [keys,List.length_map,Array.length_toList]
   exact fits_of_scanBound T.lt
 rcases hy with ⟨x,rfl,rfl⟩ | ⟨a,rfl,hq⟩
 ·obtain ⟨tk,rfl⟩:=r1
  have hn:x.cps.size<64:=by simpa using hz
  refine call_setT (T := "str") (val:=fun i=>sg (x.cps.getD i 0)) calm (fun _ _=>rfl) ?_ ?_ (by decide) (src_tx x tk) (fun i v hv=>?_) (by unfold scanBound;omega) fun h' tk' es ep t T hk ex=>fin x.cps.size _ h' tk' es ep t (fun k=>?_) T hk ex
  ·rw [isSubtype_type];kernel_rfl
  ·rw [isSubtype_type];kernel_rfl
  ·obtain ⟨c,u,hc,rfl⟩:=hv
   exact ⟨u,by rw [Array.getD_eq_getD_getElem?,hc];rfl⟩
  ·constructor
   ·rintro ⟨j,hj,rfl⟩
    exact List.mem_map.mpr ⟨x.cps[j],by simp,by simp [hj]⟩
   ·intro hk
    obtain ⟨c,hc,rfl⟩:=List.mem_map.mp hk
    obtain ⟨j,hj,e⟩:=List.getElem_of_mem hc
    have hj':j<x.cps.size:=by simpa using hj
    exact ⟨j,hj',by simp at e;simp [hj',e]⟩
 ·cases r1
  obtain ⟨its,rv,pl,hz2⟩:=I1.list hq
  have sa:=vals_str rv
  have ln:its.length=ys.length:=by have:=rv.length;simp at this;exact this.symm
  refine call_setT (T := "list") (val:=fun i=>ys.getD i (sg 0)) calm (fun s₁ ex=>?_) F.sub_list_set F.sub_list_frozenset (by decide) (src_ls pl.isList) (fun i v hv=>?_) (by unfold scanBound;simp;omega) fun h' tk' es ep t T hk ex=>fin _ _ h' tk' es ep t (fun k=>?_) T hk ex
  ·obtain ⟨o,e,c,_⟩:=pl.isList
   exact ⟨o,ex _ o e,c⟩
  ·have hv':its[i]? = some v:=by simpa using hv
   have hi:i<ys.length:=by
    obtain ⟨z,_⟩:=List.getElem?_eq_some_iff.mp hv'
    omega
   obtain ⟨u,hu,ru⟩:=rv.get (i:=i) (x:=V.str ys[i]) (by rw [List.getElem?_map,List.getElem?_eq_getElem hi];rfl)
   rw [hv'] at hu
   cases hu
   obtain ⟨u,rfl⟩:=ru
   exact ⟨u,by rw [List.getD_eq_getElem?_getD,List.getElem?_eq_getElem hi];rfl⟩
  ·have e:its.toArray.size=ys.length:=by simpa using ln
   rw [e]
   constructor
   ·rintro ⟨j,hj,rfl⟩
    rw [List.getD_eq_getElem?_getD,List.getElem?_eq_getElem hj]
    exact List.getElem_mem hj
   ·intro hk
    obtain ⟨j,hj,e⟩:=List.getElem_of_mem hk
    exact ⟨j,hj,by rw [List.getD_eq_getElem?_getD,List.getElem?_eq_getElem hj];exact e⟩
def TxsD (d:PyData) (ys:List Str):Prop:=(∃ x:Str,d = .str x/\ys=x.cps.toList.map sg)\/d = .list (ys.map .str)
def ssD (f:DE):DE:=fun ρ Q=>f ρ fun r=>∃ ys:List Str,TxsD r.d ys/\ys.length<64/\∀ zs:List Str,zs.Nodup->(∀ k,k ∈ zs↔k ∈ ys)->sortedS zs=true->Q (.n (zs.map .str))
theorem ed_ss {K:PySem.W.Frag} {O:Ob} {te:TE} {f:DE} (h:ED K O te f):ED K O (tSS K te) (ssD f):=fun σ H ρ Q Qd S hf k=>by
 refine h σ H ρ _ _ S hf fun v H1 r s1 o1 ⟨ys,hy,hl,q⟩=>?_
 have i:=o1.is S.ok S.p
 have ok:=S.ok
 have p1:=s1.p S.p
 refine ⟨ys,?_,hl,fun zs p h1 h2 h3 hn=>?_⟩
 ·rcases hy with ⟨x,e,rfl⟩ | e
  ·rw [e] at i
   cases i
   exact .inl ⟨x,rfl,rfl⟩
  ·rw [e] at i
   cases i with
   | list f1 a1 b1 =>
     rw [isAll_strs b1] at a1
     exact .inr ⟨_,rfl,.of a1⟩
 ·obtain ⟨a1,a2⟩:=out_list (K:=K) ok hn (strs_isAll zs)
  exact k _ _ _ (s1.trans a1) (a2.ahead ok S.p s1) (q zs h1 h2 h3)
theorem e_sortset {ι κ:Type} {P:Program} {w:World} {K:PySem.W.Frag} {mg:Str->Option Value} {base:Heap} {k:Nat} {X:ι->Cx} {O:κ->Ob} {a:Expr} {fa:DE} {p1 p2 p3 p4:Pos} (C:Ctx3 P w K mg base k X) (B:Blt mg) (ha:E3 K X O a fa) (g1:∀ i,Gl (X i) "sorted" := by intro i;rfl) (g2:∀ i,Gl (X i) "set" := by intro i;rfl)
 (s1:∀ i,starEach [.Call (.Name "set" p2) [a] [] p3] (X i).env=(false,eval (.Call (.Name "set" p2) [a] [] p3) (X i).env)::starEach [] (X i).env:=by intro i;rfl) (s2:∀ i,starEach [a] (X i).env=(false,eval a (X i).env)::starEach [] (X i).env:=by intro i;rfl) :
 E3 K X O (.Call (.Name "sorted" p1) [.Call (.Name "set" p2) [a] [] p3] [] p4) (ssD fa) :=
 let ⟨_,q,d⟩:=ha
 ⟨tSS K _,fun i=>by
  have h:=pe_sortset (X:=X i) (p1:=p1) (p2:=p2) (p3:=p3) (p4:=p4) (C.calm i) (g1 i) (by rw [C.hmg];exact B.sorted) (g2 i) (by rw [C.hmg];exact B.set) (q i) (s1 i) (s2 i)
  rw [C.hK] at h
  exact h,fun j=>ed_ss (d j)⟩
end L3
namespace L3
open PySem PySem.Spec
open PyProof.Rows hiding St
open L2
def parS (i j:Nat) (g:DA):DS:=fun Dd ρ=>g ρ fun ds=>∃ d e,ds = [d,e]/\flat d=true/\flat e=true/\Dd.nx ((ρ.set i (some (.im d))).set j (some (.im e)))
theorem sd_par {K:PySem.W.Frag} {O:Ob} {i j:Nat} {ta:TA} {g:DA} (h:AD K O ta g):SD K O (tPar i j ta) (parS i j g):=fun H₀ A σ H ρ D Dd r q P=>by
 refine h σ H ρ _ _ r.seen q fun vs H1 ds s1 is ⟨d,e,ed,f1,f2,q1⟩=>?_
 subst ed
 cases is with
 | cons i0 is =>
   cases is with
   | cons i1 is =>
     cases is
     refine ⟨_,_,rfl,?_⟩
     have r1:=(r.stp s1).setIm (i:=i) (Is.flat (TupStay.refl H1) i0 f1)
     have r2:=r1.setIm (i:=j) (Is.flat (TupStay.refl H1) i1 f2)
     exact P.nx _ _ H1 _ r2 ((Frm.setIm (i:=i) s1).trans (Frm.setIm (i:=j) (.refl _ _))) q1
theorem s_par {ι κ:Type} {P:Program} {w:World} {K:PySem.W.Frag} {mg:Str->Option Value} {base:Heap} {k:Nat} {X:ι->Cx} {O:κ->Ob} {a b:Expr} {ga:DA} {pos px py pt pt2:Pos} {kt k2:Nat} (n m:Nat) {x y:Str} (C:Ctx3 P w K mg base k X) (ha:A3 K X O [a,b] ga) (hnm:n ≠ m:=by decide)
 (hN:∀ i,(X i).N.Nodup:=by intro i;exact of_decide_eq_true (by kernel_rfl)) (hi:∀ i,(X i).N[n]? = some x:=by intro i;rfl) (hj:∀ i,(X i).N[m]? = some y:=by intro i;rfl) (hx:∀ i,(X i).env.scope.names.lookup x=some .local:=by intro i;rfl) (hy:∀ i,(X i).env.scope.names.lookup y=some .local:=by intro i;rfl)
 (hw:∀ i,swappedStores [.Tuple [.Name x px,.Name y py] kt pt] (.Tuple [a,b] k2 pt2) (X i).env=pure (some [x,y]):=by intro i;rfl) (hs:∀ i,swapsWithSole [.Tuple [.Name x px,.Name y py] kt pt] (.Tuple [a,b] k2 pt2) pos.line (X i).env=pure false:=by intro i;rfl) :
 S3 K X O (.Assign [.Tuple [.Name x px,.Name y py] kt pt] (.Tuple [a,b] k2 pt2) pos) (parS n m ga) :=
 let ⟨_,p,d⟩:=ha
 ⟨_,fun i=>ps_par (C.calm i) (hN i) (hi i) (hj i) hnm (hx i) (hy i) (p i) (hw i) (hs i),fun j=>sd_par (d j)⟩
end L3
namespace L3
open PySem PySem.Spec PySem.Calls
open PyProof.Rows hiding St
open L2
structure XGet (K:PySem.W.Frag) (C:Addr):Prop where
 ga:PySem.W.findIn K (.ref C) "__getattribute__" = some (some (.builtin "BaseException.__getattribute__"))
 gn:PySem.W.findIn K (.ref C) "__getattr__" = some none
 base:PySem.W.mroIn K C (.type "BaseException")=some true
 obj:PySem.W.mroIn K C (.type "object")=some true
 dict:PySem.W.hasDictIn K C=true
 cls:PySem.W.findIn K (.ref C) "__class__" = some (some (.builtin "object.__class__"))
 cget:PySem.W.specialIn K (.builtin "object.__class__") "__get__" = some (some (.builtin "getset_descriptor.__get__"))
 ctk:PySem.W.takesIn K (.builtin "object.__class__")=some true
end L3
namespace L3
open PySem PySem.Spec PySem.Calls
open PyProof.Rows hiding St
open L2
def excD (c:Str) (ns:List Str) (ds:List PyData):PyData := .dict [(.str c,.tuple (ns.map .str)),(.none,.tuple ds)]
def XOut (K:PySem.W.Frag) (mg:Str->Option Value) (O:Ob) (H H':Hp) (C dx:Addr) (d:PyData):Prop:=∃ (c:Str) (ns:List Str) (xs:List V) (ds:List PyData),d=excD c ns ds/\mg c=some (.ref C)/\H dx=none/\H' dx=some (.xd (ns.zip xs))/\xs.length=ns.length/\IsAll K (unM O) H' xs ds
def XPost (K:PySem.W.Frag) (mg:Str->Option Value) (O:Ob) (H₀:Hp) (E:XK) (Qr:R->Prop):Prop:=∀ H' C dx d,Stp O H₀ H'->XOut K mg O H₀ H' C dx d->Qr (.o d)->E (.ref C) (some dx) H'
def SDx (K:PySem.W.Frag) (mg:Str->Option Value) (O:Ob) (E:XK) (t:TS) (g:DS):Prop :=
 ∀ (H₀:Hp) (A:Nat->Addr->Prop) (σ:St) (H:Hp) (ρ:DSt) (D:Ends) (Dd:DEnds),Rep K O H₀ A H σ ρ->g Dd ρ->Post K O H₀ A H D Dd->XPost K mg O H₀ E Dd.rt->t D σ H
section
variable {K : PySem.W.Frag} {mg : Str → Option Value} {O : Ob} {E : XK}
theorem XOut.ahead {H H1 H2:Hp} {C dx:Addr} {d:PyData} (ok:O.Ok) (p:O.P H) (s:Stp O H H1) (h:XOut K mg O H1 H2 C dx d):XOut K mg O H H2 C dx d:=by
 obtain ⟨c,ns,xs,ds,e,m,n,q,l,i⟩:=h
 have nm:¬ O.M dx:=fun z=>by obtain ⟨o,w⟩:=ok.here H1 dx (s.p p) z;rw [n] at w;cases w
 exact ⟨c,ns,xs,ds,e,m,s.s.free nm n,q,l,i⟩
theorem sdx_of {t:TS} {g:DS} (h:SD K O t g):SDx K mg O E t g:=fun H₀ A σ H ρ D Dd r q P _=>h H₀ A σ H ρ D Dd r q P
theorem sdx_seq {t u:TS} {g k:DS} (h:SDx K mg O E t g) (h':SDx K mg O E u k):SDx K mg O E (tSeq t u) (seqD g k):=fun H₀ A σ H ρ D Dd r q P XP =>
 h H₀ A σ H ρ _ _ r q ⟨fun A' σ' H' ρ' r' f q'=>h' H₀ A' σ' H' ρ' D Dd r' q' (P.frm f) XP,P.bk,P.ct,P.rt⟩ XP
theorem sdx_if {c:TT} {t u:TS} {fc:DT} {g k:DS} (hc:TD K O c fc) (h:SDx K mg O E t g) (h':SDx K mg O E u k):SDx K mg O E (tIfS c t u) (ifS fc g k):=fun H₀ A σ H ρ D Dd r q P XP=>by
 refine hc σ H ρ _ _ r.seen q fun b H1 s1 q1=>?_
 cases b with
 | true=>exact h H₀ A σ H1 ρ D Dd (r.stp s1) q1 (P.frm (.stp s1)) XP
 | false=>exact h' H₀ A σ H1 ρ D Dd (r.stp s1) q1 (P.frm (.stp s1)) XP
theorem sdx_for {wi:TI} {tg:TG} {tb:TS} {f:DJ} {g:DG} {gb:DS} (hs:SrcR K O wi f) (hg:GR K O tg g) (hb:SDx K mg O E tb gb):SDx K mg O E (tFor wi tg tb) (forS f g gb):=fun H₀ A σ H ρ D Dd r q P XP=>by
 refine hs H₀ A σ H ρ _ _ r q fun J H1 ds B W uB go=>?_
 have r1:=r.stp W.st
 have f1:Frm O A H A H1 := .stp W.st
 refine ⟨fun i m σ2 H2=>m=ds.length - i/\i<=ds.length/\∃ A2 ρ2,Rep K O H₀ A2 H2 σ2 ρ2/\Frm O A H1 A2 H2/\forGo g gb Dd (ds.drop i) ρ2,⟨ds.length,rfl,Nat.zero_le _,A,ρ,r1,.refl,by simpa using go⟩,?_⟩
 rintro i m σ2 H2 ⟨rfl,hi,A2,ρ2,r2,f2,go2⟩
 have kB:∀ a o,B a->H1 a=some o->H2 a=some o:=fun a o b e=>(f2 a o e (uB a b)).1
 have ts:TupStay H1 H2:=r1.tupStay f2
 by_cases hlt:i<ds.length
 ·right
  have hd:ds[i]? = some ds[i]:=List.getElem?_eq_getElem hlt
  rw [List.drop_eq_getElem_cons hlt] at go2
  obtain ⟨fl,go2⟩:=go2
  obtain ⟨hgo,hy⟩:=W.item H2 i ds[i] kB ts hd (.inl fl)
  refine ⟨hgo,fun σ' H'=>∃ A' ρ',Rep K O H₀ A' H' σ' ρ'/\Frm O A H1 A' H'/\forGo g gb Dd (ds.drop (i+1)) ρ',fun σ' H' ⟨A',ρ',x1,x2,x3⟩=>⟨ds.length - (i+1),by omega,rfl,hlt,A',ρ',x1,x2,x3⟩,fun x H3 y=>?_⟩
  obtain ⟨sm,ix⟩:=hy x H3 y
  have st3:Stp O H2 H3 := .same r2.ok sm
  have r3:=r2.stp st3
  refine hg H₀ A2 σ2 H3 ρ2 x ds[i] _ _ r3 fl (Is.flat (TupStay.refl H3) ix fl) go2 fun A3 σ3 ρ3 r3' f3 q3=>?_
  have f13:Frm O A H1 A3 H3:=(f2.trans (.stp st3)).trans f3
  exact hb H₀ A3 σ3 H3 ρ3 _ _ r3' q3 ⟨fun A' σ' H' ρ' r' f' q'=>⟨A',ρ',r',f13.trans f',q'⟩,fun A' σ' H' ρ' r' f' q'=>P.nx A' σ' H' ρ' r' (f1.trans (f13.trans f')) q',fun A' σ' H' ρ' r' f' q'=>⟨A',ρ',r',f13.trans f',q'⟩,P.rt⟩ XP
 ·left
  have e:i=ds.length:=by omega
  subst e
  rw [List.drop_length] at go2
  exact ⟨W.stop H2 _ kB ts (Nat.le_refl _),P.nx A2 σ2 H2 ρ2 r2 (f1.trans f2) go2⟩
def raiseS (c:Str) (ns:List Str) (f:DA):DS:=fun Dd ρ=>f ρ fun ds=>ds.length=ns.length/\Dd.rt (.o (excD c ns ds))
theorem sdx_raise {c:Str} {C:Addr} {ns:List Str} {t:TA} {f:DA} (hm:mg c=some (.ref C)) (h:AD K O t f):SDx K mg O E (tRaise C ns E t) (raiseS c ns f):=fun H₀ A σ H ρ D Dd r q P XP=>by
 refine h σ H ρ _ _ r.seen q fun vs H1 ds s1 is ⟨hl,q1⟩=>⟨by rw [is.length];exact hl,fun d hd=>?_⟩
 have s2:Stp O H1 (upd H1 d (.xd (ns.zip vs))) := .new r.ok hd _
 have st:=r.st.trans s1
 have nm:¬ O.M d:=fun z=>by obtain ⟨o,w⟩:=r.ok.here H1 d (s1.p r.p) z;rw [hd] at w;cases w
 exact XP _ C d _ (st.trans s2) ⟨c,ns,vs,ds,rfl,hm,st.s.free nm hd,upd_same,by rw [is.length];exact hl,is.stp s2 (fun _ f=>f) (fun _ f=>f)⟩ q1
def spX (K:PySem.W.Frag) (mg:Str->Option Value) (φ:Ob->Prop) (n:Nat) (f:List PyData->(R->Prop)->Prop):Sp:=fun vs H Q E =>
 ∃ (O:Ob) (ds:List PyData) (Qr:R->Prop),O.Ok/\φ O/\O.P H/\ds.length=n/\IsAll K (unM O) H vs ds/\f ds Qr/\(∀ r,Qr r->∀ v H',Stp O H H'->Out K O H H' v r->Q v H')/\XPost K mg O H E Qr
theorem spX_len {φ:Ob->Prop} {n:Nat} {f:List PyData->(R->Prop)->Prop} {ps:List Str} (hn:ps.length=n):∀ vs H Q E,spX K mg φ n f vs H Q E->vs.length=ps.length:=fun vs H Q E zz=>by obtain ⟨O,ds,_,_,_,_,h,is,_⟩:=zz;rw [is.length,h,hn]
theorem run_Ox {N:List Str} {t:TS} {g:DS} {H:Hp} {vs:List V} {ds:List PyData} {Q:VK} {Qr:R->Prop} (h:SDx K mg O E t g) (ok:O.Ok) (p:O.P H) (ia:IsAll K (unM O) H vs ds)
 (hg:g { nx:=fun _=>Qr (.o .none),rt:=Qr } (dstart N (ds.map .im))) (hQ:∀ r,Qr r->∀ v H',Stp O H H'->Out K O H H' v r->Q v H') (hX:XPost K mg O H E Qr):t { nx:=fun _ H'=>Q .non H',rt:=Q } (L2.start N vs) H:=by
 refine h H _ _ H _ _ _ (rep_start ok p (by rw [List.length_map];exact ia.length) fun i r e=>?_) hg ⟨fun A' σ' H' ρ' r' _ q=>hQ _ q .non H' r'.st Is.none,fun A' σ' H' ρ' r' _ q=>q.elim,fun A' σ' H' ρ' r' _ q=>q.elim,fun H' v r s o q=>hQ r q v H' s o⟩ hX
 rw [List.getElem?_map] at e
 obtain ⟨d,hd,rfl⟩:=Option.map_eq_some_iff.mp e
 obtain ⟨v,hv,iv⟩:=ia.get hd
 exact ⟨v,hv,.inl ⟨d,rfl,iv⟩⟩
end
structure Def3x (P:Program) (w:World) (K:PySem.W.Frag) (mg:Str->Option Value) (base:Heap) (k:Nat) (x:Str) (ps:List Str) (sp:Sp):Prop where
 ex:∃ f fd,FnOk P w K mg base (CX1 P w) k f fd ps sp/\mg x=some (.ref f)/\PySem.W.keepIn K (.ref f)=true/\Binds K fd ps []
def Sx3 (K:PySem.W.Frag) (mg:Str->Option Value) (Y:Cx) (E:XK) (O:Ob) (s:Stmt) (g:DS):Prop:=∃ t,PS Y s t/\SDx K mg O E t g
def Ssx3 (K:PySem.W.Frag) (mg:Str->Option Value) (Y:Cx) (E:XK) (O:Ob) (s:List Stmt) (g:DS):Prop:=∃ t,PSs Y s t/\SDx K mg O E t g
theorem PS.nox {X:Cx} {st:Stmt} {t:TS} (h:PS X.nox st t):PS X st t:=fun pins s σ H D I hw =>
 wpAny_mono (h pins s σ H D (I.wish _) hw) (fun _ _ q=>q.unwish) fun _ _ z=>False.elim z
theorem PA.nox {X:Cx} {es:List Expr} {t:TA} (h:PA X.nox es t):PA X es t:=fun pos pins s σ H Q I hw =>
 wpAny_mono (h pos pins s σ H Q (I.wish _) hw) (fun _ _ ⟨v,H',I',r,q⟩=>⟨v,H',I'.unwish,r,q⟩) fun _ _ z=>False.elim z
theorem PG.nox {X:Cx} {tg:Expr} {t:TG} (h:PG X.nox tg t):PG X tg t:=fun pins s σ H v u Q I r hw =>
 wpAny_mono (h pins s σ H v u Q (I.wish _) r hw) (fun _ _ ⟨σ',H',I',q⟩=>⟨σ',H',I'.unwish,q⟩) fun _ _ z=>False.elim z
theorem PI.nox {X:Cx} {tg iter:Expr} {t:TI} (h:PI X.nox tg iter t):PI X tg iter t:=fun pins s σ H R I hw =>
 wpAny_mono (h pins s σ H R (I.wish _) hw) (fun _ _ q=>wpAny_mono q (fun _ _ ⟨it,fp,tn,J,H2,e,I2,rest⟩=>⟨it,fp,tn,J,H2,e,I2.unwish,rest⟩) fun _ _ z=>False.elim z) fun _ _ z=>False.elim z
section
variable {P : Program} {w : World} {K : PySem.W.Frag} {mg : Str → Option Value} {base : Heap} {k : Nat} {Y : Cx} {E : XK} {O : Ob} {c iter tg : Expr} {ft : DT} {st : Stmt} {sts sa sb body : List Stmt} {g1 g2 : DS} {pos : Pos} {fj : DJ} {g : DG} {hh : Nat}
theorem x_of (h:S3 K (fun _:Unit=>Y.nox) (fun _:Unit=>O) st g1):Sx3 K mg Y E O st g1:=let ⟨t,p,d⟩:=h; ⟨t,PS.nox (p ()),sdx_of (d ())⟩
theorem xs_of (h:Ss3 K (fun _:Unit=>Y.nox) (fun _:Unit=>O) sts g1):Ssx3 K mg Y E O sts g1:=let ⟨t,p,d⟩:=h; ⟨t,PSs.nox (p ()),sdx_of (d ())⟩
theorem xs_one (h:Sx3 K mg Y E O st g1):Ssx3 K mg Y E O [st] g1:=let ⟨_,p,d⟩:=h; ⟨_,pss_one p,d⟩
theorem xs_cons (h:Sx3 K mg Y E O st g1) (h':Ssx3 K mg Y E O sts g2):Ssx3 K mg Y E O (st::sts) (seqD g1 g2):=let ⟨_,p,d⟩:=h;let ⟨_,p2,d2⟩:=h'; ⟨_,pss_cons p p2,sdx_seq d d2⟩
theorem x_if (hc:T3 K (fun _:Unit=>Y.nox) (fun _:Unit=>O) c ft) (h:Ssx3 K mg Y E O sa g1) (h':Ssx3 K mg Y E O sb g2):Sx3 K mg Y E O (.If c sa sb pos) (ifS ft g1 g2):=let ⟨_,p,d⟩:=hc;let ⟨_,p1,d1⟩:=h;let ⟨_,p2,d2⟩:=h'; ⟨_,ps_if (PT.nox (p ())) p1 p2,sdx_if (d ()) d1 d2⟩
theorem x_for (B:Bdy P w Y E) (hc:Y.calm=true) (hi:J3 K (fun _:Unit=>Y.nox) (fun _:Unit=>O) tg iter fj) (hg:G3 K (fun _:Unit=>Y.nox) hh tg g) (hb:Ssx3 K mg Y E O body g1) (hs:∀ x,foldedSetIterable iter Y.env x=pure x:=by intro _;rfl):Sx3 K mg Y E O (.For tg iter body [] pos) (forS fj g g1):=by
 obtain ⟨ti,p1,d1⟩:=hi
 obtain ⟨tg',p2,_,d2,_⟩:=hg
 obtain ⟨tb,p3,d3⟩:=hb
 have po:PassesOwn (model Y.prog Y.w) Y.A Y.env Y.xe:=by rw [B.xe,B.prog,B.wld];exact PassesOwn.leaving
 exact ⟨_,ps_for po hc (PI.nox (p1 ())) (PG.nox (p2 ())) p3 hs,sdx_for (d1 ()) (d2 O) d3⟩
theorem x_raise {x:Str} {C f:Addr} {fd:FuncData} {ps ns:List Str} {e:Expr} {es:List Expr} {np cpos:Pos} {fa:DA} (B:Bdy P w Y E) (hc:Y.calm=true) (hP:Y.prog=P) (hw:Y.w=w) (hK:Y.K=K) (hmg:Y.mg=mg) (hbs:Y.base=base) (M:XMk K C f ns) (F:FnOk P w K mg base CX0 k f fd ps (spInit K ns)) (hr:Room (k+1) Y.A) (hb:Binds K fd ps []) (hz:ns.length<=1000) (hm:mg x=some (.ref C))
 (ha:A3 K (fun _:Unit=>Y.nox) (fun _:Unit=>O) (e::es) fa) (hg:Gl Y x:=by rfl) (hdb:(x == ("__debug__" : Str))=false:=by decide) (he:starEach (e::es) Y.env=(false,eval e Y.env)::starEach es Y.env:=by rfl) (hpl:(backTo cpos (starEach es Y.env)).any (·.1)=false:=by rfl) :
 Sx3 K mg Y E O (.Raise (some (.Call (.Name x np) (e::es) [] cpos)) none pos) (raiseS x ns fa):=by
 obtain ⟨t,p,d⟩:=ha
 subst hP hw hK hmg hbs
 exact ⟨_,ps_raise B hc M F hr hb hz hg hm (PA.nox (p ())) hdb he hpl,sdx_raise hm (d ())⟩
theorem mk_Ox {x:Str} {N ps:List Str} {n:Nat} {F:List PyData->(R->Prop)->Prop} {φ:Ob->Prop} (T:Top3 K mg x st) (S:FnScope N ps (defScope st)) (hb:∀ (kV doc pm:Value) (an:Option Addr) (cdv ct:Value) (us:List Value),us.length=ps.length->bindArgs (PySem.W.fnOf x x (defArgs st) (defBody st) (defScope st) .none kV doc pm an cdv ct) ⟨us,[]⟩=pure (ps.zip us)) (hn:ps.length=n)
 (body:∀ (f:Addr) (cdv:Value) (A:Around) (outer:List Env) (s:Shared) (H:Hp) (E:XK) (O:Ob),φ O->Bdy P w (cxOf (CX1 P w) P w K mg base N x (defScope st) f cdv A outer s H E) E->Ctx3 P w K mg base k (fun _:Unit=>(cxOf (CX1 P w) P w K mg base N x (defScope st) f cdv A outer s H E).nox) ->
  ∃ g,Ssx3 K mg (cxOf (CX1 P w) P w K mg base N x (defScope st) f cdv A outer s H E) E O (defBody st) g/\∀ ds Qr,ds.length=n->F ds Qr->g { nx:=fun _=>Qr (.o .none),rt:=Qr } (dstart N (ds.map .im))):Def3x P w K mg base (k+1) x ps (spX K mg φ n F):=by
 obtain ⟨f,fd,Fu,m⟩:=T.ex
 obtain ⟨oc,od,kV,doc,pm,an,cdv,ct,osl,rfl,lk,hcd⟩:=id Fu.ex
 refine ⟨f,_,fn_of lk hcd S (spX_len hn) fun A outer s H vs Q E hr h=>?_,m,Fu.kp,Fu.binds hb⟩
 obtain ⟨O,ds,Qr,ok,hφ,p,hl,is,q,kk,kx⟩:=h
 obtain ⟨g,⟨t,h1,h2⟩,h3⟩:=body f cdv A outer s H E O hφ ⟨rfl,rfl,rfl,rfl,rfl,rfl⟩ ⟨fun _=>rfl,fun _=>rfl,fun _=>rfl,fun _=>rfl,fun _=>rfl,fun _=>rfl,fun _=>hr,fun _=>rfl⟩
 exact ⟨t,h1,run_Ox h2 ok p is (h3 ds Qr hl q) kk kx⟩
end
end L3
namespace L3
open PySem PySem.Spec PySem.Calls
open PyProof.Rows hiding St
open L2
def DEf:Type:=DSt->(R->Prop)->(R->Prop)->Prop
def DAf:Type:=DSt->(List PyData->Prop)->(R->Prop)->Prop
def DSf:Type:=DEnds->DSt->(R->Prop)->Prop
def splitR (N X:R->Prop):R->Prop
 | .o (.dict d)=>X (.o (.dict d))
 | .o .none=>N (.o .none)
 | .o (.bool b)=>N (.o (.bool b))
 | .o (.int i)=>N (.o (.int i))
 | .o (.str x)=>N (.o (.str x))
 | .o (.list l)=>N (.o (.list l))
 | .o (.tuple l)=>N (.o (.tuple l))
 | .n l=>N (.n l)
theorem split_norm {K:PySem.W.Frag} {O:Ob} {H H':Hp} {v:V} {N X:R->Prop}:∀ {r:R},Out K O H H' v r->splitR N X r->N r
 | .o (.dict d),o,h=>nomatch (show Is K (unM O) H' v (.dict d) from o)
 | .o .none,_,h=>h
 | .o (.bool b),_,h=>h
 | .o (.int b),_,h=>h
 | .o (.str b),_,h=>h
 | .o (.list b),_,h=>h
 | .o (.tuple b),_,h=>h
 | .n b,_,h=>h
def EX (K:PySem.W.Frag) (mg:Str->Option Value) (O:Ob) (H:Hp) (E:XK) (X:R->Prop):Prop:=∀ H' C dx d,Stp O H H'->XOut K mg O H H' C dx d->X (.o d)->E (.ref C) (some dx) H'
def EDf (K:PySem.W.Frag) (mg:Str->Option Value) (O:Ob) (t:XK->TE) (f:DEf):Prop :=
 ∀ (E:XK) (σ:St) (H:Hp) (ρ:DSt) (Q:VK) (N X:R->Prop),Seen K O H σ ρ->f ρ N X->(∀ v H' r,Stp O H H'->Out K O H H' v r->N r->Q v H')->EX K mg O H E X->t E σ H Q
def ADf (K:PySem.W.Frag) (mg:Str->Option Value) (O:Ob) (t:XK->TA) (f:DAf):Prop :=
 ∀ (E:XK) (σ:St) (H:Hp) (ρ:DSt) (Q:List V->Hp->Prop) (N:List PyData->Prop) (X:R->Prop),Seen K O H σ ρ->f ρ N X->(∀ vs H' ds,Stp O H H'->IsAll K (unM O) H' vs ds->N ds->Q vs H')->EX K mg O H E X->t E σ H Q
def SDf (K:PySem.W.Frag) (mg:Str->Option Value) (O:Ob) (t:XK->TS) (g:DSf):Prop :=
 ∀ (E:XK) (H₀:Hp) (A:Nat->Addr->Prop) (σ:St) (H:Hp) (ρ:DSt) (D:Ends) (Dd:DEnds) (X:R->Prop),Rep K O H₀ A H σ ρ->g Dd ρ X->Post K O H₀ A H D Dd->EX K mg O H E X->t E D σ H
def calX (n:Nat) (F:List PyData->(R->Prop)->Prop) (g:DA):DEf:=fun ρ N X=>g ρ fun ds=>ds.length=n/\F ds (splitR N X)
def upE (f:DE):DEf:=fun ρ N _=>f ρ N
def upA (f:DA):DAf:=fun ρ N _=>f ρ N
def aConsF (f:DEf) (g:DAf):DAf:=fun ρ N X=>f ρ (fun r=>g ρ (fun ds=>N (r.d::ds)) X) X
def tupF' (g:DAf):DEf:=fun ρ N X=>g ρ (fun ds=>ds.length<=sizeLine/\N (.o (.tuple ds))) X
def retF (f:DEf):DSf:=fun Dd ρ X=>f ρ Dd.rt X
section
variable {K : PySem.W.Frag} {mg : Str → Option Value} {O : Ob} {H₀ H H' : Hp} {A : Nat → Addr → Prop} {σ : St} {ρ : DSt} {E : XK} {X : R → Prop}
theorem EX.stp {H1:Hp} (ok:O.Ok) (p:O.P H) (s:Stp O H H1) (h:EX K mg O H E X):EX K mg O H1 E X:=fun H' C dx d s' o q=>h H' C dx d (s.trans s') (o.ahead ok p s) q
theorem edf_up {t:TE} {f:DE} (h:ED K O t f):EDf K mg O (fun _=>t) (upE f):=fun _ σ H ρ Q N _ S q k _=>h σ H ρ Q N S q k
theorem edf_call {φ:Ob->Prop} {n:Nat} {F:List PyData->(R->Prop)->Prop} {t:TA} {g:DA} (hφ:φ O) (h:AD K O t g):EDf K mg O (fun E=>tCall (spX K mg φ n F) [] E t) (calX n F g):=fun E σ H ρ Q N X S q k kx=>by
 refine h σ H ρ _ _ S q fun vs H1 ds s1 is ⟨hn,q1⟩=>?_
 rw [List.append_nil]
 refine ⟨O,ds,splitR N X,S.ok,hφ,s1.p S.p,hn,is,q1,fun r qr v H' s2 o2=>k v H' r (s1.trans s2) (o2.ahead S.ok S.p s1) (split_norm o2 qr),fun H' C dx d s2 o2 q2=>kx H' C dx d (s1.trans s2) (o2.ahead S.ok S.p s1) ?_⟩
 obtain ⟨c,ns,xs,es,rfl,_⟩:=o2
 exact q2
theorem adf_nil:ADf K mg O (fun _=>tNil) (upA aNil):=fun _ σ H ρ Q N _ S q k _=>ad_nil σ H ρ Q N S q k
theorem adf_cons {t:XK->TE} {u:XK->TA} {f:DEf} {g:DAf} (h:EDf K mg O t f) (h':ADf K mg O u g):ADf K mg O (fun E=>tCons (t E) (u E)) (aConsF f g):=fun E σ H ρ Q N X S q k kx=>by
 refine h E σ H ρ _ _ _ S q (fun v H1 r s1 o1 q1=>?_) kx
 refine h' E σ H1 ρ _ _ _ (S.stp s1) q1 (fun vs H2 ds s2 o2 q2=>?_) (kx.stp S.ok S.p s1)
 exact k (v::vs) H2 (r.d::ds) (s1.trans s2) (.cons (Is.stp s2 (fun _ f=>f) (fun _ f=>f) (o1.is S.ok S.p)) o2) q2
theorem edf_tup {u:XK->TA} {g:DAf} (h:ADf K mg O u g):EDf K mg O (fun E=>tTup (u E)) (tupF' g):=fun E σ H ρ Q N X S q k kx=>by
 refine h E σ H ρ _ _ _ S q (fun vs H1 ds s1 o1 ⟨z,q⟩=>⟨by rw [o1.length];exact z,fun p hp=>?_⟩) kx
 have s2:Stp O H1 (upd H1 p (.tup vs)) := .new S.ok hp _
 exact k _ _ (.o (.tuple ds)) (s1.trans s2) (.tuple (.of upd_same) (o1.stp s2 (fun _ f=>f) (fun _ f=>f))) q
theorem sdf_ret {t:XK->TE} {f:DEf} (h:EDf K mg O t f):SDf K mg O (fun E=>tRet (t E)) (retF f):=fun E H₀ A σ H ρ D Dd X r q P kx =>
 h E σ H ρ _ _ _ r.seen q (fun v H1 x s1 o1 q1=>P.rt H1 v x (r.st.trans s1) (o1.ahead r.ok r.p0 r.st) q1) kx
end
end L3
namespace L3
open PySem PySem.Spec PySem.Calls
open PyProof.Rows hiding St
open L2
structure EA where
 le:Addr
 nt:Addr
 nh:Addr
 ns:Addr
 tm:Addr
 np:Addr
 ng:Addr
 nr:Addr
abbrev bmV:List Value := [.type "ValueError", .type "Exception", .type "BaseException", .type "object"]
theorem passV (v:Value):refuseLoop v "__setattr__" bmV=pure ():=by kernel_rfl
structure Init1 (K:PySem.W.Frag) (f:Addr) (fl:Str):Prop where
 ex:∃ (qual an0:Str) (params:Arguments) (scope:Scope) (oc kV doc pm cdv ct:Value) (od an:Option Addr) (osl:Array (Option Value)) (p1 p2 p3 p4:Pos),
  K.lookup f=some ⟨oc,od,.func (PySem.W.fnOf "__init__" qual params [.Assign [.Attribute (.Name "self" p1) fl p2] (.Name an0 p3) p4] scope .none kV doc pm an cdv ct),osl⟩/\PySem.W.codeIn K cdv qual=true /\
  FnScope [("self" : Str),an0] [("self" : Str),an0] scope/\Vis scope "self" /\ Vis scope an0/\(an0 == ("__debug__" : Str))=false/\(an0 == ("__classdict__" : Str))=false /\
  ∀ us:List Value,us.length=2->bindArgs (PySem.W.fnOf "__init__" qual params [.Assign [.Attribute (.Name "self" p1) fl p2] (.Name an0 p3) p4] scope .none kV doc pm an cdv ct) ⟨us,[]⟩=pure (([("self" : Str),an0]:List Str).zip us)
structure Raise1 (K:PySem.W.Frag) (LE C:Addr) (os:List Addr) (fl:Str):Prop where
 get:XGet K C
 lost:PySem.W.mroIn K C (.ref LE)=some true
 val:PySem.W.kitOne K (.ref C) (.type "ValueError")=some true
 oth:∀ D ∈ os,PySem.W.kitOne K (.ref C) (.ref D)=some false
 nof:PySem.W.findIn K (.ref C) fl=some none
 init:∃ f,XMk K C f [fl]/\Init1 K f fl
section
variable {P : Program} {w : World} {K : PySem.W.Frag} {mg : Str → Option Value} {base : Heap} {C D LE f : Addr} {os : List Addr} {fl : Str}
def isStrV:Value->Bool
 | .str _ _=>true
 | _=>false
theorem strKeys_of {es:Array DictEntry} (h:(es.toList.all fun e=>isStrV e.key)=true):StrKeys es:=fun e he=>by
 have:=List.all_eq_true.mp h e (Array.mem_toList_iff.mpr he)
 cases z:e.key with
 | str n t=>exact ⟨n,t,rfl⟩
 | _=>rw [z] at this;cases this
theorem kit_val {b:Bool} (hm:PySem.W.mroIn K C (.type "ValueError")=some b):PySem.W.kitOne K (.ref C) (.type "ValueError")=some b:=by
 unfold PySem.W.kitOne
 rw [if_neg (show ¬ (Value.ref C == Value.type "ValueError")=true from fun z=>nomatch beq_iff_eq.mp z)]
 unfold PySem.W.kitCls
 simp only [show PySem.W.kitMeta "ValueError" = true by decide +kernel,if_true]
 exact hm
theorem init1_ok (I:Init1 K f fl):∃ fd ps,FnOk P w K mg base CX0 1 f fd ps (spInit K [fl])/\Binds K fd ps []:=by
 obtain ⟨qual,an0,params,scope,oc,kV,doc,pm,cdv,ct,od,an,osl,p1,p2,p3,p4,lk,hcd,S,v0,v1,d1,d2,hb⟩:=I.ex
 refine ⟨_,[("self" : Str),an0],fn_of lk hcd S (spInit_len rfl) fun A outer s H vs Q E hr h=>?_,.all hb⟩
 obtain ⟨x,C,ys,rfl,hl,hc,hx,hq⟩:=h
 match ys,hl with
 | [y],_ =>
 refine ⟨_,pss_one (ps_fldx (pe_var (i:=0) rfl v0 (by decide) (by decide)) (pe_var (i:=1) rfl v1 d1 d2) rfl),?_⟩
 exact ⟨y,rfl,.ref x,rfl,x,C,rfl,hc fl List.mem_cons_self,.inl ⟨hx,fun d hd hdx=>hq d hd hdx⟩⟩
theorem raise1_mk {N:Addr} {nm q:Str} {bs:List Value} {sn:List Str} {sub:List Value} {ab:Bool} {col:Option Bool} {dd ddL odN:Option Addr} {k0 k1 k2 k3 k5:Option Value} {c0 ocN:Value} {cdL:ClassData} {slL oslN:Array (Option Value)} {es:Array DictEntry} {ep:Nat}
 (h1:PySem.W.findIn K (.ref C) "__getattribute__" = some (some (.builtin "BaseException.__getattribute__"))) (h2:PySem.W.findIn K (.ref C) "__getattr__" = some none) (h3:PySem.W.mroIn K C (.type "BaseException")=some true) (h4:PySem.W.mroIn K C (.type "object")=some true)
 (h5:PySem.W.hasDictIn K C=true) (h6:PySem.W.findIn K (.ref C) "__class__" = some (some (.builtin "object.__class__"))) (h7:PySem.W.specialIn K (.builtin "object.__class__") "__get__" = some (some (.builtin "getset_descriptor.__get__"))) (h8:PySem.W.takesIn K (.builtin "object.__class__")=some true)
 (h9:PySem.W.mroIn K C (.ref LE)=some true) (h10:PySem.W.mroIn K C (.type "ValueError")=some true) (h11:PySem.W.findIn K (.ref C) fl=some none)
 (h12:K.lookup C=some (excClassObj nm q C N bs (.ref LE::bmV) true sn sub ab col dd k0 k1 k2 k3 k5 "ValueError.__new__"))
 (h13:K.lookup LE=some ⟨c0,ddL,.cls cdL,slL⟩) (h14:K.lookup cdL.ns=some ⟨ocN,odN,.dict es ep,oslN⟩) (h15:StrKeys es) (h16:nsFind es "__init__" = none)
 (h17:PySem.W.findIn K (.ref C) "__init__" = some (some (.ref f))) (h18:PySem.W.typeIn K (.ref f)=some (.type "function")) (h19:PySem.W.keepIn K (.ref C)=true) (h20:PySem.W.findIn K (.ref C) "__setattr__" = some (some (.builtin "object.__setattr__")))
 (h21:∀ D ∈ os,PySem.W.kitOne K (.ref C) (.ref D)=some false) (h22:Init1 K f fl):Raise1 K LE C os fl:=by
 refine ⟨⟨h1,h2,h3,h4,h5,h6,h7,h8⟩,h9,kit_val h10,h21,h11,f,⟨⟨nm,q,N,bs,_,bmV,sn,sub,ab,col,dd,k0,k1,k2,k3,k5, "ValueError", "ValueError.__new__", "ValueError.__init__", h12,fun h x=>ownTail_of x h13 h14 h15 h16 .base,PySem.F.excBase_ValueError⟩,h17,h18,h19,fun n hn=>?_⟩,h22⟩
 rw [List.mem_singleton.mp hn]
 refine ⟨⟨_,by unfold PySem.W.clsIn;rw [h12],rfl,rfl,?_,fun v=>?_⟩,h20,h11⟩
 ·simp [List.contains_cons]
 ·rw [refuseLoop_ref,refuseLoop_ref];exact passV v
theorem init1_mk {qual an0:Str} {params:Arguments} {scope:Scope} {oc kV doc pm cdv ct:Value} {od an:Option Addr} {osl:Array (Option Value)} {p1 p2 p3 p4:Pos}
 (i1:K.lookup f=some ⟨oc,od,.func (PySem.W.fnOf "__init__" qual params [.Assign [.Attribute (.Name "self" p1) fl p2] (.Name an0 p3) p4] scope .none kV doc pm an cdv ct),osl⟩) (i2:PySem.W.codeIn K cdv qual=true)
 (i3:FnScope [("self" : Str),an0] [("self" : Str),an0] scope) (i4:Vis scope "self" /\ Vis scope an0) (i5:(an0 == ("__debug__" : Str))=false/\(an0 == ("__classdict__" : Str))=false)
 (i6:∀ us:List Value,us.length=2->bindArgs (PySem.W.fnOf "__init__" qual params [.Assign [.Attribute (.Name "self" p1) fl p2] (.Name an0 p3) p4] scope .none kV doc pm an cdv ct) ⟨us,[]⟩=pure (([("self" : Str),an0]:List Str).zip us)):Init1 K f fl :=
 ⟨qual,an0,params,scope,oc,kV,doc,pm,cdv,ct,od,an,osl,p1,p2,p3,p4,i1,i2,i3,i4.1,i4.2,i5.1,i5.2,i6⟩
theorem no_nil:∀ D ∈ ([]:List Addr),PySem.W.kitOne K (.ref C) (.ref D)=some false:=fun _ h=>(List.not_mem_nil h).elim
end
end L3
namespace L3
open PySem PySem.Spec PySem.Calls
open PyProof.Rows hiding St
open L2
def Ey3 (K:PySem.W.Frag) (mg:Str->Option Value) (Y:Cx) (E:XK) (O:Ob) (e:Expr) (f:DEf):Prop:=∃ t:XK->TE,PE Y e (t E)/\EDf K mg O t f
section
variable {P : Program} {w : World} {K : PySem.W.Frag} {mg : Str → Option Value} {base : Heap} {k : Nat} {Y : Cx} {E : XK} {O : Ob} {a : Expr} {es : List Expr} {ga : DA} {fa : DE} {ff : DEf} {pos p : Pos}
theorem ey_of (h:E3 K (fun _:Unit=>Y.nox) (fun _:Unit=>O) a fa):Ey3 K mg Y E O a (upE fa):=let ⟨t,p,d⟩:=h; ⟨fun _=>t,PE.nox (p ()),edf_up (d ())⟩
theorem ey_call {k' n:Nat} {x:Str} {ps:List Str} {F:List PyData->(R->Prop)->Prop} (Bd:Bdy P w Y E) (C:Ctx3 P w K mg base k (fun _:Unit=>Y.nox)) (D:Def3x P w K mg base k' x ps (spX K mg (fun _=>True) n F)) (ha:A3 K (fun _:Unit=>Y.nox) (fun _:Unit=>O) (a::es) ga) (hk:k'<=k:=by decide) (hg:Gl Y x:=by rfl)
 (hdb:(x == ("__debug__" : Str))=false:=by decide) (he:starEach (a::es) Y.env=(false,eval a Y.env)::starEach es Y.env:=by rfl) (hpl:(backTo pos (starEach es Y.env)).any (·.1)=false:=by rfl):Ey3 K mg Y E O (.Call (.Name x p) (a::es) [] pos) (calX n F ga):=by
 obtain ⟨f,fd,G,m,kp,bn⟩:=D.ex
 obtain ⟨t,q,d⟩:=ha
 refine ⟨fun E=>tCall (spX K mg (fun _=>True) n F) [] E t,?_,edf_call trivial (d ())⟩
 have hP:Y.prog=P:=C.hP ()
 have hw:Y.w=w:=C.hw ()
 have hK:Y.K=K:=C.hK ()
 have hmg:Y.mg=mg:=C.hmg ()
 have hb:Y.base=base:=C.hb ()
 have G':FnOk Y.prog Y.w Y.K Y.mg Y.base (CX1 P w) k f fd ps (spX K mg (fun _=>True) n F):=by rw [hP,hw,hK,hmg,hb];exact G.mono hk
 exact pe_call G' (C.room ()) hg (by rw [hmg];exact m) (by rw [hK];exact kp) (by rw [hK];exact bn) .nil Bd.pass (PA.nox (q ())) hdb he hpl
theorem ex_post {H₀ H:Hp} {A:Nat->Addr->Prop} {σ:St} {ρ:DSt} {Q:R->Prop} (r:Rep K O H₀ A H σ ρ) (XP:XPost K mg O H₀ E Q):EX K mg O H E Q:=fun H' C dx d s o q=>XP H' C dx d (r.st.trans s) (o.ahead r.ok r.p0 r.st) q
def retX (f:DEf):DS:=fun Dd ρ=>f ρ Dd.rt Dd.rt
theorem x_ret (h:Ey3 K mg Y E O a ff):Sx3 K mg Y E O (.Return (some a) pos) (retX ff):=let ⟨t,p,d⟩:=h; ⟨tRet (t E),ps_ret p,fun H₀ A σ H ρ D Dd r q P XP=>sdf_ret d E H₀ A σ H ρ D Dd Dd.rt r q P (ex_post r XP)⟩
end
end L3
namespace HK
open PySem PySem.Spec PyProof.Rows
mutual
def hk:PyData->Bool
 | .int _=>true
 | .str _=>true
 | .tuple ds=>hks ds
 | _=>false
def hks:List PyData->Bool
 | []=>true
 | d::ds=>hk d && hks ds
end
mutual
def hD (w:World):PyData->Int
 | .int i=>hashInt i
 | .str x=>hashStr w x
 | .tuple ds=>reduceHash (Builtin.Tuple.tupleHashOf (hDs w ds))
 | _=>0
def hDs (w:World):List PyData->List Int
 | [] => []
 | d::ds=>hD w d::hDs w ds
end
mutual
def bv:PyData->Bool
 | .int _=>true
 | .tuple ds=>bvs ds
 | _=>false
def bvs:List PyData->Bool
 | []=>true
 | d::ds=>bv d && bvs ds
end
mutual
def dr:PyData->Nat
 | .tuple ds=>drs ds+1
 | _=>1
def drs:List PyData->Nat
 | []=>0
 | d::ds=>dr d+drs ds
end
end HK
namespace HK
open PySem PySem.Spec PyProof.Rows PySem.W
mutual
def dlt:PyData->PyData->Bool
 | .int i,.int j=>decide (i<j)
 | .str x,.str y=>decide (x.cps.toList<y.cps.toList)
 | .tuple xs,.tuple ys=>dlts xs ys
 | _,_=>false
def dlts:List PyData->List PyData->Bool
 | [],[]=>false
 | [],_::_=>true
 | _::_,[]=>false
 | x::xs,y::ys=>if PyData.eqv x y then dlts xs ys else dlt x y
end
end HK
namespace L3
open PySem PySem.Spec
open PyProof.Rows hiding St
open L2
theorem words_of (c:Nat):∀ t:List Nat,∃ ws:List (List Nat),ws ≠ []/\t=joinL c ws/\(∀ w ∈ ws,c ∉ w)/\(∀ w ∈ ws,w.length<=t.length/\∀ x ∈ w,x ∈ t)/\ws.length<=t.length+1
 | []=>⟨[[]],by simp,rfl,by simp,by simp,by simp⟩
 | x::t=>by
   obtain ⟨ws,h1,h2,h3,h4,h5⟩:=words_of c t
   cases ws with
   | nil=>exact absurd rfl h1
   | cons w r =>
     by_cases hx:x=c
     ·subst hx
      refine ⟨[]::w::r,by simp,?_,?_,?_,by simp at h5 ⊢; omega⟩
      ·rw [joinL_cons (by simp),<- h2];rfl
      ·intro v hv
       rcases List.mem_cons.mp hv with rfl | hv
       ·simp
       ·exact h3 v hv
      ·intro v hv
       rcases List.mem_cons.mp hv with rfl | hv
       ·simp
       ·obtain ⟨a,b⟩:=h4 v hv
        exact ⟨by simp;omega,fun y hy=>List.mem_cons_of_mem _ (b y hy)⟩
     ·refine ⟨(x::w)::r,by simp,?_,?_,?_,by simp at h5 ⊢; omega⟩
      ·rw [h2]
       cases r with
       | nil=>rfl
       | cons y r=>rfl
      ·intro v hv
       rcases List.mem_cons.mp hv with rfl | hv
       ·exact fun z=>by rcases List.mem_cons.mp z with e | z;exact hx e.symm;exact h3 w List.mem_cons_self z
       ·exact h3 v (List.mem_cons_of_mem _ hv)
      ·intro v hv
       rcases List.mem_cons.mp hv with rfl | hv
       ·obtain ⟨a,b⟩:=h4 w List.mem_cons_self
        refine ⟨by simp;omega,fun y hy=>?_⟩
        rcases List.mem_cons.mp hy with rfl | hy
        ·exact List.mem_cons_self
        ·exact List.mem_cons_of_mem _ (b y hy)
       ·obtain ⟨a,b⟩:=h4 v (List.mem_cons_of_mem _ hv)
        exact ⟨by simp;omega,fun y hy=>List.mem_cons_of_mem _ (b y hy)⟩
end L3
namespace L3
open PySem PySem.Spec
open PyProof.Rows hiding St
open L2
mutual
def solL:PyData->Bool
 | .none=>true
 | .int _=>true
 | .str _=>true
 | .tuple ds=>solLs ds
 | .list ds=>solLs ds
 | _=>false
def solLs:List PyData->Bool
 | []=>true
 | d::ds=>solL d && solLs ds
end
mutual
theorem eqv_solL:∀ d e:PyData,solL d=true->solL e=true->(PyData.eqv d e=true↔d=e)
 | .none,e,_,h=>by cases e <;> simp [PyData.eqv,solL] at *
 | .int i,e,_,h=>by cases e <;> simp [PyData.eqv,solL] at *
 | .str x,e,_,h=>by cases e <;> simp [PyData.eqv,solL] at *
 | .tuple ds,e,h0,h=>by
   cases e with
   | tuple es =>
     have:=eqv_solLs ds es (by simpa [solL] using h0) (by simpa [solL] using h)
     simp only [PyData.eqv]
     rw [this]
     exact ⟨fun z=>by rw [z],fun z=>by cases z;rfl⟩
   | none=>simp [PyData.eqv]
   | int _=>simp [PyData.eqv]
   | str _=>simp [PyData.eqv]
   | bool _=>simp [solL] at h
   | list _=>simp [PyData.eqv]
   | dict _=>simp [solL] at h
 | .list ds,e,h0,h=>by
   cases e with
   | list es =>
     have:=eqv_solLs ds es (by simpa [solL] using h0) (by simpa [solL] using h)
     simp only [PyData.eqv]
     rw [this]
     exact ⟨fun z=>by rw [z],fun z=>by cases z;rfl⟩
   | none=>simp [PyData.eqv]
   | int _=>simp [PyData.eqv]
   | str _=>simp [PyData.eqv]
   | bool _=>simp [solL] at h
   | tuple _=>simp [PyData.eqv]
   | dict _=>simp [solL] at h
 | .bool _,_,h,_=>by simp [solL] at h
 | .dict _,_,h,_=>by simp [solL] at h
theorem eqv_solLs:∀ ds es:List PyData,solLs ds=true->solLs es=true->(PyData.eqvAll ds es=true↔ds=es)
 | [],[],_,_=>by simp [PyData.eqvAll]
 | [],_::_,_,_=>by simp [PyData.eqvAll]
 | _::_,[],_,_=>by simp [PyData.eqvAll]
 | d::ds,e::es,h,h'=>by
   simp only [solLs,Bool.and_eq_true] at h h'
   simp only [PyData.eqvAll,Bool.and_eq_true]
   rw [eqv_solL d e h.1 h'.1,eqv_solLs ds es h.2 h'.2]
   simp
end
structure Sl (n:Nat) (d:PyData):Prop where
 lay:d.canLay0=true
 dep:d.depth<=n
 sol:solL d=true
theorem sl_txt {x:Str} (h:PyData.strOk x=true):Sl 0 (.str x):=⟨h,Nat.le_refl _,rfl⟩
theorem sl_nil (n:Nat):Sl (n+1) (.tuple []):=⟨rfl,by simp [PyData.depth,PyData.depthAll],rfl⟩
theorem sl_cons {n:Nat} {d:PyData} {ds:List PyData} (h:Sl n d) (h':Sl (n+1) (.tuple ds)):Sl (n+1) (.tuple (d::ds)):=by
 obtain ⟨a1,a2,a3⟩:=h
 obtain ⟨b1,b2,b3⟩:=h'
 simp only [PyData.canLay0,PyData.depth,solL] at b1 b2 b3
 refine ⟨?_,?_,?_⟩
 ·simp only [PyData.canLay0,PyData.canLayAll0,a1,b1];rfl
 ·simp only [PyData.depth,PyData.depthAll];omega
 ·simp only [solL,solLs,a3,b3];rfl
theorem Sl.okD {n:Nat} {d:PyData} (h:Sl n d) (hn:n<=60:=by decide):L3.okD d=true:=by
 unfold L3.okD
 rw [h.lay]
 have:=h.dep
 simp
 omega
theorem eq_sl {n n':Nat} {neg:Bool} {d e:PyData} (h:Sl n d) (h':Sl n' e) (hn:n<=60:=by decide) {q:Bool} (hq:q=true↔d=e):eqF neg d e=some (.o (.bool (if neg then !q else q))):=by
 unfold eqF
 rw [if_pos (by rw [h.okD hn,h'.lay];rfl)]
 have e1:PyData.eqv d e=q:=by
  have:=(eqv_solL d e h.sol h'.sol).trans hq.symm
  cases h1:PyData.eqv d e <;> cases q <;> simp_all
 rw [e1]
theorem solLs_mem:∀ {l:List PyData},solLs l=true->∀ y ∈ l,solL y=true
 | [],_,y,hy=>(List.not_mem_nil hy).elim
 | a::l,hl,y,hy=>by
   simp only [solLs,Bool.and_eq_true] at hl
   rcases List.mem_cons.mp hy with z | z
   ·rw [z];exact hl.1
   ·exact solLs_mem hl.2 y z
theorem any_sl {n:Nat} {d:PyData} {es:List PyData} (h:Sl n d) (hs:solLs es=true) {q:Bool} (hq:q=true↔d ∈ es):(es.any fun y=>PyData.eqv y d)=q:=by
 have:(es.any fun y=>PyData.eqv y d)=true↔q=true:=by
  rw [hq,List.any_eq_true]
  constructor
  ·rintro ⟨y,hy,e⟩
   rw [<- (eqv_solL y d (solLs_mem hs y hy) h.sol).mp e]
   exact hy
  ·intro hd
   exact ⟨d,hd,(eqv_solL d d h.sol h.sol).mpr rfl⟩
 exact Bool.eq_iff_iff.mpr this
theorem in_slT {n n':Nat} {neg:Bool} {d:PyData} {es:List PyData} (h:Sl n d) (h':Sl n' (.tuple es)) (hn:n<=60:=by decide) {q:Bool} (hq:q=true↔d ∈ es):inF neg d (.tuple es)=some (.o (.bool (if neg then !q else q))):=by
 have e1:=any_sl h (by simpa [solL] using h'.sol) hq
 have l1:PyData.canLayAll0 es=true:=by simpa [PyData.canLay0] using h'.lay
 have e2:inF neg d (.tuple es)=if (L3.okD d && PyData.canLayAll0 es)=true then some (.o (.bool (if neg then !es.any (fun y=>PyData.eqv y d) else es.any fun y=>PyData.eqv y d))) else none:=by
  cases d <;> rfl
 rw [e2,if_pos (by rw [h.okD hn,l1];rfl),e1]
end L3
namespace L3
open PySem PySem.Spec
open PyProof.Rows hiding St
open L2
theorem iteB {b:Bool} {A B:Prop} (ht:b=true->A) (hf:b=false->B):if b=true then A else B:=by
 cases b with
 | true=>exact iteT (ht rfl)
 | false=>exact iteF (hf rfl)
theorem all_id {α:Type} (as:List α) (g:α->Bool):(if false=true then (as.map g).any id else (as.map g).all id)=as.all g:=by rw [if_neg Bool.false_ne_true,List.all_map];rfl
theorem all_ls {α:Type} (as:List α) (g:α->Bool):[PyData.list (as.map fun a => .bool (g a))] = [PyData.list ((as.map g).map PyData.bool)]:=by rw [List.map_map];rfl
theorem eqI {i j:Int}:eqF false (.int i) (.int j)=some (.o (.bool (decide (i=j)))):=by rw [eqF_int,if_neg Bool.false_ne_true]
theorem neI {i j:Int}:eqF true (.int i) (.int j)=some (.o (.bool (!decide (i=j)))):=by rw [eqF_int,if_pos rfl]
theorem dr {m:Int} {P:Int->Prop} (h0:0<m) (h1:m<1073741824) (q:∀ k:Nat,(k:Int)<m->P (k:Int)):0<m/\m<1073741824/\∀ k:Int,0<=k->k<m->P k :=
 ⟨h0,h1,fun k k0 k1=>by obtain ⟨n,rfl⟩:=Int.eq_ofNat_of_zero_le k0;exact q n k1⟩
theorem abc_lt {k:Nat} (h:(k:Int)<26):k<abc.length:=by rw [show abc.length=26 by decide];omega
theorem mem_abc {c:Nat}:c ∈ abc↔97<=c/\c<=122:=by
 unfold abc
 rw [List.mem_map]
 constructor
 ·rintro ⟨a,ha,rfl⟩
  have:=List.mem_range.mp ha
  omega
 ·rintro ⟨h1,h2⟩
  exact ⟨c - 97,List.mem_range.mpr (by omega),by omega⟩
theorem not_t {b:Bool} (h:(!b)=true):b=false:=by cases b with | true=>cases h | false=>rfl
theorem not_f {b:Bool} (h:(!b)=false):b=true:=by cases b with | true=>rfl | false=>cases h
theorem eqS_t {neg:Bool} {x:PySem.Str} (h:PyData.strOk x=true):eqF neg (.str x) (.str x)=some (.o (.bool (!neg))):=by
 rw [eqF_str h h,beq_self_eq_true]
 cases neg <;> rfl
theorem eqS_f {neg:Bool} {x y:PySem.Str} (h:(PyData.strOk x && PyData.strOk y)=true) (n:(x == y)=false):eqF neg (.str x) (.str y)=some (.o (.bool neg)):=by
 obtain ⟨a,b⟩:=Bool.and_eq_true_iff.mp h
 rw [eqF_str a b,n]
 cases neg <;> rfl
def strsOf:List PyData->Bool
 | []=>true
 | .str x::ds=>PyData.strOk x && strsOf ds
 | _=>false
def inStrs (x:PySem.Str):List PyData->Bool
 | []=>false
 | .str y::ds=>x == y || inStrs x ds
 | _::ds=>inStrs x ds
theorem sl_strs:∀ {ds:List PyData},strsOf ds=true->Sl 1 (.tuple ds)
 | [],_=>sl_nil 0
 | .str x::ds,h=>by
   obtain ⟨a,b⟩:=Bool.and_eq_true_iff.mp h
   exact sl_cons (sl_txt a) (sl_strs b)
theorem inStrs_iff {x:PySem.Str}:∀ {ds:List PyData},inStrs x ds=true ↔ .str x ∈ ds
 | []=>by simp [inStrs]
 | .str y::ds=>by
   rw [inStrs,Bool.or_eq_true,beq_iff_eq,inStrs_iff (ds:=ds),List.mem_cons]
   constructor
   ·rintro (rfl | h)
    ·exact .inl rfl
    ·exact .inr h
   ·rintro (h | h)
    ·exact .inl (PyData.str.inj h)
    ·exact .inr h
 | .none::ds=>by show inStrs x ds=true↔_;rw [inStrs_iff (ds:=ds)];simp
 | .int _::ds=>by show inStrs x ds=true↔_;rw [inStrs_iff (ds:=ds)];simp
 | .bool _::ds=>by show inStrs x ds=true↔_;rw [inStrs_iff (ds:=ds)];simp
 | .list _::ds=>by show inStrs x ds=true↔_;rw [inStrs_iff (ds:=ds)];simp
 | .tuple _::ds=>by show inStrs x ds=true↔_;rw [inStrs_iff (ds:=ds)];simp
 | .dict _::ds=>by show inStrs x ds=true↔_;rw [inStrs_iff (ds:=ds)];simp
theorem inS_t {neg:Bool} {x:PySem.Str} {ds:List PyData} (h:(PyData.strOk x && strsOf ds && inStrs x ds)=true):inF neg (.str x) (.tuple ds)=some (.o (.bool (!neg))):=by
 obtain ⟨h,c⟩:=Bool.and_eq_true_iff.mp h
 obtain ⟨a,b⟩:=Bool.and_eq_true_iff.mp h
 rw [in_slT (sl_txt a) (sl_strs b) (by decide) (q:=true) ⟨fun _=>inStrs_iff.mp c,fun _=>rfl⟩]
 cases neg <;> rfl
theorem inS_f {neg:Bool} {x:PySem.Str} {ds:List PyData} (h:(PyData.strOk x && strsOf ds && !inStrs x ds)=true):inF neg (.str x) (.tuple ds)=some (.o (.bool neg)):=by
 obtain ⟨h,c⟩:=Bool.and_eq_true_iff.mp h
 obtain ⟨a,b⟩:=Bool.and_eq_true_iff.mp h
 rw [in_slT (sl_txt a) (sl_strs b) (by decide) (q:=false) ⟨fun z=>(Bool.false_ne_true z).elim,fun z=>by rw [inStrs_iff.mpr z] at c;cases c⟩]
 cases neg <;> rfl
end L3
namespace L3
open PySem PySem.Spec
open PyProof.Rows hiding St
open L2
structure Lng (w:List Nat):Prop where
 len:w.length<=100000
 sgn:∀ c ∈ w,c<128
theorem Lng.ok {w:List Nat} (h:Lng w):PyData.strOk (tx w)=true:=by
 unfold PyData.strOk tx
 simp only [List.all_toArray,List.all_eq_true,decide_eq_true_eq]
 intro c hc
 have:=h.sgn c hc
 omega
theorem lng_len {w:List Nat} (h:Lng w):lenF [PyData.str (tx w)]=some (.o (.int (w.length:Nat))):=len_tx (Nat.le_trans h.len (by decide))
noncomputable def cutW (c:Nat) (t:List Nat):List (List Nat):=Classical.choose (words_of c t)
section
variable (c : Nat) (t : List Nat)
theorem cutW_ne:cutW c t ≠ []:=(Classical.choose_spec (words_of c t)).1
theorem cutW_join:joinL c (cutW c t)=t:=(Classical.choose_spec (words_of c t)).2.1.symm
theorem cutW_free:∀ w ∈ cutW c t,c ∉ w:=(Classical.choose_spec (words_of c t)).2.2.1
theorem cutW_in:∀ w ∈ cutW c t,w.length<=t.length/\∀ x ∈ w,x ∈ t:=(Classical.choose_spec (words_of c t)).2.2.2.1
theorem cutW_len:(cutW c t).length<=t.length+1:=(Classical.choose_spec (words_of c t)).2.2.2.2
theorem cutW_pos:0<(cutW c t).length:=List.length_pos_iff.mpr (cutW_ne c t)
theorem split_cut:Txt.split (tx t) ⟨#[c]⟩=(cutW c t).map tx:=by
 have:=split_words (cutW_ne c t) (cutW_free c t)
 rwa [cutW_join] at this
end
theorem cutW_lng {c:Nat} {t:List Nat} (h:Lng t) {w:List Nat} (hw:w ∈ cutW c t):Lng w:=⟨Nat.le_trans (cutW_in c t w hw).1 h.len,fun x hx=>h.sgn x ((cutW_in c t w hw).2 x hx)⟩
theorem split_txs (c:Nat) (t:List Nat):((Txt.split (tx t) ⟨#[c]⟩).map PyData.str)=(cutW c t).map fun w => .str (tx w):=by rw [split_cut,List.map_map];rfl
def digB (w:List Nat):Bool:=w.all fun c=>decide (48<=c) && decide (c<=57)
def isNumB (w:List Nat):Bool:=digB w && (decide (1<=w.length) && decide (w.length<=3)) && (decide (w = [48]) || !decide (w.head? = some 48))
def numT (n:Nat):List Nat:=(Nat.toDigits 10 n).map Char.toNat
theorem numT_ok:∀ n,n<1000->isNumB (numT n)=true/\(numT n).length<=3/\(∀ c ∈ numT n,48<=c/\c<58):=by decide +kernel
theorem str_num (n:Nat):Str.ofString (toString ((n:Nat):Int))=tx (numT n):=str_ext (by rw [tx_toList];exact PySem.W.KIN.signs_num n)
theorem int_num {n:Nat} (h:n<1000):intUF [.str (tx (numT n))]=some (.o (.int (n:Nat))):=by
 obtain ⟨_,h2,_⟩:=numT_ok n h
 show (if (tx (numT n)).length<=640 then (PySem.intText? (tx (numT n))).map fun n=>R.o (.int n) else none)=_
 rw [tx_len,if_pos (by omega),<- str_num,PySem.W.KIN.num_reads (by omega) (by omega)]
 rfl
def valW (w:List Nat):Nat:=w.foldl (fun a c=>10 * a+(c - 48)) 0
theorem num1:∀ a:Fin 10,numT (valW [a.val+48]) = [a.val+48]:=by decide +kernel
theorem num2:∀ a b:Fin 10,a.val ≠ 0->numT (valW [a.val+48,b.val+48]) = [a.val+48,b.val+48]/\valW [a.val+48,b.val+48]<1000:=by decide +kernel
theorem num3':∀ a b c:Fin 10,a.val ≠ 0->numT (valW [a.val+48,b.val+48,c.val+48]) = [a.val+48,b.val+48,c.val+48]/\valW [a.val+48,b.val+48,c.val+48]<1000:=by decide +kernel
theorem dig_fin {c:Nat} (h1:48<=c) (h2:c<=57):∃ a:Fin 10,c=a.val+48:=⟨⟨c - 48,by omega⟩,by show c=c - 48+48;omega⟩
theorem isNum_num {w:List Nat} (h:isNumB w=true):numT (valW w)=w/\valW w<1000:=by
 unfold isNumB at h
 simp only [Bool.and_eq_true,Bool.or_eq_true,decide_eq_true_eq,Bool.not_eq_true',decide_eq_false_iff_not] at h
 obtain ⟨⟨hd,h1,h3⟩,h0⟩:=h
 unfold digB at hd
 rw [List.all_eq_true] at hd
 have hc:∀ c ∈ w,∃ a:Fin 10,c=a.val+48:=fun c hc=>by
  have:=hd c hc
  simp only [Bool.and_eq_true,decide_eq_true_eq] at this
  exact dig_fin this.1 this.2
 match w,h1,h3,h0,hc with
 | [x],_,_,_,hc =>
   obtain ⟨a,rfl⟩:=hc x (by simp)
   refine ⟨num1 a,?_⟩
   show 10 * 0+(a.val+48 - 48)<1000
   have:=a.isLt
   omega
 | [x,y],_,_,h0,hc =>
   obtain ⟨a,rfl⟩:=hc x (by simp)
   obtain ⟨b,rfl⟩:=hc y (by simp)
   exact num2 a b fun z=>by
    rcases h0 with h0 | h0
    ·simp at h0
    ·simp [z] at h0
 | [x,y,u],_,_,h0,hc =>
   obtain ⟨a,rfl⟩:=hc x (by simp)
   obtain ⟨b,rfl⟩:=hc y (by simp)
   obtain ⟨c,rfl⟩:=hc u (by simp)
   exact num3' a b c fun z=>by
    rcases h0 with h0 | h0
    ·simp at h0
    ·simp [z] at h0
 | _::_::_::_::_,_,h3,_,_=>simp at h3
theorem int_val {w:List Nat} (h:isNumB w=true):intUF [.str (tx w)]=some (.o (.int (valW w:Nat))):=by
 obtain ⟨e,hl⟩:=isNum_num h
 have:=int_num hl
 rwa [e] at this
theorem valW_num {n:Nat} (h:n<1000):valW (numT n)=n:=by
 have h1:=int_num h
 rw [int_val (numT_ok n h).1] at h1
 have:=PyData.int.inj (R.o.inj (Option.some.inj h1))
 omega
abbrev tsD (ws:List (List Nat)):List PyData:=ws.map fun w => .str (tx w)
theorem eq_tx {neg:Bool} {a b:List Nat} (ha:Lng a) (hb:Lng b):eqF neg (.str (tx a)) (.str (tx b))=some (.o (.bool (if neg then !decide (a=b) else decide (a=b)))) :=
 eq_sl (sl_txt ha.ok) (sl_txt hb.ok) (by decide) (by rw [decide_eq_true_eq];exact ⟨fun e=>by rw [e],fun e=>tx_inj (PyData.str.inj e)⟩)
def totW (ws:List (List Nat)):Nat:=(ws.map fun w=>w.length+1).sum
theorem tot_cons (w:List Nat) (ws:List (List Nat)):totW (w::ws)=w.length+1+totW ws:=by unfold totW;rw [List.map_cons,List.sum_cons]
theorem tot_one (w:List Nat):totW [w]=w.length+1:=rfl
theorem tot_mem:∀ {ws:List (List Nat)} {w:List Nat},w ∈ ws->w.length+1<=totW ws
 | x::ws,w,h=>by
   rw [tot_cons]
   rcases List.mem_cons.mp h with rfl | z
   ·omega
   ·have:=tot_mem z;omega
theorem tot_len:∀ ws:List (List Nat),ws.length<=totW ws
 | []=>Nat.le_refl _
 | w::ws=>by rw [tot_cons,List.length_cons];have:=tot_len ws;omega
theorem joinL_tot {c:Nat}:∀ {ws:List (List Nat)},ws ≠ []->(joinL c ws).length+1=totW ws
 | [],h=>absurd rfl h
 | [w],_=>by show w.length+1=_;rw [tot_one]
 | w::y::r,_=>by
   rw [joinL_cons (by simp),tot_cons,<- joinL_tot (c:=c) (ws:=y::r) (by simp),List.length_append,List.length_cons]
   omega
theorem joinL_le {c:Nat} (ws:List (List Nat)):(joinL c ws).length<=totW ws:=by
 cases ws with
 | nil=>exact Nat.zero_le _
 | cons w ws=>have:=joinL_tot (c:=c) (ws:=w::ws) (by simp);omega
theorem glued (c:Nat):∀ (r:List (List Nat)) (acc:Array Nat),((r.map tx).foldl (fun acc p=>acc++(⟨#[c]⟩:PySem.Str).cps++p.cps) acc).toList=acc.toList++(r.map fun w=>c::w).flatten
 | [],acc=>by simp
 | w::r,acc=>by
   rw [List.map_cons,List.foldl_cons,glued c r]
   simp [tx]
theorem join_txs (c:Nat) (ws:List (List Nat)):Txt.join ⟨#[c]⟩ (ws.map tx)=tx (joinL c ws):=by
 cases ws with
 | nil=>rfl
 | cons x r =>
   refine str_ext ?_
   rw [tx_toList,joinL_flat]
   show ((r.map tx).foldl (fun acc p=>acc++(⟨#[c]⟩:PySem.Str).cps++p.cps) (tx x).cps).toList=_
   rw [glued,tx_toList]
theorem sum_tot:∀ ws:List (List Nat),((ws.map tx).map (·.length)).sum+ws.length=totW ws
 | []=>rfl
 | w::ws=>by
   have:=sum_tot ws
   rw [List.map_cons,List.map_cons,List.sum_cons,List.length_cons,tot_cons,tx_len]
   omega
theorem join_ts {c:Nat} {ws:List (List Nat)} (hz:totW ws<=16777216) :
 ∃ ys:List PySem.Str,PyData.list (tsD ws) = .list (ys.map .str)/\(ys.map (·.length)).sum+ys.length * (⟨#[c]⟩:PySem.Str).length<=16777216/\Txt.join ⟨#[c]⟩ ys=tx (joinL c ws):=by
 refine ⟨ws.map tx,by rw [List.map_map];rfl,?_,join_txs c ws⟩
 rw [show (⟨#[c]⟩:PySem.Str).length=1 from rfl,Nat.mul_one,List.length_map,sum_tot]
 exact hz
theorem mem_join {c x:Nat}:∀ {ws:List (List Nat)},x ∈ joinL c ws->x=c\/∃ w ∈ ws,x ∈ w
 | [],h=>(List.not_mem_nil h).elim
 | [w],h => .inr ⟨w,by simp,h⟩
 | w::y::r,h=>by
   rw [joinL_cons (by simp)] at h
   rcases List.mem_append.mp h with z | z
   ·exact .inr ⟨w,by simp,z⟩
   ·rcases List.mem_cons.mp z with z | z
    ·exact .inl z
    ·rcases mem_join z with e | ⟨v,hv,hx⟩
     ·exact .inl e
     ·exact .inr ⟨v,List.mem_cons_of_mem _ hv,hx⟩
def cds (s:String):List Nat:=(Str.ofString s).cps.toList
theorem cds_eq (s:String):Str.ofString s=tx (cds s):=str_ext (by rw [tx_toList];rfl)
def plainB (w:List Nat):Bool:=w.all fun c=>decide (c<128)
theorem plain_of {w:List Nat} (h:plainB w=true):∀ c ∈ w,c<128:=fun c hc=>of_decide_eq_true (List.all_eq_true.mp h c hc)
theorem lng_of {w:List Nat} (h:(plainB w && decide (w.length<=1000))=true):Lng w:=by
 obtain ⟨a,b⟩:=Bool.and_eq_true_iff.mp h
 exact ⟨Nat.le_trans (of_decide_eq_true b) (by decide),plain_of a⟩
end L3
namespace L3
open PySem PySem.Spec
open PyProof.Rows hiding St
open L2
inductive Deed where
 | go
 | send (l c:Nat)
 | take (l c:Nat)
 | empty (l:Nat)
 | put (f v:Nat)
 | test (f v:Nat)
deriving DecidableEq
def encDe:Deed->PyData
 | .go => .tuple [.str "go"]
 | .send l c => .tuple [.str "send", .int l,.str (tx [c])]
 | .take l c => .tuple [.str "take", .int l,.str (tx [c])]
 | .empty l => .tuple [.str "empty", .int l]
 | .put f v => .tuple [.str "set", .int f,.int v]
 | .test f v => .tuple [.str "if", .int f,.int v]
structure Rul where
 p:Nat
 d:Deed
 q:Nat
def encRu (r:Rul):PyData := .tuple [.int r.p,encDe r.d,.int r.q]
structure Hnd where
 n:Nat
 rs:List Rul
def encHd (h:Hnd):PyData := .tuple [.int h.n,.tuple (h.rs.map encRu)]
structure Hou where
 ls:List Nat
 lines:Nat
 flags:Nat
 hands:List Hnd
def encHo (h:Hou):PyData := .tuple [.str (tx h.ls),.int h.lines,.int h.flags,.tuple (h.hands.map encHd)]
def DeOk (ls:List Nat) (l f:Nat):Deed->Prop
 | .go=>True
 | .send i c=>i<l/\c ∈ ls
 | .take i c=>i<l/\c ∈ ls
 | .empty i=>i<l
 | .put i v=>i<f/\v<2
 | .test i v=>i<f/\v<2
structure HoOk (h:Hou):Prop where
 low:LowW h.ls
 ne:h.ls ≠ []
 short:h.ls.length<=100
 lines:h.lines<=100
 flags:h.flags<=100
 many:h.hands.length<=100
 pos:∀ x ∈ h.hands,0<x.n/\x.n<=100
 rules:∀ x ∈ h.hands,x.rs.length<=100/\∀ r ∈ x.rs,DeOk h.ls h.lines h.flags r.d/\r.p<=100/\r.q<=100
theorem getD_of {α:Type} {xs:List α} {i:Nat} {z:α} (h:i<xs.length):xs[i]? = some (xs.getD i z):=by
 rw [List.getD_eq_getElem?_getD,List.getElem?_eq_getElem h]
 rfl
theorem dec_nat (a b:Nat):decide ((a:Int)=(b:Int))=decide (a=b):=by
 by_cases h:a=b
 ·rw [decide_eq_true h,decide_eq_true (congrArg _ h)]
 ·rw [decide_eq_false h];exact decide_eq_false fun z=>h (Int.ofNat_inj.mp z)
theorem nat_eq (a b:Nat):eqF false (.int (a:Nat)) (.int (b:Nat))=some (.o (.bool (decide (a=b)))):=by
 rw [eqF_int,if_neg Bool.false_ne_true,dec_nat]
theorem mem_getD {α:Type} {xs:List α} {i:Nat} {z:α} (h:i<xs.length):xs.getD i z ∈ xs:=List.mem_of_getElem? (getD_of h)
theorem sub_few {α:Type} [DecidableEq α]:∀ {zs ys:List α},zs.Nodup->(∀ k ∈ zs,k ∈ ys)->zs.length<=ys.length
 | [],_,_,_=>Nat.zero_le _
 | z::zs,ys,nd,h=>by
   have n1:=List.nodup_cons.mp nd
   have hz:z ∈ ys:=h z List.mem_cons_self
   have:=sub_few (zs:=zs) (ys:=ys.erase z) n1.2 fun k hk=>(List.mem_erase_of_ne (fun (e:k=z)=>n1.1 (by rw [<- e];exact hk))).mpr (h k (List.mem_cons_of_mem _ hk))
   rw [List.length_erase_of_mem hz] at this
   have:=List.length_pos_of_mem hz
   rw [List.length_cons]
   omega
theorem sgs_one:∀ {zs:List PySem.Str} {cs:List Nat},(∀ z ∈ zs,∃ c ∈ cs,z=tx [c])->∃ ls:List Nat,zs=ls.map (fun c=>tx [c])/\∀ c ∈ ls,c ∈ cs
 | [],_,_=>⟨[],rfl,fun _ h=>nomatch h⟩
 | z::zs,cs,h=>by
   obtain ⟨c,hc,rfl⟩:=h z List.mem_cons_self
   obtain ⟨ls,rfl,hl⟩:=sgs_one (zs:=zs) (cs:=cs) fun x hx=>h x (List.mem_cons_of_mem _ hx)
   exact ⟨c::ls,rfl,fun x hx=>by
    rcases List.mem_cons.mp hx with rfl | hx
    ·exact hc
    ·exact hl x hx⟩
theorem comp_each {α β:Type} {enc:α->PyData} {enc2:β->PyData} {good:β->Prop} {i h:Nat} {fe:DE} {ρ:DSt} {Q:List PyData->Prop} {as:List α}
 (step:∀ a ∈ as,∀ (Py:PyData->Prop),(∀ b,good b->Py (enc2 b))->fe ((List.replicate h none++ρ).set i (some (.im (enc a)))) (fun r=>Py r.d))
 (hz:as.length<=1000) (q:∀ bs:List β,(∀ b ∈ bs,good b)->bs.length=as.length->Q (bs.map enc2)):compGo h (gN i) (fun _ Q=>Q true) fe ρ Q (as.map enc) []:=by
 have sz:=sizeLine_eq
 have key:∀ (l:List α) (bs:List β),(∀ a ∈ l,a ∈ as)->(∀ b ∈ bs,good b)->bs.length+l.length=as.length->compGo h (gN i) (fun _ Q=>Q true) fe ρ Q (l.map enc) (bs.map enc2):=by
  intro l
  induction l with
  | nil=>intro bs _ hb hl;exact q bs hb hl
  | cons a l ih =>
    intro bs hs hb hl
    rw [List.length_cons] at hl
    refine iteT (B:=True) (step a (hs a List.mem_cons_self) (fun d=>(bs.map enc2).length<sizeLine/\compGo h (gN i) (fun _ Q=>Q true) fe ρ Q (l.map enc) (bs.map enc2 ++ [d])) fun b gb=>⟨by rw [List.length_map];omega,?_⟩)
    have:=ih (bs ++ [b]) (fun x hx=>hs x (List.mem_cons_of_mem _ hx)) (fun x hx=>by rcases List.mem_append.mp hx with hx | hx; (exact hb x hx); (rw [List.mem_singleton.mp hx];exact gb)) (by rw [List.length_append,List.length_singleton];omega)
    rwa [List.map_append] at this
 exact key as [] (fun _ h=>h) (by simp) (by simp)
theorem flat_ru (r:Rul):flat (encRu r)=true:=by
 obtain ⟨p,d,q⟩:=r
 cases d <;> rfl
theorem flat_hd (h:Hnd):flat (encHd h)=true:=by
 show (true && (flats (h.rs.map encRu) && true))=true
 rw [flats_map flat_ru]
 rfl
def RuOk (ls:List Nat) (l f:Nat) (r:Rul):Prop:=DeOk ls l f r.d/\r.p<=100/\r.q<=100
def HdOk (ls:List Nat) (l f:Nat) (x:Hnd):Prop:=(0<x.n/\x.n<=100)/\x.rs.length<=100/\∀ r ∈ x.rs,RuOk ls l f r
theorem mem_snoc {α:Type} {P:α->Prop} {xs:List α} {a:α} (h:∀ x ∈ xs,P x) (ha:P a):∀ x ∈ xs ++ [a],P x:=fun x hx=>by
 rcases List.mem_append.mp hx with hx | hx
 ·exact h x hx
 ·rw [List.mem_singleton.mp hx];exact ha
def deedF:List PyData->(R->Prop)->Prop:=fun ds Q=>∃ (ls:List Nat) (l f:Nat),ds = [.str (tx ls),.int (l:Nat),.int (f:Nat)]/\ls ≠ []/\ls.length<=100/\0<l/\l<=100/\f<=100/\∀ d,DeOk ls l f d->Q (.o (encDe d))
theorem drop_at {α:Type} {xs:List α} {j:Nat} {x:α} (h:xs[j]? = some x):xs.drop j=x::xs.drop (j+1):=by
 obtain ⟨hj,rfl⟩:=List.getElem?_eq_some_iff.mp h
 exact List.drop_eq_getElem_cons hj
def Al:Nat->PyData->Prop
 | 0,_=>False
 | _+1,.int _=>True
 | _+1,.str x=>PyData.strOk x=true
 | m+1,.tuple ds=>ds.length<=100000/\flats ds=true/\∀ d ∈ ds,Al m d
 | _+1,_=>False
def alkDF (m:Nat):List PyData->(R->Prop)->Prop:=fun ds Q=>∃ d,ds = [d,d]/\Al m d/\Q (.o (.bool true))
theorem alkDF_zero {ds:List PyData} {Q:R->Prop} (h:alkDF 0 ds Q):False:=by
 obtain ⟨d,_,h,_⟩:=h
 cases d <;> exact h
end L3
namespace L3
open PySem PySem.Spec
open PyProof.Rows hiding St
open L2
theorem al_map {α:Type} {f:α->PyData} {m:Nat} {xs:List α} (hl:xs.length<=100000) (hf:∀ x,flat (f x)=true) (h:∀ x ∈ xs,Al m (f x)):Al (m+1) (.tuple (xs.map f)) :=
 ⟨by rw [List.length_map];exact hl,flats_map hf xs,fun d hd=>by
  obtain ⟨x,hx,rfl⟩:=List.mem_map.mp hd
  exact h x hx⟩
theorem flat_ho (h:Hou):flat (encHo h)=true:=by
 show (true && (true && (true && (flats (h.hands.map encHd) && true))))=true
 rw [flats_map flat_hd]
 rfl
end L3
namespace L3
open PySem PySem.Spec
open PyProof.Rows hiding St
open L2
def isOwn:Option DV->Bool
 | some (.own _)=>true
 | some (.dct _)=>true
 | some (.gen _ _)=>true
 | some (.thg _)=>true
 | _=>false
theorem noOwn_all {ρ:DSt} (h:∀ o ∈ ρ,isOwn o=false):noOwn ρ:=by
 refine ⟨fun i ds e=>?_,fun i ks e=>?_,fun i f ds e=>?_,fun i T e=>?_⟩ <;>
 ·have:=h _ (List.mem_of_getElem? e)
  cases this
def NoA:DSt->Prop
 | []=>True
 | o::r=>isOwn o=false/\NoA r
theorem noOwn_of:∀ {ρ:DSt},NoA ρ->noOwn ρ:=fun {ρ} h=>noOwn_all (by
 have go:∀ l:DSt,NoA l->∀ o ∈ l,isOwn o=false:=by
  intro l
  induction l with
  | nil=>intro _ o ho;exact (List.not_mem_nil ho).elim
  | cons a l ih =>
    intro hl o ho
    rcases List.mem_cons.mp ho with rfl | ho
    ·exact hl.1
    ·exact ih hl.2 o ho
 exact go ρ h)
end L3
namespace HK
open PySem PySem.Spec PyProof.Rows PySem.SetTable SX
noncomputable instance:DecidableEq PyData:=fun a b=>Classical.propDecidable (a=b)
end HK
namespace L3
open PySem PySem.Spec
open PyProof.Rows hiding St
open L2
structure HouGood (h:Hou):Prop where
 ok:HoOk h
 rise:h.ls.Pairwise (· < ·)
 l3:h.ls.length<=3
 lines0:1<=h.lines
 lines:h.lines<=2
 flags:h.flags<=2
 hands0:1<=h.hands.length
 hands:h.hands.length<=2
 rooms:∀ x ∈ h.hands,1<=x.n/\x.n<=3/\x.rs.length<=5/\∀ r ∈ x.rs,r.p<x.n/\r.q<x.n
def houseGF:List PyData->(R->Prop)->Prop:=fun ds Q=>∃ n:Nat,ds = [.int (n:Nat)]/\n<=5/\∀ h,HouGood h->Q (.o (encHo h))
def alphaGF:List PyData->(R->Prop)->Prop:=fun ds Q=>∃ n:Nat,ds = [.int (n:Nat)]/\0<n/\n<=26/\∀ ls:List Nat,LowW ls->ls ≠ []->ls.length<=n->ls.Pairwise (· < ·)->Q (.o (.str (tx ls)))
end L3
namespace L3
open PySem PySem.Spec
open PyProof.Rows hiding St
open L2
def thD (w:List Nat):PyData:=if isNumB w=true then .int (valW w:Nat) else .str (tx w)
noncomputable def rowsT (t:List Nat):List (List (List Nat)):=(cutW 10 t).map (cutW 32)
def WsOk (ws:List (List Nat)):Prop:=0<ws.length/\ws.length<=100001/\∀ w ∈ ws,Lng w
def readGR:Nat ⊕ PyData->R
 | .inl i => .o (excD "NoText" ["at"] [.int (i:Nat)])
 | .inr d => .o d
def letterTF:List PyData->(R->Prop)->Prop:=fun ds Q=>∃ w:List Nat,ds = [.str (tx w)]/\Lng w/\Q (.o (.bool (decide (w.length=1) && lowB w)))
def numberTF:List PyData->(R->Prop)->Prop:=fun ds Q=>∃ w:List Nat,ds = [.str (tx w)]/\Lng w/\Q (.o (.bool (isNumB w)))
def shapeTF:List PyData->(R->Prop)->Prop:=fun ds Q=>∃ w:List Nat,ds = [.str (tx w)]/\Lng w/\Q (.o (.str (if isNumB w=true then Str.ofString "0" else if (decide (w.length=1) && lowB w)=true then Str.ofString "a" else Str.ofString "?")))
def valueTF:List PyData->(R->Prop)->Prop:=fun ds Q=>∃ w:List Nat,ds = [.str (tx w)]/\Lng w/\Q (.o (thD w))
theorem rows_pos (t:List Nat):0<(rowsT t).length:=by unfold rowsT;rw [List.length_map];exact cutW_pos 10 t
theorem rows_ok {t:List Nat} (h:Lng t):∀ ws ∈ rowsT t,WsOk ws:=fun ws hw=>by
 obtain ⟨r,hr,rfl⟩:=List.mem_map.mp hw
 have hl:=cutW_lng h hr
 exact ⟨cutW_pos 32 r,Nat.le_trans (cutW_len 32 r) (by have:=hl.len;omega),fun w hw=>cutW_lng hl hw⟩
theorem idx_ts {ws:List (List Nat)} {i:Nat} (h:i<ws.length):idxF (.list (tsD ws)) (.int (i:Nat))=some (.o (.str (tx (ws.getD i [])))):=idx_lst (by
 rw [List.getElem?_map,getD_of (z := []) h];rfl)
theorem getD_lng {ws:List (List Nat)} (h:∀ w ∈ ws,Lng w) (i:Nat):Lng (ws.getD i []):=by
 by_cases hi:i<ws.length
 ·exact h _ (mem_getD hi)
 ·rw [List.getD_eq_getElem?_getD,List.getElem?_eq_none (by omega)]
  exact ⟨by decide,by simp⟩
theorem cut2 (ws:List (List Nat)):slcF (some 2) none (.list (tsD ws))=some (.n (tsD (ws.drop 2))):=by
 show some (R.n (cutL (tsD ws) (some ((2:Nat):Int)) none))=_
 rw [cut_from,<- List.map_drop]
theorem len_ts (ws:List (List Nat)):lenF [PyData.list (tsD ws)]=some (.o (.int (ws.length:Nat))):=by
 show some (R.o (.int ((tsD ws).length:Nat)))=_
 rw [List.length_map]
theorem lng1 (c:Nat) (h:c<128:=by decide):Lng [c]:=⟨Nat.le_of_ble_eq_true rfl,fun d hd=>by rw [List.mem_singleton.mp hd];exact h⟩
theorem eq_lit {w v:List Nat} {neg:Bool} {x:String} (e:Str.ofString x=tx v) (h:Lng w) (hv:Lng v):eqF neg (.str (tx w)) (.str (Str.ofString x))=some (.o (.bool (if neg then !decide (w=v) else decide (w=v)))):=by
 rw [e];exact eq_tx h hv
theorem e_feedT:Str.ofString "\n" = ⟨#[10]⟩:=by decide +kernel
theorem e_blankT:Str.ofString " " = ⟨#[32]⟩:=by decide +kernel
abbrev rwD (ws:List (List Nat)):PyData := .list (tsD ws)
theorem rows_map (t:List Nat):((cutW 10 t).map fun r=>rwD (cutW 32 r))=(rowsT t).map rwD:=by unfold rowsT;rw [List.map_map];rfl
theorem idx_rw {rs:List (List (List Nat))} {i:Nat} (h:i<rs.length):idxF (.list (rs.map rwD)) (.int (i:Nat))=some (.o (rwD (rs.getD i []))):=idx_lst (by
 rw [List.getElem?_map,getD_of (z := []) h];rfl)
theorem len_rw (rs:List (List (List Nat))):lenF [PyData.list (rs.map rwD)]=some (.o (.int (rs.length:Nat))):=by
 show some (R.o (.int ((rs.map rwD).length:Nat)))=_
 rw [List.length_map]
theorem rows_len (t:List Nat):(rowsT t).length<=t.length+1:=by unfold rowsT;rw [List.length_map];exact cutW_len 10 t
theorem str_nat {k:Nat} (h:k<1000):strF [.int (k:Nat)]=some (.o (.str (tx (numT k)))):=by
 show (if ((k:Nat):Int).natAbs.log2<1920 then some (R.o (.str (Str.ofString (toString ((k:Nat):Int))))) else none)=_
 rw [if_pos,str_num]
 rw [Int.natAbs_natCast]
 exact Nat.lt_of_le_of_lt (Nat.log2_le_self k) (by omega)
theorem num_short {k:Nat} (h:k<1000):(numT k).length<=3/\∀ c ∈ numT k,c<128:=⟨(numT_ok k h).2.1,fun c hc=>by have:=(numT_ok k h).2.2 c hc;omega⟩
theorem tot_few {ws:List (List Nat)} {m:Nat} (h:∀ w ∈ ws,w.length<=m):totW ws<=ws.length * (m+1):=by
 induction ws with
 | nil=>exact Nat.zero_le _
 | cons w ws ih =>
   rw [tot_cons,List.length_cons,Nat.succ_mul]
   have h1:=h w List.mem_cons_self
   have h2:=ih fun x hx=>h x (List.mem_cons_of_mem _ hx)
   omega
theorem add_ts {a b:List (List Nat)} (h:a.length+b.length<=16777216):addF (.list (tsD a)) (.list (tsD b))=some (.n (tsD (a++b))):=by
 rw [add_lst (by rw [List.length_map,List.length_map];exact h),<- List.map_append]
end L3
namespace L3
open PySem PySem.Spec
open PyProof.Rows hiding St
open L2
section
variable {K : PySem.W.Frag} {O : Ob} {H₀ H H' : Hp} {A : Nat → Addr → Prop} {σ : St} {ρ : DSt}
def reg (A:Nat->Addr->Prop) (i:Nat) (W:Addr->Prop):Nat->Addr->Prop:=fun j b=>(j ≠ i/\A j b)\/(j=i/\W b)
theorem Rep.tstay {i:Nat} (r:Rep K O H₀ A H σ ρ) (stay:∀ b u,H b=some u->¬ A i b->H' b=some u):TupStay H H':=fun b u hu hb=>stay b u hb fun z=>by
 obtain ⟨_,⟨o,q,ho⟩,_⟩:=r.own i b z
 rw [hb] at q
 cases q
 obtain ⟨us,e1 | ⟨o',e1⟩⟩:=hu
 ·exact (ho us).1 e1
 ·exact (ho us).2 o' e1
theorem Rep.setT {i:Nat} {v:V} {W:Addr->Prop} {T:Thg} {H1:Hp} (r:Rep K O H₀ A H σ ρ) (s:Stp O H H1) (stay1:∀ b u,H1 b=some u->¬ A i b->H' b=some u) (hW:∀ b,W b->(A i b\/H b=Option.none)/\∃ o,H' b=some o/\OwnO o)
 (hR:T.R K (unO O (reg A i W)) W H' v):Rep K O H₀ (reg A i W) H' (σ.set i (some v)) (ρ.set i (some (.thg T))):=by
 have ts1:=(r.stp s).tstay stay1
 have ts:TupStay H H':=fun b u hu hb=>ts1 b u hu (s.t b u hu hb)
 have nA:∀ b,O.M b->¬ A i b:=fun b m z=>(r.own i b z).2.2 m
 have stay:∀ b u,H b=some u->¬ A i b->¬ O.M b->H' b=some u:=fun b u e z m=>stay1 b u (s.s b u e m) z
 have sM:∀ b,O.M b->H' b=H1 b:=fun b m=>by
  obtain ⟨o,e⟩:=r.ok.here H1 b (s.p r.p) m
  rw [e,stay1 b o e (nA b m)]
 have pp:O.P H':=r.ok.loc H1 _ sM (s.p r.p)
 have oth:∀ {j b},j ≠ i->A j b->¬ A i b:=fun hj a z=>hj (r.dis _ _ _ a z)
 have un:∀ b u,H b=some u->unO O A b->unO O (reg A i W) b:=fun b u e f=>⟨f.1,fun j z=>by
  rcases z with z | z
  ·exact f.2 j z.2
  ·rcases (hW b z.2).1 with y | y
   ·exact f.2 i y
   ·rw [e] at y;cases y⟩
 have tF:∀ b u,unO O A b->H b=some u->unO O (reg A i W) b/\H' b=some u:=fun b u f q=>⟨un b u q f,stay b u q (f.2 i) f.1⟩
 have mv:∀ {v d},Is K (unO O A) H v d->Is K (unO O (reg A i W)) H' v d:=fun z=>z.to (fun b ys f q=>tF b _ f q) fun b ys q=>SqT.stay (h:=q) ts
 have mvs:∀ {v d},IsAll K (unO O A) H v d->IsAll K (unO O (reg A i W)) H' v d:=fun z=>z.to (fun b ys f q=>tF b _ f q) fun b ys q=>SqT.stay (h:=q) ts
 have wm:∀ b,W b->H₀ b=Option.none/\¬ O.M b:=fun b w=>by
  rcases (hW b w).1 with z | z
  ·exact ⟨(r.own i b z).1,(r.own i b z).2.2⟩
  ·have m:¬ O.M b:=fun m=>by obtain ⟨o,e⟩:=r.ok.here H b r.p m;rw [z] at e;cases e
   exact ⟨r.st.s.free m z,m⟩
 refine ⟨r.ok,pp,r.p0,⟨fun b o hb n=>?_,fun _=>pp,fun b u hu hb=>ts b u hu (r.st.t b u hu hb)⟩,fun j k b x y=>?_,fun j b x=>?_,fun j x e=>?_,by rw [List.length_set,List.length_set];exact r.len⟩
 ·exact stay b o (r.st.s b o hb n) (fun z=>by rw [(r.own i b z).1] at hb;cases hb) n
 ·rcases x with x | x <;> rcases y with y | y
  ·exact r.dis j k b x.2 y.2
  ·rcases (hW b y.2).1 with z | z
   ·exact absurd (r.dis j i b x.2 z) x.1
   ·obtain ⟨_,⟨o,q,_⟩,_⟩:=r.own j b x.2;rw [z] at q;cases q
  ·rcases (hW b x.2).1 with z | z
   ·exact absurd (r.dis k i b y.2 z) y.1
   ·obtain ⟨_,⟨o,q,_⟩,_⟩:=r.own k b y.2;rw [z] at q;cases q
  ·exact x.1.trans y.1.symm
 ·rcases x with x | x
  ·obtain ⟨h0,⟨o,q,ho⟩,m⟩:=r.own j b x.2
   exact ⟨h0,⟨o,stay b o q (oth x.1 x.2) m,ho⟩,m⟩
  ·exact ⟨(wm b x.2).1,(hW b x.2).2,(wm b x.2).2⟩
 ·by_cases hj:i=j
  ·subst hj
   have hi:i<ρ.length:=by
    rcases Nat.lt_or_ge i ρ.length with z | z
    ·exact z
    ·rw [List.getElem?_eq_none (by simpa using z)] at e;cases e
   rw [List.getElem?_set_self hi] at e
   cases e
   exact ⟨v,List.getElem?_set_self (by have:=r.len;omega),T.to (fun b u f q=>⟨f,q⟩) (fun b u w q=>⟨.inr ⟨rfl,w⟩,q⟩) (TupStay.refl _) hR⟩
  ·rw [List.getElem?_set_ne hj] at e
   obtain ⟨w,h1,h2⟩:=r.at_ j x e
   have hj':j ≠ i:=fun z=>hj z.symm
   refine ⟨w,by rw [List.getElem?_set_ne hj];exact h1,?_⟩
   cases x with
   | im d=>exact mv h2
   | own es =>
     obtain ⟨b,ys,rfl,hb,hlb,hs⟩:=h2
     exact ⟨b,ys,rfl,.inl ⟨hj',hb⟩,stay b _ hlb (oth hj' hb) (r.own j b hb).2.2,mvs hs⟩
   | ob=>exact h2
   | scr n=>exact IsS.to (fun b u f q=>tF b u f q) h2
   | dct ks=>obtain ⟨b,hb,h2⟩:=h2;exact ⟨b,.inl ⟨hj',hb⟩,h2.to fun u q=>stay b u q (oth hj' hb) (r.own j b hb).2.2⟩
   | gen f ds=>obtain ⟨b,xs,e,hb,q,z⟩:=h2;exact ⟨b,xs,e,.inl ⟨hj',hb⟩,stay b _ q (oth hj' hb) (r.own j b hb).2.2,mvs z⟩
   | rd f ds=>obtain ⟨b,xs,e,hb,q,z⟩:=h2;exact ⟨b,xs,e,un b _ q hb,stay b _ q (hb.2 i) hb.1,mvs z⟩
   | exc C ns ds=>obtain ⟨xs,e,z⟩:=h2;exact ⟨xs,e.to fun b u f q=>tF b u f q,mvs z⟩
   | thg T=>exact T.to (fun b u f q=>tF b u f q) (fun b u w q=>⟨.inl ⟨hj',w⟩,stay b u q (oth hj' w) (r.own j b w).2.2⟩) ts h2
   | thr T=>obtain ⟨W',hw,z⟩:=h2;exact ⟨W',fun b w=>let ⟨f,o,q⟩:=hw b w; ⟨un b o q f,o,stay b o q (f.2 i) f.1⟩,T.to (fun b u f q=>tF b u f q) (fun b u w q=>⟨w,stay b u q ((hw b w).1.2 i) (hw b w).1.1⟩) ts z⟩
theorem Frm.setT {i:Nat} {W:Addr->Prop} {H1:Hp} (s:Stp O H H1) (stay:∀ b u,H1 b=some u->¬ A i b->H' b=some u) (hW:∀ b,W b->(A i b\/H b=Option.none)):Frm O A H (reg A i W) H':=fun b o e u=>⟨stay b o (s.s b o e u.1) (u.2 i),u.1,fun j z=>by
 rcases z with z | z
 ·exact u.2 j z.2
 ·rcases hW b z.2 with y | y
  ·exact u.2 i y
  ·rw [e] at y;cases y⟩
theorem set_slot {i:Nat} {v:V} (h:σ[i]? = some (some v)):σ.set i (some v)=σ:=by
 apply List.ext_getElem?
 intro j
 by_cases e:i=j
 ·subst e
  rw [List.getElem?_set_self (List.getElem?_eq_some_iff.mp h).1,h]
 ·rw [List.getElem?_set_ne e]
end
mutual
inductive Ow (K:PySem.W.Frag) (H:Hp):V->PyData->List Addr->Prop
 | leaf {v d}:flat d=true->Is K (fun _=>False) H v d->Ow K H v d []
 | list {a xs ds as}:H a=some (.lst xs)->OwAll K H xs ds as->Ow K H (.ref a) (.list ds) (a::as)
 | tuple {a xs ds as}:H a=some (.tup xs)->OwAll K H xs ds as->Ow K H (.ref a) (.tuple ds) as
inductive OwAll (K:PySem.W.Frag) (H:Hp):List V->List PyData->List Addr->Prop
 | nil:OwAll K H [] [] []
 | cons {v vs d ds as bs}:Ow K H v d as->OwAll K H vs ds bs->OwAll K H (v::vs) (d::ds) (as++bs)
end
section
variable {K : PySem.W.Frag} {H H' : Hp} {F : Addr → Prop}
mutual
theorem Ow.to (ts:TupStay H H'):∀ {v d as},(∀ a ∈ as,∀ xs,H a=some (.lst xs)->H' a=some (.lst xs))->Ow K H v d as->Ow K H' v d as
 | _,_,_,_,.leaf f i => .leaf f (i.flat ts f)
 | _,_,_,h,.list q r => .list (h _ (by simp) _ q) (OwAll.to ts (fun a m=>h a (List.mem_cons_of_mem _ m)) r)
 | _,_,_,h,.tuple q r => .tuple (ts _ _ ⟨_,.inl rfl⟩ q) (OwAll.to ts h r)
theorem OwAll.to (ts:TupStay H H'):∀ {vs ds as},(∀ a ∈ as,∀ xs,H a=some (.lst xs)->H' a=some (.lst xs))->OwAll K H vs ds as->OwAll K H' vs ds as
 | _,_,_,_,.nil => .nil
 | _,_,_,h,.cons r t => .cons (Ow.to ts (fun a m=>h a (List.mem_append_left _ m)) r) (OwAll.to ts (fun a m=>h a (List.mem_append_right _ m)) t)
end
mutual
theorem Ow.mem:∀ {v d as a},Ow K H v d as->a ∈ as->∃ xs,H a=some (.lst xs)
 | _,_,_,_,.leaf _ _,m=>(List.not_mem_nil m).elim
 | _,_,_,_,.list q r,m=>by
   rcases List.mem_cons.mp m with rfl | m
   ·exact ⟨_,q⟩
   ·exact OwAll.mem r m
 | _,_,_,_,.tuple q r,m=>OwAll.mem r m
theorem OwAll.mem:∀ {vs ds as a},OwAll K H vs ds as->a ∈ as->∃ xs,H a=some (.lst xs)
 | _,_,_,_,.nil,m=>(List.not_mem_nil m).elim
 | _,_,_,_,.cons r t,m=>by
   rcases List.mem_append.mp m with m | m
   ·exact Ow.mem r m
   ·exact OwAll.mem t m
end
mutual
theorem Ow.is:∀ {v d as},(∀ a ∈ as,F a)->Ow K H v d as->Is K F H v d
 | _,_,_,_,.leaf f i=>i.flat (TupStay.refl _) f
 | _,_,_,h,.list q r => .list (h _ (by simp)) q (OwAll.is (fun a m=>h a (List.mem_cons_of_mem _ m)) r)
 | _,_,_,h,.tuple q r => .tuple (.of q) (OwAll.is h r)
theorem OwAll.is:∀ {vs ds as},(∀ a ∈ as,F a)->OwAll K H vs ds as->IsAll K F H vs ds
 | _,_,_,_,.nil => .nil
 | _,_,_,h,.cons r t => .cons (Ow.is (fun a m=>h a (List.mem_append_left _ m)) r) (OwAll.is (fun a m=>h a (List.mem_append_right _ m)) t)
end
theorem OwAll.length:∀ {vs ds as},OwAll K H vs ds as->vs.length=ds.length
 | _,_,_,.nil=>rfl
 | _,_,_,.cons _ t=>by rw [List.length_cons,List.length_cons,OwAll.length t]
theorem OwAll.append:∀ {vs ds as ws es bs},OwAll K H vs ds as->OwAll K H ws es bs->OwAll K H (vs++ws) (ds++es) (as++bs)
 | _,_,_,_,_,_,.nil,s=>s
 | _,_,_,_,_,_,.cons r t,s=>by rw [List.append_assoc];exact .cons r (OwAll.append t s)
theorem OwAll.flats:∀ {vs ds},IsAll K F H vs ds->L3.flats ds=true->OwAll K H vs ds []
 | _,_,.nil,_ => .nil
 | _,_,.cons r t,f=>by
   rw [L3.flats,Bool.and_eq_true] at f
   exact OwAll.cons (as := []) (.leaf f.1 (r.flat (TupStay.refl _) f.1)) (OwAll.flats t f.2)
theorem OwAll.at:∀ {vs:List V} {ds as} {k:Nat} {d},OwAll K H vs ds as->ds[k]? = some d->∃ v cs rest,vs[k]? = some v/\Ow K H v d cs/\as.Perm (cs++rest) /\
 (∀ H' v' d' cs',TupStay H H'->(∀ a ∈ rest,∀ xs,H a=some (.lst xs)->H' a=some (.lst xs))->Ow K H' v' d' cs'->∃ as',OwAll K H' (vs.set k v') (ds.set k d') as'/\as'.Perm (cs'++rest))
 | _,_,_,_,_,.nil,e=>by simp at e
 | _,_,_,0,_,.cons (as:=as) (bs:=bs) r t,e=>by
   cases e
   exact ⟨_,as,bs,rfl,r,.refl _,fun H' v' d' cs' ts h o=>⟨_,.cons o (t.to ts h),.refl _⟩⟩
 | _,_,_,k+1,d,.cons (as:=as) (bs:=bs) r t,e=>by
   obtain ⟨v,cs,rest,h1,h2,h3,h4⟩:=OwAll.at (k:=k) (d:=d) t (by simpa using e)
   refine ⟨v,cs,as++rest,by simpa using h1,h2,?_,fun H' v' d' cs' ts h o=>?_⟩
   ·exact (h3.append_left as).trans (by rw [<- List.append_assoc,<- List.append_assoc];exact List.perm_append_comm.append_right _)
   ·obtain ⟨as',o1,o2⟩:=h4 H' v' d' cs' ts (fun a m=>h a (List.mem_append_right _ m)) o
    refine ⟨_,.cons (r.to ts fun a m=>h a (List.mem_append_left _ m)) o1,?_⟩
    exact (o2.append_left as).trans (by rw [<- List.append_assoc,<- List.append_assoc];exact List.perm_append_comm.append_right _)
end
def OwnT (d:PyData):Thg:=⟨fun K F W H v=>∃ as:List Addr,as.Nodup/\(∀ a ∈ as,W a)/\Ow K H v d as,fun {K F F' W W' H H' v} hF hW ts h=>by
 obtain ⟨as,n,m,o⟩:=h
 exact ⟨as,n,fun a z=>by obtain ⟨xs,q⟩:=o.mem z;exact (hW a _ (m a z) q).1,o.to ts fun a z xs q=>(hW a _ (m a z) q).2⟩⟩
def dget:PyData->List Nat->Option PyData
 | d,[]=>some d
 | .list ds,k::p=>match ds[k]? with
   | some d=>dget d p
   | none=>Option.none
 | .tuple ds,k::p=>match ds[k]? with
   | some d=>dget d p
   | none=>Option.none
 | _,_::_=>Option.none
def dset:PyData->List Nat->PyData->PyData
 | _,[],e=>e
 | .list ds,k::p,e=>match ds[k]? with
   | some d => .list (ds.set k (dset d p e))
   | none => .list ds
 | .tuple ds,k::p,e=>match ds[k]? with
   | some d => .tuple (ds.set k (dset d p e))
   | none => .tuple ds
 | d,_::_,_=>d
inductive Nd (H:Hp) (U:Addr->Prop):V->PyData->List Nat->V->PyData->Prop
 | nil {v d}:Nd H U v d [] v d
 | list {a xs ds k v d p w e}:U a->H a=some (.lst xs)->xs[k]? = some v->ds[k]? = some d->Nd H U v d p w e->Nd H U (.ref a) (.list ds) (k::p) w e
 | tuple {a xs ds k v d p w e}:H a=some (.tup xs)->xs[k]? = some v->ds[k]? = some d->Nd H U v d p w e->Nd H U (.ref a) (.tuple ds) (k::p) w e
section
variable {K : PySem.W.Frag} {H H' : Hp} {U : Addr → Prop}
theorem Nd.to (ts:TupStay H H') (h:∀ a xs,U a->H a=some (.lst xs)->H' a=some (.lst xs)):∀ {v d p w e},Nd H U v d p w e->Nd H' U v d p w e
 | _,_,_,_,_,.nil => .nil
 | _,_,_,_,_,.list u q h1 h2 t => .list u (h _ _ u q) h1 h2 (t.to ts h)
 | _,_,_,_,_,.tuple q h1 h2 t => .tuple (ts _ _ ⟨_,.inl rfl⟩ q) h1 h2 (t.to ts h)
theorem Nd.get:∀ {v d p w e},Nd H U v d p w e->dget d p=some e
 | _,_,_,_,_,.nil=>rfl
 | _,_,_,_,_,.list u q h1 h2 t=>by rw [dget,h2];exact t.get
 | _,_,_,_,_,.tuple q h1 h2 t=>by rw [dget,h2];exact t.get
theorem Nd.snocL {a:Addr} {xs:List V} {ds:List PyData} {k:Nat} {w:V} {e:PyData} (u:U a) (q:H a=some (.lst xs)) (h1:xs[k]? = some w) (h2:ds[k]? = some e):∀ {v d p},Nd H U v d p (.ref a) (.list ds)->Nd H U v d (p ++ [k]) w e
 | _,_,_,.nil => .list u q h1 h2 .nil
 | _,_,_,.list u' q' g1 g2 t => .list u' q' g1 g2 (t.snocL u q h1 h2)
 | _,_,_,.tuple q' g1 g2 t => .tuple q' g1 g2 (t.snocL u q h1 h2)
theorem Nd.snocT {a:Addr} {xs:List V} {ds:List PyData} {k:Nat} {w:V} {e:PyData} (q:H a=some (.tup xs)) (h1:xs[k]? = some w) (h2:ds[k]? = some e):∀ {v d p},Nd H U v d p (.ref a) (.tuple ds)->Nd H U v d (p ++ [k]) w e
 | _,_,_,.nil => .tuple q h1 h2 .nil
 | _,_,_,.list u' q' g1 g2 t => .list u' q' g1 g2 (t.snocT q h1 h2)
 | _,_,_,.tuple q' g1 g2 t => .tuple q' g1 g2 (t.snocT q h1 h2)
theorem flat_list {ds:List PyData}:¬ flat (.list ds)=true:=by simp [flat]
theorem dget_flat:∀ {p:List Nat} {d e:PyData},flat d=true->dget d p=some e->flat e=true
 | [],d,e,f,h=>by cases h;exact f
 | k::p,d,e,f,h=>by
   cases d with
   | tuple ds =>
     rw [dget] at h
     cases q:ds[k]? with
     | none=>rw [q] at h;cases h
     | some x =>
       rw [q] at h
       have f':flats ds=true:=by rw [flat] at f;exact f
       exact dget_flat (flats_iff.mp f' x (List.mem_of_getElem? q)) h
   | list ds=>exact absurd f flat_list
   | _=>simp [dget] at h
theorem Ow.put:∀ {v0 d as p} {a:Addr} {es:List PyData},Ow K H v0 d as->as.Nodup->Nd H U v0 d p (.ref a) (.list es)->∃ xs cs rest,H a=some (.lst xs)/\OwAll K H xs es cs/\as.Perm (a::cs++rest) /\
 ∀ H' ys es' bs,TupStay H H'->(∀ b ∈ rest,∀ zs,H b=some (.lst zs)->H' b=some (.lst zs))->H' a=some (.lst ys)->OwAll K H' ys es' bs->∃ as',Ow K H' v0 (dset d p (.list es')) as'/\as'.Perm (a::bs++rest)
 | _,_,_,[],_,_,o,nd,.nil=>by
   cases o with
   | leaf f i=>exact absurd f flat_list
   | list q r=>exact ⟨_,_,[],q,r,by simp,fun H' ys es' bs ts h hy o'=>⟨_,.list hy o',by simp⟩⟩
 | _,_,_,k::p,a,es,o,nd,t=>by
   cases t with
   | @list a0 xs ds _ v d1 _ _ _ u q h1 h2 t =>
     cases o with
     | leaf f i=>exact absurd f flat_list
     | @list _ xs0 ds0 as0 q0 r0 =>
       rw [q] at q0
       cases q0
       obtain ⟨v',cs,rest,g1,g2,g3,g4⟩:=r0.at h2
       rw [h1] at g1
       cases g1
       have n0:(cs++rest).Nodup:=g3.nodup_iff.mp (List.nodup_cons.mp nd).2
       obtain ⟨ys,cs',rest',k1,k2,k3,k4⟩:=Ow.put g2 (List.nodup_append.mp n0).1 t
       refine ⟨ys,cs',a0::(rest'++rest),k1,k2,?_,fun H' zs es' bs ts h hy o'=>?_⟩
       ·have e1:as0.Perm (a::cs'++(rest'++rest)):=g3.trans (by rw [<- List.append_assoc];exact k3.append_right rest)
        exact (e1.cons a0).trans (List.perm_middle.symm)
       ·obtain ⟨as1,o1,p1⟩:=k4 H' zs es' bs ts (fun b m=>h b (List.mem_cons_of_mem _ (List.mem_append_left _ m))) hy o'
        obtain ⟨as2,o2,p2⟩:=g4 H' v _ as1 ts (fun b m=>h b (List.mem_cons_of_mem _ (List.mem_append_right _ m))) o1
        have es0:xs.set k v=xs:=by
         apply List.ext_getElem?
         intro j
         by_cases e:k=j
         ·subst e;rw [List.getElem?_set_self (List.getElem?_eq_some_iff.mp h1).1,h1]
         ·rw [List.getElem?_set_ne e]
        rw [es0] at o2
        refine ⟨a0::as2,?_,?_⟩
        ·rw [dset,h2]
         exact .list (h a0 (by simp) _ q) o2
        ·have e2:as2.Perm (a::bs++(rest'++rest)):=p2.trans (by rw [<- List.append_assoc];exact p1.append_right rest)
         exact (e2.cons a0).trans (List.perm_middle.symm)
   | @tuple a0 xs ds _ v d1 _ _ _ q h1 h2 t =>
     cases o with
     | leaf f i =>
       have:=dget_flat f (Nd.get (.tuple (U:=U) q h1 h2 t))
       exact absurd this flat_list
     | @tuple _ xs0 ds0 as0 q0 r0 =>
       rw [q] at q0
       cases q0
       obtain ⟨v',cs,rest,g1,g2,g3,g4⟩:=r0.at h2
       rw [h1] at g1
       cases g1
       have n0:(cs++rest).Nodup:=g3.nodup_iff.mp nd
       obtain ⟨ys,cs',rest',k1,k2,k3,k4⟩:=Ow.put g2 (List.nodup_append.mp n0).1 t
       refine ⟨ys,cs',rest'++rest,k1,k2,?_,fun H' zs es' bs ts h hy o'=>?_⟩
       ·exact g3.trans (by rw [<- List.append_assoc];exact k3.append_right rest)
       ·obtain ⟨as1,o1,p1⟩:=k4 H' zs es' bs ts (fun b m=>h b (List.mem_append_left _ m)) hy o'
        obtain ⟨as2,o2,p2⟩:=g4 H' v _ as1 ts (fun b m=>h b (List.mem_append_right _ m)) o1
        have es0:xs.set k v=xs:=by
         apply List.ext_getElem?
         intro j
         by_cases e:k=j
         ·subst e;rw [List.getElem?_set_self (List.getElem?_eq_some_iff.mp h1).1,h1]
         ·rw [List.getElem?_set_ne e]
        rw [es0] at o2
        refine ⟨as2,?_,?_⟩
        ·rw [dset,h2]
         exact .tuple (ts _ _ ⟨_,.inl rfl⟩ q) o2
        ·exact p2.trans (by rw [<- List.append_assoc];exact p1.append_right rest)
end
end L3
namespace L3
open PySem PySem.Spec
open PyProof.Rows hiding St
open L2
section
variable {K : PySem.W.Frag} {O : Ob} {H₀ H H' : Hp} {A : Nat → Addr → Prop} {σ : St} {ρ : DSt}
def vTr (i:Nat):DE:=fun ρ Q=>∃ d,ρ[i]? = some (some (.thg (OwnT d)))/\Q (.o d)
theorem tree_seen {i:Nat} {d:PyData} (S:Seen K O H σ ρ) (e:ρ[i]? = some (some (.thg (OwnT d)))):∃ v as,σ[i]? = some (some v)/\as.Nodup/\Ow K H v d as/\∀ a ∈ as,¬ O.M a:=by
 obtain ⟨v,hv,W,hw,as,nd,m,o⟩:=S.at_ i _ e
 exact ⟨v,as,hv,nd,o,fun a z=>(hw a (m a z)).1⟩
theorem ed_varT {i:Nat}:ED K O (tVar i) (vTr i):=fun σ H ρ Q Qd S h k=>by
 obtain ⟨d,e,h⟩:=h
 obtain ⟨v,as,hv,nd,o,m⟩:=tree_seen S e
 exact ⟨v,hv,k _ H (.o d) (.refl _ _) (o.is m) h⟩
abbrev DOw:=DSt->(PyData->Prop)->Prop
def EOw (K:PySem.W.Frag) (O:Ob) (t:TE) (f:DOw):Prop :=
 ∀ (σ:St) (H:Hp) (ρ:DSt) (Q:VK) (Qd:PyData->Prop),Seen K O H σ ρ->f ρ Qd->(∀ v H' d as,Stp O H H'->Ow K H' v d as->as.Nodup->(∀ a ∈ as,H a=Option.none)->Qd d->Q v H')->t σ H Q
abbrev DOs:=DSt->(List PyData->Prop)->Prop
def AOw (K:PySem.W.Frag) (O:Ob) (t:TA) (f:DOs):Prop :=
 ∀ (σ:St) (H:Hp) (ρ:DSt) (Q:List V->Hp->Prop) (Qd:List PyData->Prop),Seen K O H σ ρ->f ρ Qd->(∀ vs H' ds as,Stp O H H'->OwAll K H' vs ds as->as.Nodup->(∀ a ∈ as,H a=Option.none)->Qd ds->Q vs H')->t σ H Q
def oFlat (f:DE):DOw:=fun ρ Q=>f ρ fun r=>match r with
 | .o d=>flat d=true/\Q d
 | .n ds=>flats ds=true/\Q (.list ds)
theorem eo_flat {t:TE} {f:DE} (h:ED K O t f):EOw K O t (oFlat f):=fun σ H ρ Q Qd S hf k=>by
 refine h σ H ρ _ _ S hf fun v H1 r s1 o1 q=>?_
 cases r with
 | o d=>exact k v H1 d [] s1 (.leaf q.1 (Is.flat (TupStay.refl _) o1 q.1)) .nil (fun _ m=>(List.not_mem_nil m).elim) q.2
 | n ds =>
   obtain ⟨a,xs,rfl,hn,hl,hs⟩:=o1
   exact k _ H1 (.list ds) [a] s1 (.list hl (OwAll.flats hs q.1)) (by simp) (fun b m=>by rw [List.mem_singleton.mp m];exact hn) q.2
def oNil:DOs:=fun _ Q=>Q []
def oCons (f:DOw) (g:DOs):DOs:=fun ρ Q=>f ρ fun d=>g ρ fun ds=>Q (d::ds)
theorem ao_nil:AOw K O tNil oNil:=fun σ H ρ Q Qd S h k=>k [] H [] [] (.refl _ _) .nil .nil (fun _ m=>(List.not_mem_nil m).elim) h
theorem ow_stp {H:Hp} {v:V} {d:PyData} {as:List Addr} (s:Stp O H H') (n:∀ a ∈ as,¬ O.M a) (o:Ow K H v d as):Ow K H' v d as:=o.to s.t fun a m xs q=>s.s a _ q (n a m)
theorem owAll_stp {H:Hp} {v:List V} {d:List PyData} {as:List Addr} (s:Stp O H H') (n:∀ a ∈ as,¬ O.M a) (o:OwAll K H v d as):OwAll K H' v d as:=o.to s.t fun a m xs q=>s.s a _ q (n a m)
theorem new_notM {a:Addr} (ok:O.Ok) (p:O.P H) (h:H a=Option.none):¬ O.M a:=fun m=>by obtain ⟨o,z⟩:=ok.here H a p m;rw [h] at z;cases z
theorem ao_cons {t:TE} {u:TA} {f:DOw} {g:DOs} (h:EOw K O t f) (h':AOw K O u g):AOw K O (tCons t u) (oCons f g):=fun σ H ρ Q Qd S hf k=>by
 refine h σ H ρ _ _ S hf fun v H1 d as s1 o1 n1 f1 q=>?_
 refine h' σ H1 ρ _ _ (S.stp s1) q fun vs H2 ds bs s2 o2 n2 f2 q2=>?_
 have m1:∀ a ∈ as,¬ O.M a:=fun a m=>new_notM S.ok S.p (f1 a m)
 have m2:∀ a ∈ bs,¬ O.M a:=fun a m=>new_notM S.ok (s1.p S.p) (f2 a m)
 refine k (v::vs) H2 (d::ds) (as++bs) (s1.trans s2) (.cons (ow_stp s2 m1 o1) o2) (List.nodup_append.mpr ⟨n1,n2,fun a ma b mb e=>?_⟩) (fun a m=>?_) q2
 ·subst e
  obtain ⟨xs,z⟩:=o1.mem ma
  rw [f2 a mb] at z
  cases z
 ·rcases List.mem_append.mp m with m | m
  ·exact f1 a m
  ·exact s1.s.free (m2 a m) (f2 a m)
def oTup (g:DOs):DOw:=fun ρ Q=>g ρ fun ds=>ds.length<=sizeLine/\Q (.tuple ds)
theorem eo_tup {u:TA} {g:DOs} (h:AOw K O u g):EOw K O (tTup u) (oTup g):=fun σ H ρ Q Qd S hf k=>by
 refine h σ H ρ _ _ S hf fun vs H1 ds as s1 o1 n1 f1 ⟨z,q⟩=>⟨by rw [o1.length];exact z,fun p hp=>?_⟩
 have s2:Stp O H1 (upd H1 p (.tup vs)) := .new S.ok hp _
 exact k _ _ (.tuple ds) as (s1.trans s2) (.tuple upd_same (owAll_stp s2 (fun a m=>new_notM S.ok S.p (f1 a m)) o1)) n1 f1 q
def setTS (i:Nat) (f:DOw):DS:=fun Dd ρ=>f ρ fun d=>Dd.nx (ρ.set i (some (.thg (OwnT d))))
theorem sd_setT {i:Nat} {t:TE} {f:DOw} (h:EOw K O t f):SD K O (tAsg t (gName i)) (setTS i f):=fun H₀ A σ H ρ D Dd r q P=>by
 refine h σ H ρ _ _ r.seen q fun v H1 d as s1 o1 n1 f1 q1=>?_
 have m1:∀ a ∈ as,¬ O.M a:=fun a m=>new_notM r.ok r.p (f1 a m)
 have hW:∀ b,b ∈ as->(A i b\/H b=Option.none)/\∃ o,H1 b=some o/\OwnO o:=fun b m=>⟨.inr (f1 b m),by obtain ⟨xs,z⟩:=o1.mem m;exact ⟨_,z,.lst⟩⟩
 exact P.nx _ _ H1 _ (r.setT (W:=fun b=>b ∈ as) (T:=OwnT d) s1 (fun b u e _=>e) hW ⟨as,n1,fun _ m=>m,o1⟩) (.setT s1 (fun b u e _=>e) fun b m=>(hW b m).1) q1
abbrev DL:=DSt->PyData->(List Nat->PyData->Prop)->Prop
def LocE (K:PySem.W.Frag) (O:Ob) (i:Nat) (t:TE) (f:DL):Prop :=
 ∀ (σ:St) (H:Hp) (ρ:DSt) (Q:VK) (Qd:List Nat->PyData->Prop) (U:Addr->Prop) (d:PyData) (v0:V) (as:List Addr),Seen K O H σ ρ->ρ[i]? = some (some (.thg (OwnT d)))->σ[i]? = some (some v0)->Ow K H v0 d as->(∀ a ∈ as,U a)->(∀ a,U a->¬ O.M a)->f ρ d Qd ->
   (∀ v H' p e cs,Stp O H H'->Nd H' U v0 d p v e->Ow K H' v e cs->(∀ a ∈ cs,U a)->Qd p e->Q v H')->t σ H Q
def lVar:DL:=fun _ d Q=>Q [] d
theorem le_var {i:Nat}:LocE K O i (tVar i) lVar:=fun σ H ρ Q Qd U d v0 as S e hv o m n hf k=>⟨v0,hv,k v0 H [] d as (.refl _ _) .nil o m hf⟩
def kids:PyData->Option (List PyData)
 | .list ds=>some ds
 | .tuple ds=>some ds
 | _=>Option.none
def lIx (f1:DL) (f2:DE):DL:=fun ρ d Q=>f1 ρ d fun p e=>f2 ρ fun r=>∃ (z:Int) (ds:List PyData) (k:Nat) (e':PyData),flat e=false/\r.d = .int z/\kids e=some ds/\ixN ds.length z=some k/\ds[k]? = some e'/\Q (p ++ [k]) e'
theorem le_ix {i:Nat} {t1 t2:TE} {f1:DL} {f2:DE} (h1:LocE K O i t1 f1) (h2:ED K O t2 f2):LocE K O i (tOp (rIx K) t1 t2) (lIx f1 f2):=fun σ H ρ Q Qd U d v0 as S e hv o m n hf k=>by
 refine h1 σ H ρ _ _ U d v0 as S e hv o m n hf fun v H1 p x cs s1 nd o1 m1 q0=>?_
 refine h2 σ H1 ρ _ _ (S.stp s1) q0 fun y H2 r s2 o2 ⟨z,ds,j,e',fl,er,ek,ix,he,q⟩=>?_
 clear q0
 have nd2:=nd.to s2.t fun a xs u q=>s2.s a _ q (n a u)
 have oo:=ow_stp s2 (fun a z=>n a (m1 a z)) o1
 have iy:=o2.is S.ok (s1.p S.p)
 rw [er] at iy
 cases iy
 cases oo with
 | leaf f1 _=>rw [fl] at f1;cases f1
 | @list a xs ds' as' q1 r1 =>
   cases ek
   obtain ⟨w,cs',rest,g1,g2,g3,_⟩:=r1.at he
   refine .inl ⟨a,xs,z,w,rfl,rfl,.of q1,?_,k w H2 (p ++ [j]) e' cs' (s1.trans s2) (nd2.snocL (m1 a (by simp)) q1 g1 he) g2 (fun b z=>m1 b (List.mem_cons_of_mem _ (g3.mem_iff.mpr (List.mem_append_left _ z)))) q⟩
   unfold atI
   rw [r1.length,ix]
   exact g1
 | @tuple a xs ds' as' q1 r1 =>
   cases ek
   obtain ⟨w,cs',rest,g1,g2,g3,_⟩:=r1.at he
   refine .inr (.inl ⟨a,xs,z,w,rfl,rfl,.of q1,?_,k w H2 (p ++ [j]) e' cs' (s1.trans s2) (nd2.snocT q1 g1 he) g2 (fun b z=>m1 b (g3.mem_iff.mpr (List.mem_append_left _ z))) q⟩)
   unfold atI
   rw [r1.length,ix]
   exact g1
def appTr (i:Nat) (fl:DL) (fe:DOw):DS:=fun Dd ρ=>∃ d,ρ[i]? = some (some (.thg (OwnT d)))/\fl ρ d fun p e=>∃ ds,e = .list ds/\fe ρ fun x=>ds.length<sizeLine/\Dd.nx (ρ.set i (some (.thg (OwnT (dset d p (.list (ds ++ [x])))))))
theorem perm_in {as bs:List Addr} (h:as.Perm bs) {a:Addr} (m:a ∈ bs):a ∈ as:=h.mem_iff.mpr m
theorem Rep.putT {i:Nat} {d:PyData} {v0:V} {a:Addr} {p:List Nat} {es:List PyData} {H1 H2:Hp} (r:Rep K O H₀ A H σ ρ) (e:ρ[i]? = some (some (.thg (OwnT d)))) (hv:σ[i]? = some (some v0)) (s1:Stp O H H1) (s2:Stp O H1 H2) (nd:Nd H1 (A i) v0 d p (.ref a) (.list es)) :
 ∃ xs cs,H2 a=some (.lst xs)/\OwAll K H2 xs es cs/\xs.length=es.length/\(∀ ys,TupStay H2 (upd H2 a (.lst ys)))/\a ∉ cs/\∀ ys es' bs news,OwAll K (upd H2 a (.lst ys)) ys es' bs->bs.Perm (cs++news)->news.Nodup->(∀ b ∈ news,H1 b=Option.none/\∃ zs,H2 b=some (.lst zs)) ->
   ∃ W:Addr->Prop,Rep K O H₀ (reg A i W) (upd H2 a (.lst ys)) σ (ρ.set i (some (.thg (OwnT (dset d p (.list es'))))))/\Frm O A H (reg A i W) (upd H2 a (.lst ys)):=by
 obtain ⟨v1,hv1,as,n0,m0,o0⟩:=r.at_ i _ e
 rw [hv] at hv1
 cases hv1
 have nM:∀ b,A i b->¬ O.M b:=fun b z=>(r.own i b z).2.2
 have s12:=s1.trans s2
 have o2:=ow_stp s12 (fun b m=>nM b (m0 b m)) o0
 have nd2:=nd.to s2.t fun b xs u q=>s2.s b _ q (nM b u)
 obtain ⟨xs,cs,rest,hx,ox,pm,put⟩:=o2.put n0 nd2
 have n1:(a::cs++rest).Nodup:=pm.nodup_iff.mp n0
 have Aa:A i a:=m0 a (perm_in pm (by simp))
 have stay:∀ ys b u,H2 b=some u->¬ A i b->upd H2 a (.lst ys) b=some u:=fun ys b u q z=>by rw [upd_ne (show b ≠ a from fun w=>z (by rw [w];exact Aa))];exact q
 have ts:∀ ys,TupStay H2 (upd H2 a (.lst ys)):=fun ys=>(r.stp s12).tstay (stay ys)
 refine ⟨xs,cs,hx,ox,ox.length,ts,fun z=>(List.nodup_cons.mp n1).1 (List.mem_append_left _ z),fun ys es' bs news oy pb nn hn=>?_⟩
 have ra:∀ b ∈ rest,b ≠ a:=fun b m w=>by
  subst w
  exact (List.nodup_cons.mp n1).1 (List.mem_append_right _ m)
 obtain ⟨as',o3,pm'⟩:=put _ ys es' bs (ts ys) (fun b m zs q=>by rw [upd_ne (ra b m)];exact q) upd_same oy
 have pf:as'.Perm (as++news):=by
  refine pm'.trans ?_
  have e1:(a::bs++rest).Perm (a::(cs++news)++rest):=(pb.append_right rest).cons a
  refine e1.trans ?_
  have e2:(a::(cs++news)++rest).Perm (a::cs++rest++news):=by
   show (a::(cs++news++rest)).Perm (a::(cs++rest++news))
   refine List.Perm.cons a ?_
   rw [List.append_assoc,List.append_assoc]
   exact List.perm_append_comm.append_left cs
  exact e2.trans (pm.symm.append_right news)
 have fr:∀ b ∈ news,H b=Option.none:=fun b m=>by
  obtain ⟨h1,zs,h2⟩:=hn b m
  cases q:H b with
  | none=>rfl
  | some o =>
    have:¬ O.M b:=new_notM r.ok (s1.p r.p) h1
    rw [s1.s b o q this] at h1
    cases h1
 have nd3:as'.Nodup:=pf.nodup_iff.mpr (List.nodup_append.mpr ⟨n0,nn,fun b m c m' w=>by
  subst w
  obtain ⟨_,⟨o,q,_⟩,_⟩:=r.own i b (m0 b m)
  rw [fr b m'] at q
  cases q⟩)
 have hW:∀ b,b ∈ as'->(A i b\/H b=Option.none)/\∃ o,upd H2 a (.lst ys) b=some o/\OwnO o:=fun b m=>by
  refine ⟨?_,by obtain ⟨zs,z⟩:=o3.mem m;exact ⟨_,z,.lst⟩⟩
  rcases List.mem_append.mp (pf.mem_iff.mp m) with m | m
  ·exact .inl (m0 b m)
  ·exact .inr (fr b m)
 refine ⟨fun b=>b ∈ as',?_,Frm.setT s12 (stay ys) fun b m=>(hW b m).1⟩
 have rr:=r.setT (T:=OwnT (dset d p (.list es'))) (v:=v0) s12 (stay ys) hW ⟨as',nd3,fun _ m=>m,o3⟩
 rw [set_slot hv] at rr
 exact rr
theorem sd_appT {i:Nat} {tr te:TE} {fl:DL} {fe:DOw} (hl:LocE K O i tr fl) (he:EOw K O te fe):SD K O (tDrop (tBM K "list" rAppend tr (tCons te tNil))) (appTr i fl fe):=fun H₀ A σ H ρ D Dd r q P=>by
 obtain ⟨d,e,q⟩:=q
 obtain ⟨v0,hv,as,n0,m0,o0⟩:=r.at_ i _ e
 refine hl σ H ρ _ _ (A i) d v0 as r.seen e hv o0 m0 (fun a z=>(r.own i a z).2.2) q fun v H1 p x cs s1 nd o1 m1 q1=>?_
 obtain ⟨ds,rfl,q1⟩:=q1
 cases o1 with
 | leaf f _=>exact absurd f flat_list
 | @list a xs _ cs' hx ox =>
   refine ⟨.inl ⟨rfl,xs,.of hx⟩,?_⟩
   refine he σ H1 ρ _ _ (r.stp s1).seen q1 fun w H2 y bs s2 o2 n2 f2 ⟨hz,q2⟩=>?_
   obtain ⟨xs2,cs2,hx2,ox2,ln,ts,nc,put⟩:=r.putT e hv s1 s2 nd
   refine ⟨a,xs2,w,rfl,rfl,hx2,by rw [ln];exact hz,?_⟩
   have na:∀ b ∈ bs,b ≠ a:=fun b m z=>by
    have:=f2 b m
    rw [z,hx] at this
    cases this
   have up:∀ b,b ≠ a->∀ zs,H2 b=some (.lst zs)->upd H2 a (.lst (xs2 ++ [w])) b=some (.lst zs):=fun b n zs q=>by rw [upd_ne n];exact q
   obtain ⟨W,rr,ff⟩:=put (xs2 ++ [w]) (ds ++ [y]) (cs2++(bs ++ [])) bs ((ox2.to (ts _) fun b m zs q=>up b (fun z=>nc (z ▸ m)) zs q).append (.cons (o2.to (ts _) fun b m zs q=>up b (na b m) zs q) .nil)) (by rw [List.append_nil]) n2 fun b m=>⟨f2 b m,o2.mem m⟩
   exact P.nx _ σ _ _ rr ff q2
end
def Eo3 {ι κ:Type} (K:PySem.W.Frag) (X:ι->Cx) (O:κ->Ob) (e:Expr) (f:DOw):Prop:=∃ t,(∀ i,PE (X i) e t)/\∀ j,EOw K (O j) t f
def Ao3 {ι κ:Type} (K:PySem.W.Frag) (X:ι->Cx) (O:κ->Ob) (es:List Expr) (f:DOs):Prop:=∃ t,(∀ i,PA (X i) es t)/\∀ j,AOw K (O j) t f
def Lo3 {ι κ:Type} (K:PySem.W.Frag) (X:ι->Cx) (O:κ->Ob) (n:Nat) (e:Expr) (f:DL):Prop:=∃ t,(∀ i,PE (X i) e t)/\∀ j,LocE K (O j) n t f
section
variable {ι κ : Type} {P : Program} {w : World} {K : PySem.W.Frag} {mg : Str → Option Value} {base : Heap} {k : Nat} {X : ι → Cx} {O : κ → Ob} {a b : Expr} {es : List Expr} {fa fb : DE} {fo : DOw} {go : DOs} {fl : DL} {st : Stmt} {g : DS} {pos : Pos}
theorem e_varT (n:Nat) {x:Str} (hN:∀ i,(X i).N[n]? = some x:=by intro i;rfl) (hv:∀ i,Vis (X i).env.scope x:=by intro i;first | exact Or.inl rfl | exact Or.inr (Or.inl rfl) | exact Or.inr (Or.inr rfl))
 (hd:(x == ("__debug__" : Str))=false:=by decide) (hcd:(x == ("__classdict__" : Str))=false:=by decide):E3 K X O (.Name x pos) (vTr n):=⟨_,fun i=>pe_var (hN i) (hv i) hd hcd,fun j=>ed_varT⟩
theorem o_flat (h:E3 K X O a fa):Eo3 K X O a (oFlat fa):=let ⟨_,p,d⟩:=h; ⟨_,p,fun j=>eo_flat (d j)⟩
theorem oq_nil:Ao3 K X O [] oNil:=⟨_,fun i=>pa_nil,fun j=>ao_nil⟩
theorem oq_cons (ha:Eo3 K X O a fo) (hr:Ao3 K X O es go) (hs:∀ i,starEach (a::es) (X i).env=(false,eval a (X i).env)::starEach es (X i).env:=by intro i;rfl):Ao3 K X O (a::es) (oCons fo go):=let ⟨_,p,d⟩:=ha;let ⟨_,p2,d2⟩:=hr; ⟨_,fun i=>pa_cons (p i) (p2 i) (hs i),fun j=>ao_cons (d j) (d2 j)⟩
theorem o_tup {n:Nat} (h:Ao3 K X O es go):Eo3 K X O (.Tuple es n pos) (oTup go):=let ⟨_,p,d⟩:=h; ⟨_,fun i=>pe_tup (p i),fun j=>eo_tup (d j)⟩
theorem l_var (n:Nat) {x:Str} (hN:∀ i,(X i).N[n]? = some x:=by intro i;rfl) (hv:∀ i,Vis (X i).env.scope x:=by intro i;first | exact Or.inl rfl | exact Or.inr (Or.inl rfl) | exact Or.inr (Or.inr rfl))
 (hd:(x == ("__debug__" : Str))=false:=by decide) (hcd:(x == ("__classdict__" : Str))=false:=by decide):Lo3 K X O n (.Name x pos) lVar:=⟨_,fun i=>pe_var (hN i) (hv i) hd hcd,fun j=>le_var⟩
theorem l_ix {n:Nat} (C:Ctx3 P w K mg base k X) (ha:Lo3 K X O n a fl) (hb:E3 K X O b fb) (hs:PlainIx b:=by intro _ _;rfl):Lo3 K X O n (.Subscript a b pos) (lIx fl fb) :=
 let ⟨_,p1,d1⟩:=ha;let ⟨_,p2,d2⟩:=hb; ⟨tOp (rIx K) _ _,fun i=>by have h:=pe_ix (pos:=pos) (ix_seq (X:=X i)) (p1 i) (p2 i) hs;rw [C.hK] at h;exact h,fun j=>le_ix (d1 j) (d2 j)⟩
theorem s_setT (n:Nat) {x:Str} {px:Pos} (ha:Eo3 K X O a fo) (hN:∀ i,(X i).N.Nodup:=by intro i;exact of_decide_eq_true (by kernel_rfl)) (hi:∀ i,(X i).N[n]? = some x:=by intro i;rfl) (hx:∀ i,Loc (X i).env.scope x:=by intro i;first | exact Or.inl rfl | exact Or.inr rfl)
 (hs:∀ i,swapsWith a (some (.Name x px)) pos.line (X i).env=pure false:=by intro i;rfl) (hf:∀ i,(X i).fn x=true\/(X i).env.scope.names.lookup x=some .local:=by intro i;first | exact .inl rfl | exact .inr rfl):S3 K X O (.Assign [.Name x px] a pos) (setTS n fo) :=
 let ⟨_,p,d⟩:=ha; ⟨_,fun i=>ps_set (hN i) (hi i) (hx i) (p i) (hs i) (hf i),fun j=>sd_setT (d j)⟩
theorem s_appT (n:Nat) {apos cpos:Pos} (C:Ctx3 P w K mg base k X) (hr:Lo3 K X O n a fl) (hb:Eo3 K X O b fo)
 (hbase:∀ i,attributeBase a "append" (X i).env (eval a (X i).env)=eval a (X i).env:=by intro i;rfl)
 (hfew:∀ i,((backTo cpos (starEach [b] (X i).env)).all (fun x=>!x.1) && (backToKw cpos (keywordEach [] (X i).env)).all (fun x=>x.1.isSome) && decide (([b]:List Expr).length+([]:List Keyword).length+(if ([]:List Keyword).isEmpty then 0 else 1)<30))=true:=by intro i;rfl)
 (hline:(apos.endLine == cpos.line)=true:=by rfl) (hs:∀ i,starEach [b] (X i).env = [(false,eval b (X i).env)]:=by intro i;rfl) (hsw:∀ i,swapsWith (.Call (.Attribute a "append" apos) [b] [] cpos) Option.none pos.line (X i).env=pure false:=by intro i;rfl) :
 S3 K X O (.Expr (.Call (.Attribute a "append" apos) [b] [] cpos) pos) (appTr n fl fo):=let ⟨_,p1,d1⟩:=hr;let ⟨_,p2,d2⟩:=hb;
 ⟨tDrop (tBM K "list" rAppend _ (tCons _ tNil)),fun i=>by
  have h:=pe_bm (apos:=apos) (cpos:=cpos) PySem.F.plainAttrs_list PySem.F.slot_list_append PySem.F.type_list_append (mtr_append (X:=X i)) (p1 i) (pa_cons (p2 i) pa_nil (hs i)) (hbase i) (hfew i) hline (hs i)
  rw [C.hK] at h
  exact ps_expr h (hsw i),fun j=>sd_appT (d1 j) (d2 j)⟩
end
end L3
namespace L3
open PySem PySem.Spec
open PyProof.Rows hiding St
open L2
def Glo (K:PySem.W.Frag) (mg:Str->Option Value) (x:Str) (d:PyData):Prop:=∃ v u,mg x=some u/\RelV v u/\∀ F H,Is K F H v d
def StrSeq:List Value->List Str->Prop
 | [],[]=>True
 | u::us,x::xs=>(∃ t,u = .str x t)/\StrSeq us xs
 | _,_=>False
theorem strSeq_vals {K:PySem.W.Frag} {F:Addr->Prop} {H:Hp}:∀ {us:List Value} {xs:List Str},StrSeq us xs->Vals (xs.map V.str) us/\IsAll K F H (xs.map V.str) (xs.map .str)
 | [],[],_=>⟨.nil,.nil⟩
 | [],_::_,h=>h.elim
 | _::_,[],h=>h.elim
 | u::us,x::xs,h=>by
   obtain ⟨⟨t,rfl⟩,h⟩:=h
   obtain ⟨h1,h2⟩:=strSeq_vals (K:=K) (F:=F) (H:=H) h
   exact ⟨.cons ⟨t,rfl⟩ h1,.cons (.str x) h2⟩
structure TupIn (K:PySem.W.Frag) (x:Str) (xs:List Str):Prop where
 ex:∃ (a:Addr) (od:Option Addr) (its:Array Value) (n:Nat) (sl:Array (Option Value)),PySem.W.nsIn K mainGlobals x=some (some (.ref a))/\K.lookup a=some ⟨.type "tuple", od,.seq its n,sl⟩/\its.size<=sizeLine/\StrSeq its.toList xs
theorem tupIn_mk {K:PySem.W.Frag} {x:Str} {xs:List Str} {a:Addr} {od:Option Addr} {its:Array Value} {n:Nat} {sl:Array (Option Value)} (h1:PySem.W.nsIn K mainGlobals x=some (some (.ref a))) (h2:K.lookup a=some ⟨.type "tuple", od,.seq its n,sl⟩) (h3:its.size<=sizeLine) (h4:StrSeq its.toList xs):TupIn K x xs:=⟨a,od,its,n,sl,h1,h2,h3,h4⟩
theorem TupIn.glo {K:PySem.W.Frag} {x:Str} {xs:List Str} {h:Heap} {mg:Str->Option Value} (T:TupIn K x xs) (X:K.In h) (G:h.Ns mainGlobals mg):Glo K mg x (.tuple (xs.map .str)):=by
 obtain ⟨a,od,its,n,sl,h1,h2,h3,h4⟩:=T.ex
 exact ⟨.ref a,.ref a,PySem.W.mg_of X G h1,rfl,fun F H => .tuple (.inr ⟨_,its,n,h2,rfl,rfl,h3,(strSeq_vals (K:=K) (F:=F) (H:=H) h4).1⟩) (strSeq_vals h4).2⟩
def PairS (w:World):List DictEntry->List (Str × Str)->Prop
 | [],[]=>True
 | e::es,kv::kvs=>(e.hash=hashStr w kv.1/\(∃ t,e.key = .str kv.1 t)/\∃ t,e.val = .str kv.2 t)/\PairS w es kvs
 | _,_=>False
structure DctIn (K:PySem.W.Frag) (w:World) (x:Str) (kvs:List (Str × Str)):Prop where
 ex:∃ (a:Addr) (es:Array DictEntry) (ep:Nat),PySem.W.nsIn K mainGlobals x=some (some (.ref a))/\K.lookup a=some ⟨.type "dict", none,.dict es ep,#[]⟩/\(a == sysModules)=false/\PairS w es.toList kvs/\(kvs.map (·.1)).Nodup
theorem dctIn_mk {K:PySem.W.Frag} {w:World} {x:Str} {kvs:List (Str × Str)} {a:Addr} {es:Array DictEntry} {ep:Nat} (h1:PySem.W.nsIn K mainGlobals x=some (some (.ref a))) (h2:K.lookup a=some ⟨.type "dict", none,.dict es ep,#[]⟩) (h3:(a == sysModules)=false) (h4:PairS w es.toList kvs) (h5:(kvs.map (·.1)).Nodup):DctIn K w x kvs:=⟨a,es,ep,h1,h2,h3,h4,h5⟩
structure GDct (K:PySem.W.Frag) (w:World) (mg:Str->Option Value) (x:Str) (kvs:List (Str × Str)):Prop where
 ex:∃ (a:Addr) (es:Array DictEntry) (ep:Nat),mg x=some (.ref a)/\K.lookup a=some ⟨.type "dict", none,.dict es ep,#[]⟩/\(a == sysModules)=false/\PairS w es.toList kvs/\(kvs.map (·.1)).Nodup
theorem DctIn.glo {K:PySem.W.Frag} {w:World} {x:Str} {kvs:List (Str × Str)} {h:Heap} {mg:Str->Option Value} (T:DctIn K w x kvs) (X:K.In h) (G:h.Ns mainGlobals mg):GDct K w mg x kvs:=by
 obtain ⟨a,es,ep,h1,h2⟩:=T.ex
 exact ⟨a,es,ep,PySem.W.mg_of X G h1,h2⟩
theorem pairS_pairs {P:Program} {w:World}:∀ {es:List DictEntry} {kvs:List (Str × Str)},PairS w es kvs->∃ vs:List (Key × Value),Pairs (mixKind P w) es vs/\KV (kvs.map fun kv=>((.inr kv.1:Key),V.str kv.2)) vs/\(∀ e ∈ es,∃ k,(mixKind P w).is k e.key=true/\e.hash=(mixKind P w).hash k)
 | [],[],_=>⟨[],.nil,(show KV [] [] from .nil),fun _ h=>(List.not_mem_nil h).elim⟩
 | [],_::_,h=>h.elim
 | _::_,[],h=>h.elim
 | e::es,kv::kvs,h=>by
   obtain ⟨⟨h1,⟨t,h2⟩,t',h3⟩,h⟩:=h
   obtain ⟨vs,g1,g2,g3⟩:=pairS_pairs (P:=P) h
   have hk:(mixKind P w).is (.inr kv.1) e.key=true:=by rw [h2];exact mixKind_str P w kv.1 t
   refine ⟨(.inr kv.1,.str kv.2 t')::vs,.cons hk h3 g1,.cons ⟨rfl,t',rfl⟩ g2,fun e' he=>?_⟩
   rcases List.mem_cons.mp he with rfl | he
   ·exact ⟨.inr kv.1,hk,h1⟩
   ·exact g3 e' he
theorem KV.keys {kvs:List (Key × V)} {vs:List (Key × Value)} (h:KV kvs vs):vs.map (·.1)=kvs.map (·.1):=by
 induction h with
 | nil=>rfl
 | cons q _ ih=>rw [List.map_cons,List.map_cons,ih,q.1]
theorem nodup_inr {α β:Type}:∀ {l:List β},l.Nodup->(l.map (Sum.inr:β->Sum α β)).Nodup
 | [],_ => .nil
 | a::l,h=>by
   rw [List.map_cons,List.nodup_cons]
   refine ⟨fun m=>?_,nodup_inr (List.nodup_cons.mp h).2⟩
   obtain ⟨b,hb,e⟩:=List.mem_map.mp m
   cases e
   exact (List.nodup_cons.mp h).1 hb
theorem lk_val:∀ (kvs:List (Str × Str)) (k:Str),valV (kvs.map fun kv=>((.inr kv.1:Key),V.str kv.2)) (.inr k)=(kvs.lookup k).map V.str
 | [],k=>rfl
 | (a,b)::kvs,k=>by
   rw [List.map_cons,List.lookup]
   by_cases e:a=k
   ·subst e
    rw [valV_pos rfl,beq_self_eq_true]
    rfl
   ·rw [valV_neg (fun z=>e (Sum.inr.inj z)),lk_val kvs k,show (k == a)=false from beq_eq_false_iff_ne.mpr fun z=>e z.symm]
section
variable {X : Cx} {e : Expr} {x : Str} {pos px : Pos} {te : TE} {kvs : List (Str × Str)}
def tGGet (kvs:List (Str × Str)) (te:TE):TE:=fun σ H Q=>te σ H fun y H1=>∃ k v,y = .str k/\kvs.lookup k=some v/\Q (.str v) H1
def tGNot (kvs:List (Str × Str)) (te:TE):TE:=fun σ H Q=>te σ H fun y H1=>∃ k,y = .str k/\Q (.bl (!(kvs.lookup k).isSome)) H1
theorem gd_of {pins:List (Addr × Obj)} {s:Shared} {σ:St} {H:Hp} (I:Inv X pins σ H s) (G:GDct X.K X.w X.mg x kvs):∃ (a:Addr) (vs:List (Key × Value)),X.mg x=some (.ref a)/\(a == sysModules)=false/\s.heap.DictOf (mixKind X.prog X.w) a vs/\KV (kvs.map fun kv=>((.inr kv.1:Key),V.str kv.2)) vs:=by
 obtain ⟨a,es,ep,h1,h2,h3,h4,h5⟩:=G.ex
 obtain ⟨vs,g1,g2,g3⟩:=pairS_pairs (P:=X.prog) h4
 refine ⟨a,vs,h1,h3,⟨_,es,ep,I.kIn a _ h2,⟨rfl,rfl,rfl⟩,rfl,fun e he=>g3 e (Array.mem_toList_iff.mpr he),g1,?_⟩,g2⟩
 rw [KV.keys g2,List.map_map]
 have:((fun x:Key × V=>x.1) ∘ fun kv:Str × Str=>((.inr kv.1:Key),V.str kv.2))=(Sum.inr ∘ fun kv:Str × Str=>kv.1):=rfl
 rw [this,<- List.map_map]
 exact nodup_inr h5
theorem pe_gget (hg:Gl X x) (G:GDct X.K X.w X.mg x kvs) (he:PE X e te) (hs:NoSl e) (hd:(x == ("__debug__" : Str))=false:=by decide):PE X (.Subscript (.Name x px) e pos) (tGGet kvs te):=by
 intro pins s σ H Q I h
 obtain ⟨a,vs,hm,_⟩:=gd_of I G
 refine subD_of PySem.F.slot_dict_getitem.lookup hs (ld_glob I hg hm ?_ hd)
 refine thn (he pins s σ H _ I h) fun iv s2 ⟨y,H2,I2,ry,k,v,ey,lk,q2⟩=>?_
 subst ey
 obtain ⟨a',vs,hm',hsm,dd,rel⟩:=gd_of I2 G
 rw [hm] at hm'
 cases hm'
 obtain ⟨w',hw,rw'⟩:=RelO.some_of (v:=V.str v) (o:=valueAt vs (.inr k)) (by have:=rel.val (.inr k);rwa [lk_val,lk] at this)
 exact ⟨dd.typeIs,wpAny_getItem_of (kV_is (k := .inr k) ry) dd.mapOf hw ⟨.str v,H2,I2.tok _,rw',q2⟩⟩
theorem pc_gnot (hg:Gl X x) (G:GDct X.K X.w X.mg x kvs) (he:PE X e te) (hd:(x == ("__debug__" : Str))=false:=by decide):PC X .NotIn e (.Name x px) (tGNot kvs te):=by
 intro pins s σ H Q I h
 refine thn (he pins s σ H _ I h) fun iv s2 ⟨y,H2,I2,ry,k,ey,q2⟩=>?_
 subst ey
 obtain ⟨a,vs,hm,hsm,dd,rel⟩:=gd_of I2 G
 refine ld_glob I2 hg hm ?_ hd
 refine wpAny_notIn_of (kV_is (k := .inr k) ry) hsm dd.mapOf ?_
 have e1:=(rel.val (.inr k)).isSome_eq
 rw [lk_val,Option.isSome_map] at e1
 rw [<- e1]
 exact ⟨.bl (!(kvs.lookup k).isSome),H2,I2.tok _,rfl,q2⟩
end
def ggD (kvs:List (Str × Str)) (f:DE):DE:=fun ρ Q=>f ρ fun r=>∃ k v,r.d = .str k/\kvs.lookup k=some v/\Q (.o (.str v))
def gnD (kvs:List (Str × Str)) (f:DE):DT:=fun ρ Q=>f ρ fun r=>∃ k,r.d = .str k/\Q (!(kvs.lookup k).isSome)
section
variable {K : PySem.W.Frag} {O : Ob} {kvs : List (Str × Str)} {t : TE} {f : DE}
theorem ed_gget (h:ED K O t f):ED K O (tGGet kvs t) (ggD kvs f):=fun σ H ρ Q Qd S hf k=>by
 refine h σ H ρ _ _ S hf fun v H1 r s1 o1 ⟨x,y,e,l,q⟩=>?_
 have i:=o1.is S.ok S.p
 rw [e] at i
 cases i
 exact ⟨x,y,rfl,l,k _ H1 (.o (.str y)) s1 (Is.str y) q⟩
theorem td_gnot (h:ED K O t f):TD K O (tB (tGNot kvs t)) (gnD kvs f):=fun σ H ρ Q Qd S hf k=>by
 refine h σ H ρ _ _ S hf fun v H1 r s1 o1 ⟨x,e,q⟩=>?_
 have i:=o1.is S.ok S.p
 rw [e] at i
 cases i
 exact ⟨x,rfl,_,rfl,k _ H1 s1 q⟩
end
section
variable {ι κ : Type} {P : Program} {w : World} {K : PySem.W.Frag} {mg : Str → Option Value} {base : Heap} {k : Nat} {X : ι → Cx} {O : κ → Ob} {a : Expr} {fa : DE} {x : Str} {pos px : Pos} {d : PyData} {kvs : List (Str × Str)}
theorem e_glo (C:Ctx3 P w K mg base k X) (G:Glo K mg x d) (hg:∀ i,Gl (X i) x:=by intro i;rfl) (hd:(x == ("__debug__" : Str))=false:=by decide):E3 K X O (.Name x pos) (cD d):=by
 obtain ⟨v,u,hm,r,is⟩:=G
 exact ⟨tC v,fun i=>pe_glob (hg i) (by rw [C.hmg];exact hm) r hd,fun j σ H ρ Q Qd S h k=>k v H (.o d) (.refl _ _) (is _ _) h⟩
theorem e_gget (C:Ctx3 P w K mg base k X) (G:GDct K w mg x kvs) (ha:E3 K X O a fa) (hg:∀ i,Gl (X i) x:=by intro i;rfl) (hs:NoSl a:=by intro _ _;rfl) (hd:(x == ("__debug__" : Str))=false:=by decide):E3 K X O (.Subscript (.Name x px) a pos) (ggD kvs fa):=let ⟨_,p,d1⟩:=ha;
 ⟨_,fun i=>pe_gget (hg i) (by rw [C.hK,C.hw,C.hmg];exact G) (p i) hs hd,fun j=>ed_gget (d1 j)⟩
theorem t_gnot (C:Ctx3 P w K mg base k X) (G:GDct K w mg x kvs) (ha:E3 K X O a fa) (hg:∀ i,Gl (X i) x:=by intro i;rfl) (hd:(x == ("__debug__" : Str))=false:=by decide) (hm:behindInMarks .NotIn (.Name x px)=false:=by rfl):T3 K X O (.Compare a [.NotIn] [.Name x px] pos) (gnD kvs fa):=let ⟨_,p,d1⟩:=ha;
 ⟨_,fun i=>pt_cmp (pc_gnot (hg i) (by rw [C.hK,C.hw,C.hmg];exact G) (p i) hd) hm,fun j=>td_gnot (d1 j)⟩
end
end L3
namespace L3
open PySem PySem.Spec
open PyProof.Rows hiding St
open L2
def noX (F:List PyData->(R->Prop)->Prop):List PyData->(R->Prop)->Prop:=fun ds Q=>F ds fun r=>(∀ c ns es,r ≠ .o (excD c ns es))/\Q r
theorem toO {P:Program} {w:World} {K:PySem.W.Frag} {mg:Str->Option Value} {base:Heap} {k n:Nat} {x:Str} {ps:List Str} {φ:Ob->Prop} {F:List PyData->(R->Prop)->Prop} (D:Def3x P w K mg base k x ps (spX K mg φ n F)):Def3 P w K mg base k x ps (spO K φ n (noX F)):=by
 obtain ⟨f,fd,ok,m,kp,b⟩:=D.ex
 refine ⟨f,fd,⟨fun vs H Q E h=>?_,fun A outer s H args us vs Q E hr he hb hv h=>?_⟩,m,kp,b⟩
 ·obtain ⟨O,ds,Qr,h1,h2,h3,h4,h5,h6,h7⟩:=h
  exact ok.len vs H Q (fun _ _ _=>True) ⟨O,ds,_,h1,h2,h3,h4,h5,h6,fun r qr v H' s o=>h7 r qr.2 v H' s o,fun _ _ _ _ _ _ _=>trivial⟩
 ·obtain ⟨O,ds,Qr,h1,h2,h3,h4,h5,h6,h7⟩:=h
  have:=ok.run A outer s H args us vs Q (fun _ _ _=>False) hr he hb hv ⟨O,ds,_,h1,h2,h3,h4,h5,h6,fun r qr v H' s o=>h7 r qr.2 v H' s o,fun H' C dx d s o q=>?_⟩
  ·refine codeAny_mono this fun r s' z=>?_
   cases r with
   | ok f=>cases f <;> exact z
   | error e=>obtain ⟨_,_,_,_,_,_,_,_,_,_,_,_,_,_,q⟩:=z;exact q
  ·obtain ⟨c,ns,xs,es,e,_⟩:=o
   exact absurd (congrArg R.o e) (q.1 c ns es)
structure ErrS (mg:Str->Option Value) (ea:EA):Prop where
 nt:mg "NoText" = some (.ref ea.nt)
structure ErrInS (K:PySem.W.Frag) (ea:EA):Prop where
 nt:PySem.W.nsIn K mainGlobals "NoText" = some (some (.ref ea.nt))
theorem errInS_mk {K:PySem.W.Frag} {le nt:Addr} (h0:PySem.W.nsIn K mainGlobals "LostError" = some (some (.ref le))) (h:PySem.W.nsIn K mainGlobals "NoText" = some (some (.ref nt))):ErrInS K ⟨le,nt,nt,nt,nt,nt,nt,nt⟩:=⟨h⟩
theorem ErrInS.errS {K:PySem.W.Frag} {mg:Str->Option Value} {ea:EA} {h:Heap} (X:K.In h) (G:h.Ns mainGlobals mg) (E:ErrInS K ea):ErrS mg ea:=⟨PySem.W.mg_of X G E.nt⟩
abbrev RNoTextS (K:PySem.W.Frag) (ea:EA):Prop:=Raise1 K ea.le ea.nt [] "at"
def Ay3 (K:PySem.W.Frag) (mg:Str->Option Value) (Y:Cx) (E:XK) (O:Ob) (es:List Expr) (f:DAf):Prop:=∃ t:XK->TA,PA Y es (t E)/\ADf K mg O t f
section
variable {K : PySem.W.Frag} {mg : Str → Option Value} {Y : Cx} {E : XK} {O : Ob} {a : Expr} {es : List Expr} {ff : DEf} {gf : DAf} {pos : Pos}
theorem ay_nil:Ay3 K mg Y E O [] (upA aNil):=⟨fun _=>tNil,pa_nil,adf_nil⟩
theorem ay_cons (h:Ey3 K mg Y E O a ff) (h':Ay3 K mg Y E O es gf) (hs:starEach (a::es) Y.env=(false,eval a Y.env)::starEach es Y.env:=by rfl):Ay3 K mg Y E O (a::es) (aConsF ff gf):=let ⟨t,p,d⟩:=h;let ⟨t',p',d'⟩:=h'; ⟨fun E=>tCons (t E) (t' E),pa_cons p p' hs,adf_cons d d'⟩
theorem ey_tup {n:Nat} (h:Ay3 K mg Y E O es gf):Ey3 K mg Y E O (.Tuple es n pos) (tupF' gf):=let ⟨t,p,d⟩:=h; ⟨fun E=>tTup (t E),pe_tup p,edf_tup d⟩
end
end L3
namespace L3
open PySem PySem.Spec
open PyProof.Rows hiding St
open L2
section
variable {prog : Program} {w : World} {A : Around} {E : Value → Shared → Prop} {s : Shared}
theorem nx_item {it t:Addr} {i:Nat} {zs:Array Value} {x:Value} {Q:Value->Shared->Prop} (st:s.heap.IsTupleIter it t i) (tp:s.heap.IsTuple t zs) (hv:zs[i]? = some x) (k:∀ h',h'.IsTupleIter it t (i+1)->Heap.SameBut it s.heap h'->Q x { s with heap:=h' }) :
 wpAny (model prog w) A (Builtin.SmallTypes.nextOf (.ref it)) Q E s:=by
 obtain ⟨o,eo,co,dv⟩:=id st
 obtain ⟨u,eu,_,m,du⟩:=tp
 unfold Builtin.SmallTypes.nextOf;refine wpAny_bind (wpAny_callSpecial?_slot (name:=Str.ofString "__next__") st.typeIs F.slot_tuple_iterator_next (wpAny_call_entry F.slot_tuple_iterator_next st.typeIs F.entry_tuple_iterator_next ?_ (F.args_tuple_iterator_next_1 _)))
 refine wpAny_bind (m:=field (.ref it) 0) (wpAny_field eo dv (x := .ref t) rfl ?_)
 have ne:¬ ((Value.ref t == Value.none)=true):=Bool.false_ne_true
 show wpAny _ _ (if (Value.ref t == Value.none)=true then _ else _) _ _ s;rw [if_neg ne]
 refine wpAny_bind (m:=field (.ref it) 1) (wpAny_field eo dv (x := .int i 0) rfl ?_)
 refine wpAny_bind (m:=seqItems? (.ref t)) (wpAny_seqItems eu du ?_)
 simp only [Int.toNat_natCast,hv]
 refine wpAny_bind (wpAny_setField eo dv (by simp) (wpAny_pure ⟨x,rfl,wpAny_pure (k _ ⟨_,Heap.get?_update_self _ eo (Obj.isFreed_of_fields (Obj.data_mapFields dv _)),(Obj.cls_mapFields ..).trans co,?_⟩ (Heap.SameBut.update ..))⟩))
 rw [Obj.data_mapFields dv]
 simp [rawInt]
theorem stop_thrown {Q:Fin->Shared->Prop} (hh:A.in1.handled=none) (k:∀ h' e,(∀ c o,s.heap.get? c=some o->h'.get? c=some o)->(∃ o,h'.get? e=some o/\o.cls = .type "StopIteration")->E (.ref e) { s with heap:=h' }) :
 wpAny (model prog w) A.in1 (newExc (.type "StopIteration") []) (fun a s'=>wpAny (model prog w) A.in1 (raiseNew a) Q E s') E s:=by
 simp only [newExc,newTuple];refine wpAny_bind (wpAny_newObj_type ?_ (by size_fits))
 refine wpAny_bind (m:=firstArgMember _ _) (wpAny_of_eq (a:=Value.none) (by simp only [firstArgMember];rfl) (wpAny_newObj_type ?_ (by size_fits)))
 simp only [raiseNew];refine wpAny_bind (wpAny_handled ?_);rw [hh]
 exact wpAny_bind (wpAny_pure (wpAny_throw (k _ _ (fun c o e=>Heap.get?_push_of_some _ (Heap.get?_push_of_some _ e)) ⟨_,Heap.get?_push_size _ rfl,rfl⟩)))
theorem nx_end {it t:Addr} {i:Nat} {zs:Array Value} {Q:Value->Shared->Prop} (hh:A.handled=none) (st:s.heap.IsTupleIter it t i) (tp:s.heap.IsTuple t zs) (hv:zs[i]? = none)
 (k:∀ h' e,Heap.ExtBut it s.heap h'->(∃ o,h'.get? e=some o/\o.cls = .type "StopIteration")->E (.ref e) { s with heap:=h' }):wpAny (model prog w) A (Builtin.SmallTypes.nextOf (.ref it)) Q E s:=by
 obtain ⟨o,eo,co,dv⟩:=id st
 obtain ⟨u,eu,_,m,du⟩:=tp
 unfold Builtin.SmallTypes.nextOf;refine wpAny_bind (wpAny_callSpecial?_slot (name:=Str.ofString "__next__") st.typeIs F.slot_tuple_iterator_next (wpAny_call_entry F.slot_tuple_iterator_next st.typeIs F.entry_tuple_iterator_next ?_ (F.args_tuple_iterator_next_1 _)))
 refine wpAny_bind (m:=field (.ref it) 0) (wpAny_field eo dv (x := .ref t) rfl ?_)
 have ne:¬ ((Value.ref t == Value.none)=true):=Bool.false_ne_true
 show wpAny _ _ (if (Value.ref t == Value.none)=true then _ else _) _ _ s;rw [if_neg ne]
 refine wpAny_bind (m:=field (.ref it) 1) (wpAny_field eo dv (x := .int i 0) rfl ?_)
 refine wpAny_bind (m:=seqItems? (.ref t)) (wpAny_seqItems eu du ?_)
 simp only [Int.toNat_natCast,hv]
 refine wpAny_bind (wpAny_rule (wpAny_bind (wpAny_setField eo dv (by simp) ?_)))
 refine wpAny_bind (stop_thrown hh fun h' e up ex=>?_)
 exact k h' e (fun c o' cn q=>up c o' ((Heap.SameBut.update ..).extBut c o' cn q)) ex
structure ZS (h:Heap) (z p r i1 i2 l1 l2:Addr) (k:Nat) (xs ys:Array Value) (out:Value):Prop where
 zz:IsZip h z p r out
 pp:IsPair h p (.ref i1) (.ref i2)
 rr:∃ a b,IsPair h r a b
 a1:h.IsTupleIter i1 l1 k
 a2:h.IsTupleIter i2 l2 k
 t1:h.IsTuple l1 xs
 t2:h.IsTuple l2 ys
theorem zs_item {z p r i1 i2 l1 l2:Addr} {k:Nat} {xs ys:Array Value} {x y:Value} {Q:Value->Shared->Prop} (D:ZipApart z p r i1 i2 l1 l2) (S:ZS s.heap z p r i1 i2 l1 l2 k xs ys .none) (hx:xs[k]? = some x) (hy:ys[k]? = some y)
 (q:∀ h',ZS h' z p r i1 i2 l1 l2 (k+1) xs ys (rawInt s.heap.objs.size)->IsPair h' s.heap.objs.size x y->(∀ c o,c ≠ z->c ≠ r->c ≠ i1->c ≠ i2->s.heap.get? c=some o->h'.get? c=some o)->Q (.ref s.heap.objs.size) { s with heap:=h' }) :
 wpAny (model prog w) A (Builtin.«zip.__next__» ⟨[.ref z],[]⟩) (fun fin s'=>∃ v,fin = .done (.ret v)/\Q v s') E s:=by
 obtain ⟨Z,P,⟨a,b,R⟩,A1,A2,T1,T2⟩:=S
 refine wpAny_bind (m:=field (.ref z) 2) (wpAny_field Z rfl (x := .bool false) rfl ?_)
 refine wpAny_bind (m:=field (.ref z) 3) (wpAny_field Z rfl (x := .ref p) rfl (wpAny_bind (wpAny_seqItems P rfl ?_)))
 refine wpAny_bind (m:=Builtin.SmallTypes.ownedTupleIsFree (.ref z)) ?_
 unfold Builtin.SmallTypes.ownedTupleIsFree;refine wpAny_bind (wpAny_field Z rfl (x := .none) rfl (wpAny_pure ?_));simp only [if_true]
 refine wpAny_bind (wpAny_rule (wpAny_bind (wpAny_field Z rfl (x := .ref r) rfl (wpAny_bind (wpAny_setField_rec Z (by simp) fun ha Za sa=>?_)))))
 replace Za:IsZip ha z p r .ellipsis:=Za
 refine wpAny_bind ?_;simp only [List.zipIdx_cons,List.zipIdx_nil,List.forIn_cons,List.forIn_nil]
 have A1a:=A1.at fun o e=>sa.extBut _ o D.i1z e
 have A2a:=A2.at fun o e=>sa.extBut _ o D.i2z e
 refine wpAny_bind (wpAny_bind (wpAny_onRaise (wpAny_bind (m:=Builtin.SmallTypes.nextOf (.ref i1)) (nx_item A1a (T1.at fun o e=>sa.extBut _ o D.l1z e) hx fun hb A1b sb=>wpAny_pure ?_))))
 have Rb:IsPair hb r a b:=sb.extBut _ _ D.TOi1 (sa.extBut _ _ D.TOz R)
 refine wpAny_bind (wpAny_seqItems Rb rfl (wpAny_bind (wpAny_updateSeq_pair Rb fun hc Rc sc=>?_)))
 replace Rc:IsPair hc r x b:=Rc
 refine wpAny_bind (wpAny_letGo (wpAny_pure ?_))
 have A2c:=(A2a.at fun o e=>sb.extBut _ o D.i12.symm e).at fun o e=>sc.extBut _ o D.TOi2.symm e
 have T2c:=((T2.at fun o e=>sa.extBut _ o D.l2z e).at fun o e=>sb.extBut _ o D.l2i1 e).at fun o e=>sc.extBut _ o D.l2TO e
 refine wpAny_bind (wpAny_bind (wpAny_onRaise (wpAny_bind (m:=Builtin.SmallTypes.nextOf (.ref i2)) (nx_item A2c T2c hy fun hd A2d sd=>wpAny_pure ?_))))
 have Rd:IsPair hd r x b:=sd.extBut _ _ D.TOi2 Rc
 refine wpAny_bind (wpAny_seqItems Rd rfl (wpAny_bind (wpAny_updateSeq_pair Rd fun he Re se=>?_)))
 replace Re:IsPair he r x y:=Re
 refine wpAny_bind (wpAny_letGo (wpAny_pure (wpAny_pure (wpAny_bind (wpAny_seqItems Re rfl (wpAny_bind (wpAny_newTuple ?_)))))))
 have sz5:he.objs.size=s.heap.objs.size:=by rw [se.1,sd.1,sc.1,sb.1,sa.1]
 have up:∀ c o,c ≠ z->c ≠ r->c ≠ i1->c ≠ i2->s.heap.get? c=some o->he.get? c=some o:=fun c o n1 n2 n3 n4 e=>se.extBut _ _ n2 (sd.extBut _ _ n4 (sc.extBut _ _ n2 (sb.extBut _ _ n3 (sa.extBut _ _ n1 e))))
 have Ze:IsZip he z p r .ellipsis:=se.extBut _ _ D.TOz.symm (sd.extBut _ _ D.i2z.symm (sc.extBut _ _ D.TOz.symm (sb.extBut _ _ D.i1z.symm Za)))
 refine wpAny_bind (m:=Builtin.SmallTypes.ownedTupleHandOut (.ref z) (.ref he.objs.size)) ?_
 unfold Builtin.SmallTypes.ownedTupleHandOut
 have zl:=Heap.lt_size Ze
 refine wpAny_bind (wpAny_setField_rec (Heap.get?_push_of_some _ Ze) (by simp) fun hf Zf sf=>?_)
 replace Zf:IsZip hf z p r (rawInt he.objs.size):=Zf
 refine wpAny_setField_rec Zf (by simp) fun hg Zg sg=>wpAny_pure ⟨_,rfl,?_⟩
 have top:∀ c o,c ≠ z->he.get? c=some o->hg.get? c=some o:=fun c o n e=>sg.extBut _ _ n (sf.extBut _ _ n (Heap.get?_push_of_some _ e))
 have pr:IsPair hg he.objs.size x y:=sg.extBut _ _ (Nat.ne_of_gt zl) (sf.extBut _ _ (Nat.ne_of_gt zl) (Heap.get?_push_size _ rfl))
 show Q (.ref he.objs.size) _
 rw [sz5] at pr Zg ⊢
 refine q hg ⟨Zg,top _ _ D.TIz (up _ _ D.TIz D.TITO D.TIi1 D.TIi2 P),⟨x,y,top _ _ D.TOz Re⟩,?_,?_,T1.at fun o e=>top _ o D.l1z (up _ o D.l1z D.l1TO D.l1i1 D.l1i2 e),T2.at fun o e=>top _ o D.l2z (up _ o D.l2z D.l2TO D.l2i1 D.l2i2 e)⟩ pr fun c o n1 n2 n3 n4 e=>top c o n1 (up c o n1 n2 n3 n4 e)
 ·exact (((A1b.at fun o e=>sc.extBut _ o D.TOi1.symm e).at fun o e=>sd.extBut _ o D.i12 e).at fun o e=>se.extBut _ o D.TOi1.symm e).at fun o e=>top _ o D.i1z e
 ·exact (A2d.at fun o e=>se.extBut _ o D.TOi2.symm e).at fun o e=>top _ o D.i2z e
theorem zs_end {z p r i1 i2 l1 l2:Addr} {k:Nat} {xs ys:Array Value} {Q:Fin->Shared->Prop} (hh:A.handled=none) (D:ZipApart z p r i1 i2 l1 l2) (S:ZS s.heap z p r i1 i2 l1 l2 k xs ys .none) (he:xs[k]? = none\/ys[k]? = none)
 (q:∀ h' e,(∀ c o,c ≠ z->c ≠ r->c ≠ i1->c ≠ i2->s.heap.get? c=some o->h'.get? c=some o)->(∃ o,h'.get? e=some o/\o.cls = .type "StopIteration")->E (.ref e) { s with heap:=h' }) :
 wpAny (model prog w) A (Builtin.«zip.__next__» ⟨[.ref z],[]⟩) Q E s:=by
 obtain ⟨Z,P,⟨a,b,R⟩,A1,A2,T1,T2⟩:=S
 refine wpAny_bind (m:=field (.ref z) 2) (wpAny_field Z rfl (x := .bool false) rfl ?_)
 refine wpAny_bind (m:=field (.ref z) 3) (wpAny_field Z rfl (x := .ref p) rfl (wpAny_bind (wpAny_seqItems P rfl ?_)))
 refine wpAny_bind (m:=Builtin.SmallTypes.ownedTupleIsFree (.ref z)) ?_
 unfold Builtin.SmallTypes.ownedTupleIsFree;refine wpAny_bind (wpAny_field Z rfl (x := .none) rfl (wpAny_pure ?_));simp only [if_true]
 refine wpAny_bind (wpAny_rule (wpAny_bind (wpAny_field Z rfl (x := .ref r) rfl (wpAny_bind (wpAny_setField_rec Z (by simp) fun ha Za sa=>?_)))))
 replace Za:IsZip ha z p r .ellipsis:=Za
 refine wpAny_bind ?_;simp only [List.zipIdx_cons,List.zipIdx_nil,List.forIn_cons,List.forIn_nil]
 have A1a:=A1.at fun o e=>sa.extBut _ o D.i1z e
 have A2a:=A2.at fun o e=>sa.extBut _ o D.i2z e
 have T1a:=T1.at fun o e=>sa.extBut _ o D.l1z e
 have off:∀ {hc:Heap} {e:Addr} {oe:Obj},IsZip hc z p r .ellipsis->hc.get? e=some oe->oe.cls = .type "StopIteration" -> e ≠ z:=fun Zc g c x=>by subst x;rw [Zc] at g;cases g;simp at c
 cases hx:xs[k]? with
 | none =>
   refine wpAny_bind (wpAny_bind (wpAny_onRaise (wpAny_bind (m:=Builtin.SmallTypes.nextOf (.ref i1)) (nx_end hh A1a T1a hx fun hb e sb ⟨oe,ge,ce⟩=>?_))))
   have Zb:IsZip hb z p r .ellipsis:=sb _ _ D.i1z.symm Za
   exact wpAny_setField_rec Zb (by simp) fun hc _ sc=>q hc e (fun c o n1 _ n3 _ g=>sc.extBut _ _ n1 (sb _ _ n3 (sa.extBut _ _ n1 g))) ⟨oe,sc.extBut _ _ (off Zb ge ce) ge,ce⟩
 | some x =>
   have hy:ys[k]? = none:=he.resolve_left fun z=>by rw [hx] at z;cases z
   refine wpAny_bind (wpAny_bind (wpAny_onRaise (wpAny_bind (m:=Builtin.SmallTypes.nextOf (.ref i1)) (nx_item A1a T1a hx fun hb A1b sb=>wpAny_pure ?_))))
   have Rb:IsPair hb r a b:=sb.extBut _ _ D.TOi1 (sa.extBut _ _ D.TOz R)
   refine wpAny_bind (wpAny_seqItems Rb rfl (wpAny_bind (wpAny_updateSeq_pair Rb fun hc Rc sc=>?_)))
   refine wpAny_bind (wpAny_letGo (wpAny_pure ?_))
   have A2c:=(A2a.at fun o e=>sb.extBut _ o D.i12.symm e).at fun o e=>sc.extBut _ o D.TOi2.symm e
   have T2c:=((T2.at fun o e=>sa.extBut _ o D.l2z e).at fun o e=>sb.extBut _ o D.l2i1 e).at fun o e=>sc.extBut _ o D.l2TO e
   refine wpAny_bind (wpAny_bind (wpAny_onRaise (wpAny_bind (m:=Builtin.SmallTypes.nextOf (.ref i2)) (nx_end hh A2c T2c hy fun hd e sd ⟨oe,ge,ce⟩=>?_))))
   have Zd:IsZip hd z p r .ellipsis:=sd _ _ D.i2z.symm (sc.extBut _ _ D.TOz.symm (sb.extBut _ _ D.i1z.symm Za))
   exact wpAny_setField_rec Zd (by simp) fun hf _ sf=>q hf e (fun c o n1 n2 n3 n4 g=>sf.extBut _ _ n1 (sd _ _ n4 (sc.extBut _ _ n2 (sb.extBut _ _ n3 (sa.extBut _ _ n1 g))))) ⟨oe,sf.extBut _ _ (off Zd ge ce) ge,ce⟩
theorem next_zs {z p r i1 i2 l1 l2:Addr} {k:Nat} {xs ys:Array Value} {x y:Value} {Q:Option Value->Shared->Prop} (D:ZipApart z p r i1 i2 l1 l2) (S:ZS s.heap z p r i1 i2 l1 l2 k xs ys .none) (hx:xs[k]? = some x) (hy:ys[k]? = some y)
 (q:∀ h',ZS h' z p r i1 i2 l1 l2 (k+1) xs ys (rawInt s.heap.objs.size)->IsPair h' s.heap.objs.size x y->(∀ c o,c ≠ z->c ≠ r->c ≠ i1->c ≠ i2->s.heap.get? c=some o->h'.get? c=some o)->Q (some (.ref s.heap.objs.size)) { s with heap:=h' }):wpAny (model prog w) A (pyNext (.ref z)) Q E s:=by
 have T:s.TypeIs (.ref z) "zip" := ⟨_,S.zz,rfl⟩
 unfold pyNext;exact wpAny_bind (wpAny_attempt (wpAny_callSpecial?_slot (name:=Str.ofString "__next__") T F.slot_zip_next (wpAny_call_entry F.slot_zip_next T F.entry_zip_next (zs_item D S hx hy fun h' a b c=>wpAny_pure (q h' a b c)) (F.args_zip_next_1 _))))
theorem next_ze {z p r i1 i2 l1 l2:Addr} {k:Nat} {xs ys:Array Value} {Q:Option Value->Shared->Prop} (hh:A.handled=none) (D:ZipApart z p r i1 i2 l1 l2) (S:ZS s.heap z p r i1 i2 l1 l2 k xs ys .none) (he:xs[k]? = none\/ys[k]? = none)
 (q:∀ h',(∀ c o,c ≠ z->c ≠ r->c ≠ i1->c ≠ i2->s.heap.get? c=some o->h'.get? c=some o)->Q none { s with heap:=h' }):wpAny (model prog w) A (pyNext (.ref z)) Q E s:=by
 have T:s.TypeIs (.ref z) "zip" := ⟨_,S.zz,rfl⟩
 unfold pyNext;refine wpAny_bind (wpAny_attempt (wpAny_callSpecial?_slot (name:=Str.ofString "__next__") T F.slot_zip_next (wpAny_call_entry F.slot_zip_next T F.entry_zip_next (zs_end hh D S he fun h' e up ⟨o,g,c⟩=>?_) (F.args_zip_next_1 _))))
 exact wpAny_bind (wpAny_isInstance (T := "StopIteration") (b:=true) ⟨o,g,c⟩ isSubtype_stop (wpAny_pure (q _ up)))
abbrev zq1 (h:Heap) (l1:Addr):Heap:=h.push { cls := .type "tuple_iterator", data := .fields #[.ref l1,.int 0 0] }
abbrev zq2 (h:Heap) (l1 l2:Addr):Heap:=(zq1 h l1).push { cls := .type "tuple_iterator", data := .fields #[.ref l2,.int 0 0] }
abbrev zq3 (h:Heap) (l1 l2:Addr):Heap:=(zq2 h l1 l2).push { cls := .type "tuple", data := .seq #[.ref h.objs.size,.ref (zq1 h l1).objs.size] }
abbrev zq4 (h:Heap) (l1 l2:Addr):Heap:=(zq3 h l1 l2).push { cls := .type "tuple", data := .seq #[.none,.none] }
abbrev zq5 (h:Heap) (l1 l2:Addr):Heap:=(zq4 h l1 l2).push { cls := .type "zip", data := .fields #[.none,.bool false,.bool false,.ref (zq2 h l1 l2).objs.size,.ref (zq3 h l1 l2).objs.size] }
theorem new_zip (l1 l2:Addr) (xs ys:Array Value):Meets (Builtin.«zip.__new__» ⟨[.type "zip", .ref l1,.ref l2],[]⟩) (fun _ R s=>s.heap.IsTuple l1 xs/\s.heap.IsTuple l2 ys/\R (.ok (.ret (.ref (zq4 s.heap l1 l2).objs.size))) { s with heap:=zq5 s.heap l1 l2 }) :=
 .of_wp fun prog w A R s h=>by
  obtain ⟨hp,g,d,tk,os⟩:=s;obtain ⟨a1,a2,q⟩:=h
  have sub:=sub_zip
  have a3:Heap.IsTuple (Shared.heap ⟨hp.push { cls := .type "tuple_iterator", data := .fields #[.ref l1,.int 0 0] },g,d,tk,os⟩) l2 ys:=a2.at fun o e=>Heap.get?_push_of_some _ e
  have a1:Heap.IsTuple (Shared.heap ⟨hp,g,d,tk,os⟩) l1 xs:=a1
  wp_walk using wpAny_pyIter_tuple a1,wpAny_pyIter_tuple a3
  exact ⟨_,rfl,q⟩
theorem call_zs {l1 l2:Addr} {xs ys:Array Value} {Q:Value->Shared->Prop} (h1:s.heap.IsTuple l1 xs) (h2:s.heap.IsTuple l2 ys)
 (q:∀ h',ZS h' (s.heap.objs.size+4) (s.heap.objs.size+2) (s.heap.objs.size+3) s.heap.objs.size (s.heap.objs.size+1) l1 l2 0 xs ys .none->(∀ c o,s.heap.get? c=some o->h'.get? c=some o)->Q (.ref (s.heap.objs.size+4)) { s with heap:=h' }):wpAny (model prog w) A (call (.type "zip") [.ref l1,.ref l2]) Q E s:=by
 refine callType_new F.called_zip (by decide) (F.typeCall_zip_2 _ _) (F.newCall_zip_2 _ _) (fun obj=>F.args_object_init_3 obj _ _) F.entry_zip_new (new_zip l1 l2 xs ys) ⟨h1,h2,?_⟩
 have n1:(zq1 s.heap l1).objs.size=s.heap.objs.size+1:=Heap.size_push ..
 have n2:(zq2 s.heap l1 l2).objs.size=s.heap.objs.size+2:=by rw [Heap.size_push,n1]
 have n3:(zq3 s.heap l1 l2).objs.size=s.heap.objs.size+3:=by rw [Heap.size_push,n2]
 have n4:(zq4 s.heap l1 l2).objs.size=s.heap.objs.size+4:=by rw [Heap.size_push,n3]
 have up:∀ {h:Heap} {c:Addr} {o o':Obj},h.get? c=some o->(h.push o').get? c=some o:=fun e=>Heap.get?_push_of_some _ e
 have e5:(zq5 s.heap l1 l2).get? (zq4 s.heap l1 l2).objs.size=some _:=Heap.get?_push_size _ rfl
 have e4:(zq5 s.heap l1 l2).get? (zq3 s.heap l1 l2).objs.size=some _:=up (Heap.get?_push_size _ rfl)
 have e3:(zq5 s.heap l1 l2).get? (zq2 s.heap l1 l2).objs.size=some _:=up (up (Heap.get?_push_size _ rfl))
 have e2:(zq5 s.heap l1 l2).get? (zq1 s.heap l1).objs.size=some _:=up (up (up (Heap.get?_push_size _ rfl)))
 have e1:(zq5 s.heap l1 l2).get? s.heap.objs.size=some _:=up (up (up (up (Heap.get?_push_size _ rfl))))
 have all:∀ c o,s.heap.get? c=some o->(zq5 s.heap l1 l2).get? c=some o:=fun c o e=>up (up (up (up (up e))))
 show _/\_
 rw [n2,n3,n4] at e5
 rw [n1,n2] at e3
 rw [n3] at e4
 rw [n1] at e2
 rw [n4]
 exact ⟨⟨_,e5,rfl⟩,q _ ⟨e5,e3,⟨_,_,e4⟩,⟨_,e1,rfl,rfl⟩,⟨_,e2,rfl,rfl⟩,h1.at fun o e=>all _ o e,h2.at fun o e=>all _ o e⟩ all⟩
theorem zs_apart (n l1 l2:Nat) (h1:l1<n) (h2:l2<n):ZipApart (n+4) (n+2) (n+3) n (n+1) l1 l2:=by
 have ne:∀ {a b:Nat},a<b\/b<a->(a:Addr) ≠ b:=fun h e=>by rcases h with h | h <;> exact Nat.lt_irrefl _ (e ▸ h)
 constructor <;> (refine ne ?_;omega)
end
end L3
namespace L3
open PySem PySem.Spec
open PyProof.Rows hiding St
open L2
section
variable {X : Cx} {pins : List (Addr × Obj)} {σ : L2.St} {H : Hp} {s : Shared} {h' : Heap} {t' : Nat}
theorem inv_turnL {fp:List Addr} (I:Inv X pins σ H s) (hf:∀ b ∈ fp,FpOk X pins H b) (k:∀ b o,b ∉ fp->s.heap.get? b=some o->h'.get? b=some o):Inv X pins σ H { s with heap:=h',toks:=t' }:=by
 have nit:∀ b u,H b=some u->b ∉ fp:=fun b u e z=>by rw [(hf b z).1] at e;cases e
 refine I.step (g':=s.gens) (d':=s.drawn) (ch:=fp) (fun b hb=>let ⟨_,a,_,b,c,d⟩:=hf b hb; ⟨b,a,c,d⟩) (fun b o _ _ hc e _=>k b o hc e) (fun b o _ _ hc e _=>⟨o.slots,k b o hc e⟩) (fun _ _ _ _ n=>n) (fun b o hc e=>⟨o,k b o hc e⟩) (fun _ _ e=>e) (fun _ _ _ e=>e) (fun b ps e=>⟨#[],by rw [e];simp⟩)
  (fun m ⟨o,es,ep,ho,r⟩=>⟨o,es,ep,k _ o (fun z=>(hf _ z).2.1 rfl) ho,r⟩) (fun b u e=>(I.hok b u e).stay (fun c v hc q=>k c v ?_ q) (fun _ q=>q) fun _ _ q=>q) I.bare
 rcases hc with z | z
 ·rw [z];exact nit b u e
 ·exact nit c _ z
theorem inv_turnN {fp:List Addr} {a:Addr} {o:HO} (I:Inv X pins σ H s) (hf:∀ b ∈ fp,FpOk X pins H b) (k:∀ b o,b ∉ fp->s.heap.get? b=some o->h'.get? b=some o) (hp:s.heap.objs.size<=a) (new:ObjOk X.prog X.w (upd H a o) h' a o):Inv X pins σ (upd H a o) { s with heap:=h',toks:=t' }:=by
 have nit:∀ b u,H b=some u->b ∉ fp:=fun b u e z=>by rw [(hf b z).1] at e;cases e
 have hn:=I.hok.fresh hp
 have na:∀ b u,H b=some u->b ≠ a:=fun b u e z=>by rw [z,hn] at e;cases e
 have nb:∀ b (o:Obj),s.heap.get? b=some o->b ≠ a:=fun b o e z=>Nat.lt_irrefl _ (Nat.lt_of_lt_of_le (Heap.lt_size e) (z ▸ hp))
 refine I.step (g':=s.gens) (d':=s.drawn) (ch:=fp) (fun b hb=>let ⟨_,a,_,b,c,d⟩:=hf b hb; ⟨b,a,c,d⟩) (fun b o _ _ hc e _=>k b o hc e) (fun b o _ _ hc e _=>⟨o.slots,k b o hc e⟩) (fun b o _ e n=>by rw [upd_ne (nb b o e)];exact n) (fun b o hc e=>⟨o,k b o hc e⟩) (fun b _ e=>by rw [upd_ne (na b _ e)];exact e) (fun b _ _ e=>by rw [upd_ne (na b _ e)];exact e) (fun b ps e=>⟨#[],by rw [upd_ne (na b _ e),e];simp⟩)
  (fun m ⟨o,es,ep,ho,r⟩=>⟨o,es,ep,k _ o (fun z=>(hf _ z).2.1 rfl) ho,r⟩) (fun b u e=>?_) I.bare
 by_cases hb:b=a
 ·subst hb;rw [upd_same] at e;cases e;exact new
 ·rw [upd_ne hb] at e
  refine (I.hok b u e).stay (fun c v hc q=>k c v ?_ q) (fun c q=>by rw [upd_ne (na c _ q)];exact q) fun c xs q=>by rw [upd_ne (na c _ q)];exact q
  rcases hc with z | z
  ·rw [z];exact nit b u e
  ·exact nit c _ z
end
def Itz (K:PySem.W.Frag) (l1 l2:Addr):It :=
 ⟨fun i H=>∃ xs ys x y,SqT K H l1 xs/\SqT K H l2 ys/\xs[i]? = some x/\ys[i]? = some y,
  fun i H x H'=>∃ a u v,H a=none/\(∀ xs,SqT K H l1 xs->xs[i]? = some u)/\(∀ ys,SqT K H l2 ys->ys[i]? = some v)/\x = .ref a/\H'=upd H a (.tup [u,v]),
  fun i H=>∃ xs ys,SqT K H l1 xs/\SqT K H l2 ys/\(xs.length<=i\/ys.length<=i)⟩
structure ZO (h:Heap) (z p r i1 i2 l1 l2:Addr) (k:Nat):Prop where
 zz:IsZip h z p r .none
 pp:IsPair h p (.ref i1) (.ref i2)
 rr:∃ a b,IsPair h r a b
 a1:h.IsTupleIter i1 l1 k
 a2:h.IsTupleIter i2 l2 k
theorem turn_zip {P:Program} {w:World} {K:PySem.W.Frag} {elts:List Expr} {x1:Nat} {pos:Pos} (z p r i1 i2 l1 l2:Addr) (D:ZipApart z p r i1 i2 l1 l2) :
 Turn P w K (.Tuple elts x1 pos) (Itz K l1 l2) [z,p,r,i1,i2] z (fun i h=>ZO h z p r i1 i2 l1 l2 i) where
 mem:=by simp
 obj:=fun i h st b hb=>by
  obtain ⟨a,c,⟨u,v,d⟩,⟨o1,e1,_,f1⟩,⟨o2,e2,_,f2⟩⟩:=st
  simp only [List.mem_cons,List.not_mem_nil,or_false] at hb
  rcases hb with rfl | rfl | rfl | rfl | rfl
  ·exact ⟨_,a,fun v z=>by cases z⟩
  ·exact ⟨_,c,fun v z=>by cases z⟩
  ·exact ⟨_,d,fun v z=>by cases z⟩
  ·exact ⟨_,e1,fun v z=>by rw [f1] at z;cases z⟩
  ·exact ⟨_,e2,fun v z=>by rw [f2] at z;cases z⟩
 keep:=fun i h h' st k=>by
  obtain ⟨a,c,⟨u,v,d⟩,e,f⟩:=st
  exact ⟨k z (by simp) _ a,k p (by simp) _ c,⟨u,v,k r (by simp) _ d⟩,e.at fun o g=>k i1 (by simp) o g,f.at fun o g=>k i2 (by simp) o g⟩
 item:=by
  intro X hP hw hK hc i pins s σ H E I hf st hg
  subst hP hw hK
  obtain ⟨xs,ys,x,y,q1,q2,hx,hy⟩:=hg
  obtain ⟨us,ru,tu,_⟩:=I.tuple q1
  obtain ⟨vs,rv,tv,_⟩:=I.tuple q2
  obtain ⟨u,hu,ru⟩:=ru.get hx
  obtain ⟨v,hv,rv⟩:=rv.get hy
  have S:ZS s.heap z p r i1 i2 l1 l2 i us.toArray vs.toArray .none:=⟨st.zz,st.pp,st.rr,st.a1,st.a2,tu,tv⟩
  have lt:∀ b ∈ [z,p,r,i1,i2],b ≠ s.heap.objs.size:=fun b hb e=>by
   have:b<s.heap.objs.size:=by
    obtain ⟨o1,e1,_,_⟩:=st.a1
    obtain ⟨o2,e2,_,_⟩:=st.a2
    obtain ⟨a,b',er⟩:=st.rr
    simp only [List.mem_cons,List.not_mem_nil,or_false] at hb
    rcases hb with rfl | rfl | rfl | rfl | rfl
    ·exact Heap.lt_size st.zz
    ·exact Heap.lt_size st.pp
    ·exact Heap.lt_size er
    ·exact Heap.lt_size e1
    ·exact Heap.lt_size e2
   exact Nat.lt_irrefl _ (e ▸ this)
  refine next_zs D S (x:=u) (y:=v) (by simpa using hu) (by simpa using hv) fun h1 S1 hp up=>⟨_,rfl,?_⟩
  refine wpAny_letOwnedTupleGo_zip S1.zz fun h2 Z2 sb=>?_
  have n0:=lt z (by simp)
  have up2:∀ b o,b ∉ [z,p,r,i1,i2]->s.heap.get? b=some o->h2.get? b=some o:=fun b o hb e=>by
   simp only [List.mem_cons,List.not_mem_nil,or_false,not_or] at hb
   exact (sb.2 b hb.1).trans (up b o hb.1 hb.2.2.1 hb.2.2.2.1 hb.2.2.2.2 e)
  have P2:IsPair h2 s.heap.objs.size u v:=(sb.2 _ (Ne.symm n0)).trans hp
  have sL:=sizeLine_eq
  refine ⟨.ref s.heap.objs.size,_,inv_turnN (s:=s) (t':=s.toks) I hf up2 (Nat.le_refl _) (o := .tup [x,y]) ⟨by show 2<=sizeLine;omega,[u,v],.cons ru (.cons rv .nil),⟨_,P2,rfl,_,rfl⟩⟩,rfl,⟨_,x,y,I.hok.fresh (Nat.le_refl _),fun zs hz=>by rw [I.tuple_inj hz q1];exact hx,fun zs hz=>by rw [I.tuple_inj hz q2];exact hy,rfl,rfl⟩,⟨Z2,(sb.2 p D.TIz).trans S1.pp,?_,S1.a1.at fun o g=>(sb.2 i1 D.i1z).trans g,S1.a2.at fun o g=>(sb.2 i2 D.i2z).trans g⟩,fun b hb=>?_⟩
  ·obtain ⟨a,b,e⟩:=S1.rr
   exact ⟨a,b,(sb.2 r D.TOz).trans e⟩
  ·rw [upd_ne (lt b hb)]
   exact (hf b hb).1
 done:=by
  intro X hP hw hK hc i pins s σ H E I hf st hg
  subst hP hw hK
  obtain ⟨xs,ys,q1,q2,hx⟩:=hg
  obtain ⟨us,ru,tu,_⟩:=I.tuple q1
  obtain ⟨vs,rv,tv,_⟩:=I.tuple q2
  have lu:=ru.length
  have lv:=rv.length
  have S:ZS s.heap z p r i1 i2 l1 l2 i us.toArray vs.toArray .none:=⟨st.zz,st.pp,st.rr,st.a1,st.a2,tu,tv⟩
  refine next_ze (I.ok.hd hc) D S (hx.imp (fun h=>by simp;omega) fun h=>by simp;omega) fun h1 up=>⟨rfl,inv_turnL (t':=s.toks) I hf fun b o hb e=>?_⟩
  simp only [List.mem_cons,List.not_mem_nil,or_false,not_or] at hb
  exact up b o hb.1 hb.2.2.1 hb.2.2.2.1 hb.2.2.2.2 e
 self:=fun _ _ _ _ _ st h=>wpAny_pyIter_zip st.zz h
def iZip (K:PySem.W.Frag) (t:TA):TI:=fun σ H R=>t σ H fun vs H1=>∃ a b,vs = [.ref a,.ref b]/\(∃ xs,SqT K H1 a xs)/\(∃ ys,SqT K H1 b ys)/\R (Itz K a b) H1
theorem bt_zip:bootBuiltins "zip" = some (.type "zip"):=by decide +kernel
theorem pi_zip {X:Cx} {elts:List Expr} {x1:Nat} {pos p1 p2:Pos} {a b:Expr} {ta:TA} (gE:Gl X "zip") (mE:X.mg "zip" = none) (ha:PA X [a,b] ta) (hs:starEach [a,b] X.env=(false,eval a X.env)::starEach [b] X.env:=by rfl) (hp:(backTo p2 (starEach [b] X.env)).any (·.1)=false:=by rfl):PI X (.Tuple elts x1 pos) (.Call (.Name "zip" p1) [a,b] [] p2) (iZip X.K ta):=by
 intro pins s σ H R I h
 refine Call_ (ld_blt I gE mE bt_zip (PyProof.Rows.callWith_type1 (thn (ha p2 pins s σ H _ I h) fun us s1 ⟨vs,H1,I1,r1,q1⟩=>?_) hs hp))
 obtain ⟨a,b,e,⟨xs,qa⟩,⟨ys,qb⟩,q⟩:=q1
 subst e
 obtain ⟨u,v,rfl,ru,rv⟩:=Vals.two r1
 obtain rfl:u=Value.ref a:=ru
 obtain rfl:v=Value.ref b:=rv
 obtain ⟨us,ru,tu,_⟩:=I1.tuple qa
 obtain ⟨vs,rv,tv,_⟩:=I1.tuple qb
 have la:a<s1.heap.objs.size:=by obtain ⟨o,e,_⟩:=tu;exact Heap.lt_size e
 have lb:b<s1.heap.objs.size:=by obtain ⟨o,e,_⟩:=tv;exact Heap.lt_size e
 refine call_zs tu tv fun h' S up=>wpAny_pyIter_zip S.zz ?_
 refine ⟨_,[s1.heap.objs.size+4,s1.heap.objs.size+2,s1.heap.objs.size+3,s1.heap.objs.size,s1.heap.objs.size+1],_,Itz X.K a b,H1,rfl,I1.kept (t':=s1.toks) up,turn_zip _ _ _ _ _ a b (zs_apart _ _ _ la lb),⟨S.zz,S.pp,S.rr,S.a1,S.a2⟩,fun c hc=>?_,q⟩
 have le:s1.heap.objs.size<=c:=by
  simp only [List.mem_cons,List.not_mem_nil,or_false] at hc
  rcases hc with rfl | rfl | rfl | rfl | rfl <;> first | exact Nat.le_refl _ | exact Nat.le_add_right _ _
 exact I1.fpOk le (I1.hok.fresh le)
section
variable {K : PySem.W.Frag} {O : Ob}
def zipD:List PyData->List PyData->List PyData
 | d::ds,e::es => .tuple [d,e]::zipD ds es
 | _,_ => []
theorem zipD_len:∀ ds es:List PyData,(zipD ds es).length=min ds.length es.length
 | [],_=>by simp [zipD]
 | _::_,[]=>by simp [zipD]
 | _::ds,_::es=>by rw [zipD,List.length_cons,zipD_len ds es,List.length_cons,List.length_cons,Nat.succ_min_succ]
theorem zipD_get:∀ {ds es:List PyData} {i:Nat} {d:PyData},(zipD ds es)[i]? = some d->∃ a b,ds[i]? = some a/\es[i]? = some b/\d = .tuple [a,b]
 | [],_,i,d,h=>by simp [zipD] at h
 | _::_,[],i,d,h=>by simp [zipD] at h
 | a::ds,b::es,0,d,h=>by
   rw [zipD,List.getElem?_cons_zero] at h
   cases h
   exact ⟨a,b,rfl,rfl,rfl⟩
 | a::ds,b::es,i+1,d,h=>by
   rw [zipD,List.getElem?_cons_succ] at h
   obtain ⟨x,y,h1,h2,h3⟩:=zipD_get h
   exact ⟨x,y,h1,h2,h3⟩
theorem flats_at {ds:List PyData} {i:Nat} {d:PyData} (h:flats ds=true) (e:ds[i]? = some d):flat d=true:=by
 induction ds generalizing i with
 | nil=>cases e
 | cons x ds ih =>
   rw [flats,Bool.and_eq_true] at h
   cases i with
   | zero=>cases e;exact h.1
   | succ i=>exact ih h.2 e
def srcZ (g:DA):DI:=fun ρ Q=>g ρ fun vs=>∃ ds es,vs = [.tuple ds,.tuple es]/\flats ds=true/\flats es=true/\Q true (zipD ds es)
theorem src_zip {t:TA} {g:DA} (h:AD K O t g):SrcS K O (iZip K t) (srcZ g):=fun σ H ρ R Qd S hf k=>by
 refine h σ H ρ _ _ S hf fun vs H1 ds st is ⟨es,fs,e,f1,f2,q⟩=>?_
 subst e
 cases is with
 | cons i1 is =>
   cases is with
   | cons i2 is =>
     cases is
     cases i1 with
     | tuple ha hs =>
       rename_i a xs
       cases i2 with
       | tuple hb ht =>
         rename_i b ys
         have l1:=hs.length
         have l2:=ht.length
         refine ⟨a,b,rfl,⟨xs,ha⟩,⟨ys,hb⟩,k (Itz K a b) H1 (zipD es fs) (fun _=>False) true ⟨st,fun b hb=>hb.elim,fun H2 i kb t2 hi=>?_,fun H2 i d kb t2 hd c=>?_⟩ (fun z b hb=>hb.elim) q⟩
         ·rw [zipD_len] at hi
          exact ⟨xs,ys,SqT.stay t2 ha,SqT.stay t2 hb,by omega⟩
         ·obtain ⟨x,y,h1,h2,rfl⟩:=zipD_get hd
          have fx:=flats_at f1 h1
          have fy:=flats_at f2 h2
          obtain ⟨u,hu,iu⟩:=item_at (O:=O) hs h1 t2 (.inl fx)
          obtain ⟨v,hv,iv⟩:=item_at (O:=O) ht h2 t2 (.inl fy)
          have q1:SqT K H2 a xs:=SqT.stay t2 ha
          have q2:SqT K H2 b ys:=SqT.stay t2 hb
          refine ⟨⟨xs,ys,u,v,q1,q2,hu,hv⟩,fun w H3 ⟨c',u',v',hc',e1,e2,ex,e3⟩=>?_⟩
          have sm:Same H2 H3:=by rw [e3];exact L3.same_new hc' _
          subst ex
          have e1:=e1 xs q1
          have e2:=e2 ys q2
          rw [hu] at e1
          rw [hv] at e2
          cases e1
          cases e2
          have fl:flat (.tuple [x,y])=true:=by show (flat x && (flat y && true))=true;rw [fx,fy];rfl
          have mv:∀ {d:PyData} {z:V},Is K (fun a=>¬ O.M a/\(flat d=true\/∃ o,H1 a=some o)) H2 z d->Is K (fun a=>¬ O.M a/\(flat (.tuple [x,y])=true\/∃ o,H1 a=some o)) H3 z d:=fun iz =>
           iz.to (fun c zs f q=>⟨⟨f.1,.inl fl⟩,sm _ _ q⟩) fun c zs q=>by
            rcases q with (q | ⟨ob,q⟩) | q
            ·exact .inl (.inl (sm _ _ q))
            ·exact .inl (.inr ⟨ob,sm _ _ q⟩)
            ·exact .inr q
          refine ⟨sm,.tuple (xs := [u,v]) (.inl (.inl ?_)) (.cons (mv iu) (.cons (mv iv) .nil))⟩
          rw [e3]
          exact upd_same
end
section
variable {ι κ : Type} {P : Program} {w : World} {K : PySem.W.Frag} {mg : Str → Option Value} {base : Heap} {k : Nat} {X : ι → Cx} {O : κ → Ob} {a b : Expr} {ga : DA} {pos p1 p2 : Pos} {elts : List Expr} {x1 : Nat}
theorem i_zip (C:Ctx3 P w K mg base k X) (B:Blt mg) (ha:A3 K X O [a,b] ga) (hg:∀ i,Gl (X i) "zip" := by intro i;rfl) (hs:∀ i,starEach [a,b] (X i).env=(false,eval a (X i).env)::starEach [b] (X i).env:=by intro i;rfl) (hp:∀ i,(backTo p2 (starEach [b] (X i).env)).any (·.1)=false:=by intro i;rfl):I3 K X O (.Tuple elts x1 pos) (.Call (.Name "zip" p1) [a,b] [] p2) (srcZ ga) :=
 let ⟨_,q,d⟩:=ha; ⟨iZip K _,fun i=>by have h:=pi_zip (elts:=elts) (x1:=x1) (pos:=pos) (p1:=p1) (p2:=p2) (hg i) (by rw [C.hmg];exact B.zip) (q i) (hs i) (hp i);rw [C.hK] at h;exact h,fun j=>src_zip (d j)⟩
end
end L3
namespace L3
open PySem PySem.Spec
open PyProof.Rows hiding St
open L2
abbrev IsZipF (h:Heap) (z p r:Addr) (a:Addr) (f:Bool):Prop:=h.get? z=some { cls := .type "zip", dict:=none,data := .fields #[rawInt a,.bool f,.bool false,.ref p,.ref r],slots:=#[] }
section
variable {prog : Program} {w : World} {A : Around} {E : Value → Shared → Prop} {s : Shared}
theorem zf_next {z p r i1 i2 l1 l2 a:Addr} {f:Bool} {oa:Obj} {k:Nat} {xs ys:Array Value} {x y:Value} {Q:Value->Shared->Prop} (D:ZipApart z p r i1 i2 l1 l2) (Z:IsZipF s.heap z p r a f) (ha:s.heap.get? a=some oa) (az:a ≠ z) (P:IsPair s.heap p (.ref i1) (.ref i2)) (A1:s.heap.IsTupleIter i1 l1 k) (A2:s.heap.IsTupleIter i2 l2 k) (T1:s.heap.IsTuple l1 xs) (T2:s.heap.IsTuple l2 ys) (hx:xs[k]? = some x) (hy:ys[k]? = some y)
 (q:∀ h',IsZipF h' z p r a true->h'.IsTupleIter i1 l1 (k+1)->h'.IsTupleIter i2 l2 (k+1)->IsPair h' s.heap.objs.size x y->h'.objs.size=s.heap.objs.size+1->(∀ c o,c ≠ z->c ≠ i1->c ≠ i2->s.heap.get? c=some o->h'.get? c=some o)->Q (.ref s.heap.objs.size) { s with heap:=h' }) :
 wpAny (model prog w) A (Builtin.«zip.__next__» ⟨[.ref z],[]⟩) (fun fin s'=>∃ v,fin = .done (.ret v)/\Q v s') E s:=by
 refine wpAny_bind (m:=field (.ref z) 2) (wpAny_field Z rfl (x := .bool false) rfl ?_)
 refine wpAny_bind (m:=field (.ref z) 3) (wpAny_field Z rfl (x := .ref p) rfl (wpAny_bind (wpAny_seqItems P rfl ?_)))
 refine wpAny_bind (m:=Builtin.SmallTypes.ownedTupleIsFree (.ref z)) ?_
 unfold Builtin.SmallTypes.ownedTupleIsFree
 refine wpAny_bind (wpAny_field Z rfl (x:=rawInt a) rfl ?_)
 show wpAny _ _ (loadIfAlive ((a:Int).toNat) >>= _) _ _ _
 rw [Int.toNat_natCast]
 refine wpAny_bind (PySem.W.kdx_alive ha ?_)
 simp only [Option.isNone_some,Bool.false_eq_true,if_false]
 refine wpAny_bind (wpAny_field Z rfl (x := .bool f) rfl ?_)
 cases f
 case false =>
  rw [if_pos (show (Value.bool false != Value.bool true)=true from rfl)]
  refine wpAny_bind (wpAny_setField_rec Z (by simp) fun ha Za sa=>?_)
  refine wpAny_pure ?_
  simp only [Bool.false_eq_true,if_false]
  replace Za:IsZipF ha z p r a true:=Za
  have A1a:=A1.at fun o e=>sa.extBut _ o D.i1z e
  have A2a:=A2.at fun o e=>sa.extBut _ o D.i2z e
  have T1a:=T1.at fun o e=>sa.extBut _ o D.l1z e
  have T2a:=T2.at fun o e=>sa.extBut _ o D.l2z e
  rw [<- Array.forIn_toList]
  simp only [List.forIn_cons,List.forIn_nil]
  refine wpAny_bind (wpAny_bind (wpAny_bind (wpAny_holding (wpAny_bind (m:=Builtin.SmallTypes.nextOf (.ref i1)) (nx_item A1a T1a hx fun hb A1b sb=>wpAny_pure (wpAny_pure ?_))))))
  have A2b:=A2a.at fun o e=>sb.extBut _ o D.i12.symm e
  have T2b:=T2a.at fun o e=>sb.extBut _ o D.l2i1 e
  refine wpAny_bind (wpAny_bind (wpAny_holding (wpAny_bind (m:=Builtin.SmallTypes.nextOf (.ref i2)) (nx_item A2b T2b hy fun hc A2c sc=>wpAny_pure (wpAny_pure (wpAny_pure ?_))))))
  refine wpAny_bind (wpAny_newTuple (hsz:=by show 2<=sizeLine;rw [sizeLine_eq];decide) (wpAny_pure ⟨_,rfl,?_⟩))
  have sz:hc.objs.size=s.heap.objs.size:=by rw [sc.1,sb.1,sa.1]
  have up:∀ c o,c ≠ z->c ≠ i1->c ≠ i2->s.heap.get? c=some o->hc.get? c=some o:=fun c o n1 n3 n4 e=>sc.extBut _ _ n4 (sb.extBut _ _ n3 (sa.extBut _ _ n1 e))
  have Zc:IsZipF hc z p r a true:=sc.extBut _ _ D.i2z.symm (sb.extBut _ _ D.i1z.symm Za)
  rw [sz]
  refine q _ (Heap.get?_push_of_some _ Zc) ((A1b.at fun o e=>sc.extBut _ o D.i12 e).at fun o e=>Heap.get?_push_of_some _ e) (A2c.at fun o e=>Heap.get?_push_of_some _ e) ?_ (by rw [Heap.size_push,sz]) fun c o n1 n3 n4 e=>Heap.get?_push_of_some _ (up c o n1 n3 n4 e)
  rw [<- sz]
  exact Heap.get?_push_size _ rfl
 case true =>
  rw [if_neg (show ¬ ((Value.bool true != Value.bool true)=true) from Bool.false_ne_true)]
  refine wpAny_pure ?_
  simp only [Bool.false_eq_true,if_false]
  have Za:IsZipF s.heap z p r a true:=Z
  have sa:Heap.SameBut z s.heap s.heap:=Heap.SameBut.refl _ _
  have A1a:=A1.at fun o e=>sa.extBut _ o D.i1z e
  have A2a:=A2.at fun o e=>sa.extBut _ o D.i2z e
  have T1a:=T1.at fun o e=>sa.extBut _ o D.l1z e
  have T2a:=T2.at fun o e=>sa.extBut _ o D.l2z e
  rw [<- Array.forIn_toList]
  simp only [List.forIn_cons,List.forIn_nil]
  refine wpAny_bind (wpAny_bind (wpAny_bind (wpAny_holding (wpAny_bind (m:=Builtin.SmallTypes.nextOf (.ref i1)) (nx_item A1a T1a hx fun hb A1b sb=>wpAny_pure (wpAny_pure ?_))))))
  have A2b:=A2a.at fun o e=>sb.extBut _ o D.i12.symm e
  have T2b:=T2a.at fun o e=>sb.extBut _ o D.l2i1 e
  refine wpAny_bind (wpAny_bind (wpAny_holding (wpAny_bind (m:=Builtin.SmallTypes.nextOf (.ref i2)) (nx_item A2b T2b hy fun hc A2c sc=>wpAny_pure (wpAny_pure (wpAny_pure ?_))))))
  refine wpAny_bind (wpAny_newTuple (hsz:=by show 2<=sizeLine;rw [sizeLine_eq];decide) (wpAny_pure ⟨_,rfl,?_⟩))
  have sz:hc.objs.size=s.heap.objs.size:=by rw [sc.1,sb.1,sa.1]
  have up:∀ c o,c ≠ z->c ≠ i1->c ≠ i2->s.heap.get? c=some o->hc.get? c=some o:=fun c o n1 n3 n4 e=>sc.extBut _ _ n4 (sb.extBut _ _ n3 (sa.extBut _ _ n1 e))
  have Zc:IsZipF hc z p r a true:=sc.extBut _ _ D.i2z.symm (sb.extBut _ _ D.i1z.symm Za)
  rw [sz]
  refine q _ (Heap.get?_push_of_some _ Zc) ((A1b.at fun o e=>sc.extBut _ o D.i12 e).at fun o e=>Heap.get?_push_of_some _ e) (A2c.at fun o e=>Heap.get?_push_of_some _ e) ?_ (by rw [Heap.size_push,sz]) fun c o n1 n3 n4 e=>Heap.get?_push_of_some _ (up c o n1 n3 n4 e)
  rw [<- sz]
  exact Heap.get?_push_size _ rfl
theorem zf_end {z p r i1 i2 l1 l2 a:Addr} {f:Bool} {oa:Obj} {k:Nat} {xs ys:Array Value} {Q:Fin->Shared->Prop} (hh:A.handled=none) (D:ZipApart z p r i1 i2 l1 l2) (Z:IsZipF s.heap z p r a f) (ha:s.heap.get? a=some oa) (P:IsPair s.heap p (.ref i1) (.ref i2)) (A1:s.heap.IsTupleIter i1 l1 k) (A2:s.heap.IsTupleIter i2 l2 k) (T1:s.heap.IsTuple l1 xs) (T2:s.heap.IsTuple l2 ys) (he:xs[k]? = none\/ys[k]? = none)
 (q:∀ h' e,(∀ c o,c ≠ z->c ≠ i1->c ≠ i2->s.heap.get? c=some o->h'.get? c=some o)->(∃ o,h'.get? e=some o/\o.cls = .type "StopIteration")->E (.ref e) { s with heap:=h' }) :
 wpAny (model prog w) A (Builtin.«zip.__next__» ⟨[.ref z],[]⟩) Q E s:=by
 refine wpAny_bind (m:=field (.ref z) 2) (wpAny_field Z rfl (x := .bool false) rfl ?_)
 refine wpAny_bind (m:=field (.ref z) 3) (wpAny_field Z rfl (x := .ref p) rfl (wpAny_bind (wpAny_seqItems P rfl ?_)))
 refine wpAny_bind (m:=Builtin.SmallTypes.ownedTupleIsFree (.ref z)) ?_
 unfold Builtin.SmallTypes.ownedTupleIsFree
 refine wpAny_bind (wpAny_field Z rfl (x:=rawInt a) rfl ?_)
 show wpAny _ _ (loadIfAlive ((a:Int).toNat) >>= _) _ _ _
 rw [Int.toNat_natCast]
 refine wpAny_bind (PySem.W.kdx_alive ha ?_)
 simp only [Option.isNone_some,Bool.false_eq_true,if_false]
 refine wpAny_bind (wpAny_field Z rfl (x := .bool f) rfl ?_)
 cases f
 case false =>
  rw [if_pos (show (Value.bool false != Value.bool true)=true from rfl)]
  refine wpAny_bind (wpAny_setField_rec Z (by simp) fun ha Za sa=>?_)
  refine wpAny_pure ?_
  simp only [Bool.false_eq_true,if_false]
  have A1a:=A1.at fun o e=>sa.extBut _ o D.i1z e
  have A2a:=A2.at fun o e=>sa.extBut _ o D.i2z e
  have T1a:=T1.at fun o e=>sa.extBut _ o D.l1z e
  have T2a:=T2.at fun o e=>sa.extBut _ o D.l2z e
  rw [<- Array.forIn_toList]
  simp only [List.forIn_cons,List.forIn_nil]
  cases hx:xs[k]? with
  | none =>
    refine wpAny_bind (wpAny_bind (wpAny_bind (wpAny_holding (wpAny_bind (m:=Builtin.SmallTypes.nextOf (.ref i1)) (nx_end hh A1a T1a hx fun hb e sb ge=>?_)))))
    exact q hb e (fun c o n1 n3 n4 g=>sb _ _ n3 (sa.extBut _ _ n1 g)) ge
  | some x =>
    have hy:ys[k]? = none:=he.resolve_left fun z=>by rw [hx] at z;cases z
    refine wpAny_bind (wpAny_bind (wpAny_bind (wpAny_holding (wpAny_bind (m:=Builtin.SmallTypes.nextOf (.ref i1)) (nx_item A1a T1a hx fun hb A1b sb=>wpAny_pure (wpAny_pure ?_))))))
    have A2b:=A2a.at fun o e=>sb.extBut _ o D.i12.symm e
    have T2b:=T2a.at fun o e=>sb.extBut _ o D.l2i1 e
    refine wpAny_bind (wpAny_bind (wpAny_holding (wpAny_bind (m:=Builtin.SmallTypes.nextOf (.ref i2)) (nx_end hh A2b T2b hy fun hc e sc ge=>?_))))
    exact q hc e (fun c o n1 n3 n4 g=>sc _ _ n4 (sb.extBut _ _ n3 (sa.extBut _ _ n1 g))) ge
 case true =>
  rw [if_neg (show ¬ ((Value.bool true != Value.bool true)=true) from Bool.false_ne_true)]
  refine wpAny_pure ?_
  simp only [Bool.false_eq_true,if_false]
  have sa:Heap.SameBut z s.heap s.heap:=Heap.SameBut.refl _ _
  have A1a:=A1.at fun o e=>sa.extBut _ o D.i1z e
  have A2a:=A2.at fun o e=>sa.extBut _ o D.i2z e
  have T1a:=T1.at fun o e=>sa.extBut _ o D.l1z e
  have T2a:=T2.at fun o e=>sa.extBut _ o D.l2z e
  rw [<- Array.forIn_toList]
  simp only [List.forIn_cons,List.forIn_nil]
  cases hx:xs[k]? with
  | none =>
    refine wpAny_bind (wpAny_bind (wpAny_bind (wpAny_holding (wpAny_bind (m:=Builtin.SmallTypes.nextOf (.ref i1)) (nx_end hh A1a T1a hx fun hb e sb ge=>?_)))))
    exact q hb e (fun c o n1 n3 n4 g=>sb _ _ n3 (sa.extBut _ _ n1 g)) ge
  | some x =>
    have hy:ys[k]? = none:=he.resolve_left fun z=>by rw [hx] at z;cases z
    refine wpAny_bind (wpAny_bind (wpAny_bind (wpAny_holding (wpAny_bind (m:=Builtin.SmallTypes.nextOf (.ref i1)) (nx_item A1a T1a hx fun hb A1b sb=>wpAny_pure (wpAny_pure ?_))))))
    have A2b:=A2a.at fun o e=>sb.extBut _ o D.i12.symm e
    have T2b:=T2a.at fun o e=>sb.extBut _ o D.l2i1 e
    refine wpAny_bind (wpAny_bind (wpAny_holding (wpAny_bind (m:=Builtin.SmallTypes.nextOf (.ref i2)) (nx_end hh A2b T2b hy fun hc e sc ge=>?_))))
    exact q hc e (fun c o n1 n3 n4 g=>sc _ _ n4 (sb.extBut _ _ n3 (sa.extBut _ _ n1 g))) ge
def ZQ (h:Heap) (z p r i1 i2 l1 l2 S:Addr) (k:Nat):Prop:=(k=0/\IsZip h z p r .none)\/∃ a f oa,IsZipF h z p r a f/\h.get? a=some oa/\a ≠ z/\a ≠ S/\a ≠ i1/\a ≠ i2
structure ZL (h:Heap) (z p r i1 i2 l1 l2 S:Addr) (k:Nat) (xs ys:Array Value):Prop where
 zq:ZQ h z p r i1 i2 l1 l2 S k
 pp:IsPair h p (.ref i1) (.ref i2)
 rr:∃ a b,IsPair h r a b
 a1:h.IsTupleIter i1 l1 k
 a2:h.IsTupleIter i2 l2 k
 t1:h.IsTuple l1 xs
 t2:h.IsTuple l2 ys
theorem zl_item {z p r i1 i2 l1 l2 S:Addr} {k:Nat} {xs ys:Array Value} {x y:Value} {Q:Option Value->Shared->Prop} (D:ZipApart z p r i1 i2 l1 l2) (Z:ZL s.heap z p r i1 i2 l1 l2 S k xs ys) (hS:S<s.heap.objs.size) (hx:xs[k]? = some x) (hy:ys[k]? = some y)
 (q:∀ h',ZL h' z p r i1 i2 l1 l2 S (k+1) xs ys->IsPair h' s.heap.objs.size x y->s.heap.objs.size<h'.objs.size->(∀ c o,c ≠ z->c ≠ r->c ≠ i1->c ≠ i2->s.heap.get? c=some o->h'.get? c=some o)->Q (some (.ref s.heap.objs.size)) { s with heap:=h' }):wpAny (model prog w) A (pyNext (.ref z)) Q E s:=by
 have lt:∀ {c:Addr} {o:Obj},s.heap.get? c=some o->s.heap.objs.size ≠ c:=fun e=>Nat.ne_of_gt (Heap.lt_size e)
 obtain ⟨zq,pp,rr,a1,a2,t1,t2⟩:=Z
 have n1:s.heap.objs.size ≠ i1:=by obtain ⟨o,e,_⟩:=a1;exact lt e
 have n2:s.heap.objs.size ≠ i2:=by obtain ⟨o,e,_⟩:=a2;exact lt e
 rcases zq with ⟨rfl,zz⟩ | ⟨a,f,oa,zz,ha,az,aS,ai1,ai2⟩
 ·refine next_zs D ⟨zz,pp,rr,a1,a2,t1,t2⟩ hx hy fun h' Z' pr up=>q h' ⟨.inr ⟨_,false,_,Z'.zz,pr,lt zz,Nat.ne_of_gt hS,n1,n2⟩,Z'.pp,Z'.rr,Z'.a1,Z'.a2,Z'.t1,Z'.t2⟩ pr (Heap.lt_size pr) up
 ·have T:s.TypeIs (.ref z) "zip" := ⟨_,zz,rfl⟩
  unfold pyNext
  refine wpAny_bind (wpAny_attempt (wpAny_callSpecial?_slot (name:=Str.ofString "__next__") T F.slot_zip_next (wpAny_call_entry F.slot_zip_next T F.entry_zip_next (zf_next D zz ha az pp a1 a2 t1 t2 hx hy fun h' Z' b1 b2 pr sz up=>wpAny_pure ?_) (F.args_zip_next_1 _))))
  obtain ⟨u,v,rr⟩:=rr
  exact q h' ⟨.inr ⟨a,true,oa,Z',up a oa az ai1 ai2 ha,az,aS,ai1,ai2⟩,up _ _ D.TIz D.TIi1 D.TIi2 pp,⟨u,v,up _ _ D.TOz D.TOi1 D.TOi2 rr⟩,b1,b2,t1.at fun o e=>up _ o D.l1z D.l1i1 D.l1i2 e,t2.at fun o e=>up _ o D.l2z D.l2i1 D.l2i2 e⟩ pr (by omega) fun c o c1 _ c3 c4 e=>up c o c1 c3 c4 e
theorem zl_end {z p r i1 i2 l1 l2 S:Addr} {k:Nat} {xs ys:Array Value} {Q:Option Value->Shared->Prop} (hh:A.handled=none) (D:ZipApart z p r i1 i2 l1 l2) (Z:ZL s.heap z p r i1 i2 l1 l2 S k xs ys) (he:xs[k]? = none\/ys[k]? = none)
 (q:∀ h',(∀ c o,c ≠ z->c ≠ r->c ≠ i1->c ≠ i2->s.heap.get? c=some o->h'.get? c=some o)->Q none { s with heap:=h' }):wpAny (model prog w) A (pyNext (.ref z)) Q E s:=by
 obtain ⟨zq,pp,rr,a1,a2,t1,t2⟩:=Z
 rcases zq with ⟨rfl,zz⟩ | ⟨a,f,oa,zz,ha,az,aS,ai1,ai2⟩
 ·exact next_ze hh D ⟨zz,pp,rr,a1,a2,t1,t2⟩ he q
 ·have T:s.TypeIs (.ref z) "zip" := ⟨_,zz,rfl⟩
  unfold pyNext
  refine wpAny_bind (wpAny_attempt (wpAny_callSpecial?_slot (name:=Str.ofString "__next__") T F.slot_zip_next (wpAny_call_entry F.slot_zip_next T F.entry_zip_next (zf_end hh D zz ha pp a1 a2 t1 t2 he fun h' e up ⟨o,g,c⟩=>?_) (F.args_zip_next_1 _))))
  exact wpAny_bind (wpAny_isInstance (T := "StopIteration") (b:=true) ⟨o,g,c⟩ isSubtype_stop (wpAny_pure (q _ fun c o c1 _ c3 c4 e=>up c o c1 c3 c4 e)))
theorem ZL.at {h h':Heap} {z p r i1 i2 l1 l2 S:Addr} {k:Nat} {xs ys:Array Value} (Z:ZL h z p r i1 i2 l1 l2 S k xs ys) (nS:S ≠ z/\S ≠ p/\S ≠ r/\S ≠ i1/\S ≠ i2/\S ≠ l1/\S ≠ l2) (up:∀ c o,c ≠ S->h.get? c=some o->h'.get? c=some o):ZL h' z p r i1 i2 l1 l2 S k xs ys:=by
 obtain ⟨zq,pp,⟨u,v,rr⟩,a1,a2,t1,t2⟩:=Z
 obtain ⟨s1,s2,s3,s4,s5,s6,s7⟩:=nS
 refine ⟨?_,up _ _ s2.symm pp,⟨u,v,up _ _ s3.symm rr⟩,a1.at fun o e=>up _ o s4.symm e,a2.at fun o e=>up _ o s5.symm e,t1.at fun o e=>up _ o s6.symm e,t2.at fun o e=>up _ o s7.symm e⟩
 rcases zq with ⟨e,zz⟩ | ⟨a,f,oa,zz,ha,az,aS,ai⟩
 ·exact .inl ⟨e,up _ _ s1.symm zz⟩
 ·exact .inr ⟨a,f,oa,up _ _ s1.symm zz,up _ _ aS ha,az,aS,ai⟩
structure ZG (n0:Nat) (xs ys:Array Value) (h:Heap) (as:List Addr):Prop where
 rise:as.Pairwise (· < ·)
 above:∀ a ∈ as,n0<=a
 pairs:∀ (j:Nat) (a:Addr),as[j]? = some a->∃ x y,xs[j]? = some x/\ys[j]? = some y/\IsPair h a x y
theorem ZG.there {n0:Nat} {xs ys:Array Value} {h:Heap} {as:List Addr} (g:ZG n0 xs ys h as) {a:Addr} (ha:a ∈ as):a<h.objs.size:=by
 obtain ⟨j,hj⟩:=List.mem_iff_getElem?.mp ha
 obtain ⟨_,_,_,_,e⟩:=g.pairs j a hj
 exact Heap.lt_size e
theorem ge_ne {a b n:Nat} (h:n<=a) (l:b<n):a ≠ b:=fun e=>by omega
theorem zl_loop {S z p r i1 i2 l1 l2:Addr} {n0 n:Nat} {xs ys:Array Value} {R:Result->Shared->Prop} (hh:A.handled=none) (D:ZipApart z p r i1 i2 l1 l2) (nS:S ≠ z/\S ≠ p/\S ≠ r/\S ≠ i1/\S ≠ i2/\S ≠ l1/\S ≠ l2) (lo:S<n0/\z<n0/\r<n0/\i1<n0/\i2<n0) (hn:n<=sizeLine) (ex:n=min xs.size ys.size) (res:Value) {h₁:Heap}
 (hR:∀ h' tk acc c as,(∀ b o,b ≠ S->b ≠ z->b ≠ r->b ≠ i1->b ≠ i2->h₁.get? b=some o->h'.get? b=some o)->h'.get? S=some { cls := .type "list", dict:=none,data := .seq acc c,slots:=#[] }->as.length=n->ZG n0 xs ys h' as->acc.toList=as.map Value.ref->R (.ok (.ret res)) { s with heap:=h',toks:=tk }) :
 ∀ (k i:Nat) (h:Heap) (tk c:Nat) (acc:Array Value) (as:List Addr),n - i=k->i<=n->ZL h z p r i1 i2 l1 l2 S i xs ys->(∀ b o,b ≠ S->b ≠ z->b ≠ r->b ≠ i1->b ≠ i2->h₁.get? b=some o->h.get? b=some o) ->
   h.get? S=some { cls := .type "list", dict:=none,data := .seq acc c,slots:=#[] }->acc.toList=as.map Value.ref->as.length=i->ZG n0 xs ys h as->n0<=h.objs.size ->
   codeAny (model prog w) A (.builtin "list.extend.loop" ⟨[.ref S,.ref z,res],[]⟩) R { s with heap:=h,toks:=tk }:=by
 intro k
 induction k with
 | zero =>
   intro i h tk c acc as hk hi Z hkeep hS hacc hal hG hn0
   refine codeAny_builtin PySem.F.entry_extend_loop ?_
   rw [Around.under_plainId PySem.F.plain_extend_loop _]
   show wpAny _ A.in1 (pyNext (.ref z) >>= _) _ _ _
   refine wpAny_bind (zl_end (s:={ s with heap:=h,toks:=tk }) (A:=A.in1) hh D Z (by
    by_cases e:xs.size<=i
    ·exact .inl (Array.getElem?_eq_none e)
    ·exact .inr (Array.getElem?_eq_none (by omega))) fun h' up=>?_)
   have nb:∀ {a:Addr},a ∈ as->a ≠ z/\a ≠ r/\a ≠ i1/\a ≠ i2:=fun m=>by
    have:=hG.above _ m
    exact ⟨ge_ne this lo.2.1,ge_ne this lo.2.2.1,ge_ne this lo.2.2.2.1,ge_ne this lo.2.2.2.2⟩
   refine wpAny_pure (hR h' tk acc c as (fun b o b1 b2 b3 b4 b5 e=>up b o b2 b3 b4 b5 (hkeep b o b1 b2 b3 b4 b5 e)) (up S _ nS.1 nS.2.2.1 nS.2.2.2.1 nS.2.2.2.2.1 hS) (by omega) ⟨hG.rise,hG.above,fun j a hj=>?_⟩ hacc)
   obtain ⟨x,y,e1,e2,e3⟩:=hG.pairs j a hj
   obtain ⟨b1,b2,b3,b4⟩:=nb (List.mem_of_getElem? hj)
   exact ⟨x,y,e1,e2,up a _ b1 b2 b3 b4 e3⟩
 | succ k ih =>
   intro i h tk c acc as hk hi Z hkeep hS hacc hal hG hn0
   have hlx:i<xs.size:=by omega
   have hly:i<ys.size:=by omega
   have hx:xs[i]? = some xs[i]:=Array.getElem?_eq_getElem hlx
   have hy:ys[i]? = some ys[i]:=Array.getElem?_eq_getElem hly
   have hsz:acc.size=i:=by rw [<- Array.length_toList,hacc,List.length_map,hal]
   have hSl:S<h.objs.size:=Heap.lt_size hS
   refine codeAny_builtin PySem.F.entry_extend_loop ?_
   rw [Around.under_plainId PySem.F.plain_extend_loop _]
   show wpAny _ A.in1 (pyNext (.ref z) >>= _) _ _ _
   refine wpAny_bind (zl_item (s:={ s with heap:=h,toks:=tk }) D Z hSl hx hy fun h' Z' pr gr up=>?_)
   dsimp only at pr gr up ⊢
   have hS':=up S _ nS.1 nS.2.2.1 nS.2.2.2.1 nS.2.2.2.2.1 hS
   have up2:∀ b o,b ≠ S->h'.get? b=some o->(h'.update S (Obj.mapSeq (·.push (Value.ref h.objs.size)))).get? b=some o:=fun b o hb e=>(Heap.get?_update_other _ _ (Ne.symm hb)).trans e
   show wpAny _ A.in1 (updateSeq S (·.push (Value.ref h.objs.size)) >>= _) _ _ _
   refine wpAny_bind ?_
   refine wpAny_updateSeq hS' rfl (wpAny_pure ⟨plainId_quiet PySem.F.plain_extend_loop _,ih (i+1) _ tk _ (acc.push (Value.ref h.objs.size)) (as ++ [h.objs.size]) (by omega) (by omega) (Z'.at nS up2)
    (fun b o b1 b2 b3 b4 b5 e=>up2 b o b1 (up b o b2 b3 b4 b5 (hkeep b o b1 b2 b3 b4 b5 e))) (Heap.get?_update_self _ hS' rfl) (by rw [Array.toList_push,hacc,List.map_append];rfl) (by rw [List.length_append,hal];rfl) ⟨?_,?_,?_⟩ ?_⟩) (by rw [hsz];omega) (by show (acc.push (Value.ref h.objs.size)).size<=sizeLine+1;rw [Array.size_push,hsz];omega)
   ·refine List.pairwise_append.mpr ⟨hG.rise,List.pairwise_singleton _ _,fun a ha b hb=>?_⟩
    rw [List.mem_singleton.mp hb]
    exact hG.there ha
   ·intro a ha
    rcases List.mem_append.mp ha with ha | ha
    ·exact hG.above a ha
    ·rw [List.mem_singleton.mp ha];exact hn0
   ·intro j b hj
    rcases Nat.lt_trichotomy j as.length with h1 | h1 | h1
    ·rw [List.getElem?_append_left h1] at hj
     obtain ⟨x,y,e1,e2,e3⟩:=hG.pairs j b hj
     have hb:=hG.above b (List.mem_of_getElem? hj)
     exact ⟨x,y,e1,e2,up2 b _ (ge_ne hb lo.1) (up b _ (ge_ne hb lo.2.1) (ge_ne hb lo.2.2.1) (ge_ne hb lo.2.2.2.1) (ge_ne hb lo.2.2.2.2) e3)⟩
    ·subst h1
     have hb:h.objs.size=b:=by simpa using hj
     subst hb
     exact ⟨_,_,by rw [hal];exact hx,by rw [hal];exact hy,up2 _ _ (Nat.ne_of_gt hSl) pr⟩
    ·have hnone:(as ++ [h.objs.size])[j]? = none:=List.getElem?_eq_none (by rw [List.length_append,List.length_singleton];omega)
     rw [hnone] at hj;cases hj
   ·have e:(h'.update S (Obj.mapSeq (·.push (Value.ref h.objs.size)))).get? h.objs.size=_:=up2 _ _ (Nat.ne_of_gt hSl) pr
    exact Nat.le_of_lt (Nat.lt_of_le_of_lt hn0 (Heap.lt_size e))
theorem nolen_zip:typeLookup (.type "zip") "__len__" = pure none:=by rw [typeLookup_type,builtinLookup_eq_fast];kernel_rfl
theorem nohint_zip:typeLookup (.type "zip") "__length_hint__" = pure none:=by rw [typeLookup_type,builtinLookup_eq_fast];kernel_rfl
theorem hint_zip {z:Addr} {Q:Bool->Shared->Prop} (t:s.TypeIs (.ref z) "zip") (q:Q true s):wpAny (model prog w) A (Builtin.List.listLengthHint (.ref z)) Q E s:=by
 unfold Builtin.List.listLengthHint
 exact wpAny_bind (wpAny_specialOf t nolen_zip (wpAny_bind (wpAny_specialOf t nohint_zip (wpAny_pure q))))
theorem list_of_zip {z p r i1 i2 l1 l2:Addr} {xs ys:Array Value} {Q:Value->Shared->Prop} (hh:A.handled=none) (D:ZipApart z p r i1 i2 l1 l2) (Z:ZS s.heap z p r i1 i2 l1 l2 0 xs ys .none) (hz:min xs.size ys.size<=sizeLine)
 (q:∀ h' tk acc c as,(∀ b o,b ≠ z->b ≠ r->b ≠ i1->b ≠ i2->s.heap.get? b=some o->h'.get? b=some o)->h'.get? s.heap.objs.size=some { cls := .type "list", dict:=none,data := .seq acc c,slots:=#[] }->as.length=min xs.size ys.size->ZG (s.heap.objs.size+1) xs ys h' as->acc.toList=as.map Value.ref->Q (.ref s.heap.objs.size) { s with heap:=h',toks:=tk }) :
 wpAny (model prog w) A (call (.type "list") [.ref z]) Q E s:=by
 have lt:∀ {c:Addr} {o:Obj},s.heap.get? c=some o->c<s.heap.objs.size:=fun e=>Heap.lt_size e
 refine callType_codes (Q₁:=fun v s1=>v = .ref s.heap.objs.size/\s1 = { s with heap:=s.heap.push { cls := .type "list", data := .seq #[] } }) F.called_list (F.typeCall_list_1 _) F.entry_list_init (code_list_new _ ⟨rfl,rfl⟩) ?_
 rintro _ _ ⟨rfl,rfl⟩
 refine ⟨⟨_,Heap.get?_push_size _ rfl,rfl⟩,F.args_list_init_2 _ _,?_⟩
 have eS:(s.heap.push { cls := .type "list", data := .seq #[] }).get? s.heap.objs.size=some { cls := .type "list", data := .seq #[] }:=Heap.get?_push_size _ rfl
 have nz:=lt Z.zz
 have np:=lt Z.pp
 have nr:r<s.heap.objs.size:=by obtain ⟨a,b,e⟩:=Z.rr;exact lt e
 have n1:i1<s.heap.objs.size:=by obtain ⟨o,e,_⟩:=Z.a1;exact lt e
 have n2:i2<s.heap.objs.size:=by obtain ⟨o,e,_⟩:=Z.a2;exact lt e
 have m1:l1<s.heap.objs.size:=by obtain ⟨o,e,_⟩:=Z.t1;exact lt e
 have m2:l2<s.heap.objs.size:=by obtain ⟨o,e,_⟩:=Z.t2;exact lt e
 have gt:∀ {c:Addr},c<s.heap.objs.size->s.heap.objs.size ≠ c:=fun e=>Nat.ne_of_gt e
 have same:Builtin.List.listSameRef (.ref s.heap.objs.size) (.ref z)=false:=by simp [Builtin.List.listSameRef,gt nz]
 have t1:Value.type "zip" ≠ Value.type "list" := by decide
 obtain ⟨hp,g,dr,tk,os⟩:=s
 have up:∀ c o,hp.get? c=some o->((hp.push { cls := .type "list", data := .seq #[] }).update hp.objs.size (Obj.mapSeq fun _=>(#[]:Array Value))).get? c=some o:=fun c o e=>by
  rw [Heap.get?_update_other _ _ (Nat.ne_of_gt (Heap.lt_size e))]
  exact Heap.get?_push_of_some _ e
 have eS2:=Heap.get?_update_self (Obj.mapSeq (fun _=>(#[]:Array Value))) eS rfl
 have hT:Shared.TypeIs ⟨((hp.push { cls := .type "list", data := .seq #[] }).update hp.objs.size (Obj.mapSeq fun _=>(#[]:Array Value))),g,dr,tk,os⟩ (.ref z) "zip" := ⟨_,up _ _ Z.zz,rfl⟩
 have zz2:IsZip (Shared.heap ⟨((hp.push { cls := .type "list", data := .seq #[] }).update hp.objs.size (Obj.mapSeq fun _=>(#[]:Array Value))),g,dr,tk,os⟩) z p r .none:=up _ _ Z.zz
 unfold Builtin.«list.__init__»
 wp_walk using wpAny_pyIter_zip zz2,wpAny_typeOf hT,hint_zip hT
 have nS:hp.objs.size ≠ z/\hp.objs.size ≠ p/\hp.objs.size ≠ r/\hp.objs.size ≠ i1/\hp.objs.size ≠ i2/\hp.objs.size ≠ l1/\hp.objs.size ≠ l2:=⟨gt nz,gt np,gt nr,gt n1,gt n2,gt m1,gt m2⟩
 have lo:hp.objs.size<hp.objs.size+1/\z<hp.objs.size+1/\r<hp.objs.size+1/\i1<hp.objs.size+1/\i2<hp.objs.size+1:=⟨Nat.lt_succ_self _,Nat.lt_succ_of_lt nz,Nat.lt_succ_of_lt nr,Nat.lt_succ_of_lt n1,Nat.lt_succ_of_lt n2⟩
 have eS3:=Heap.get?_update_self (Obj.mapSeq (·.push Value.none)) eS2 rfl
 have eS4:=Heap.get?_update_self (Obj.mapSeq (·.pop)) eS3 rfl
 have up4:∀ c o,hp.get? c=some o->((((hp.push { cls := .type "list", data := .seq #[] }).update hp.objs.size (Obj.mapSeq fun _=>(#[]:Array Value))).update hp.objs.size (Obj.mapSeq (·.push Value.none))).update hp.objs.size (Obj.mapSeq (·.pop))).get? c=some o:=fun c o e=>by
  rw [Heap.get?_update_other _ _ (Nat.ne_of_gt (Heap.lt_size e)),Heap.get?_update_other _ _ (Nat.ne_of_gt (Heap.lt_size e))]
  exact up c o e
 obtain ⟨u,v,rr⟩:=Z.rr
 refine ⟨plainId_quiet F.plain_extend_loop _,?_⟩
 refine zl_loop (s:=⟨hp,g,dr,tk,os⟩) (h₁:=hp) (A:=A.in1) (n:=min xs.size ys.size) (n0:=hp.objs.size+1) hh D nS lo hz rfl .none ?_ (min xs.size ys.size) 0 _ tk _ #[] [] rfl (Nat.zero_le _) ⟨.inl ⟨rfl,up4 _ _ Z.zz⟩,up4 _ _ Z.pp,⟨u,v,up4 _ _ rr⟩,Z.a1.at fun o e=>up4 _ o e,Z.a2.at fun o e=>up4 _ o e,Z.t1.at fun o e=>up4 _ o e,Z.t2.at fun o e=>up4 _ o e⟩ (fun b o _ _ _ _ _ e=>up4 b o e) eS4 rfl rfl ⟨.nil,fun _ m=>(List.not_mem_nil m).elim,fun j a hj=>by simp at hj⟩ (by rw [Heap.size_update,Heap.size_update,Heap.size_update,Heap.size_push];exact Nat.le_refl _)
 exact fun h' tk' acc c as kp e hl G ea=>⟨rfl,q h' tk' acc c as (fun b o b1 b2 b3 b4 eb=>kp b o (Nat.ne_of_lt (Heap.lt_size eb)) b1 b2 b3 b4 eb) e hl G ea⟩
end
end L3
namespace L3
open PySem PySem.Spec
open PyProof.Rows hiding St
open L2
theorem lt_ne {a b n:Nat} (h:a<n) (l:n<=b):a ≠ b:=fun e=>by omega
structure NewT (H H2:Hp) (as:List Addr) (xs ys:List V):Prop where
 same:Same H H2
 new:∀ a ∈ as,H a=none
 at_:∀ (j:Nat) a,as[j]? = some a->∃ x y,xs[j]? = some x/\ys[j]? = some y/\H2 a=some (.tup [x,y])
def tLZ (K:PySem.W.Frag) (t:TA):TE:=fun σ H Q=>t σ H fun vs H1=>∃ a b xs ys,vs = [.ref a,.ref b]/\SqT K H1 a xs/\SqT K H1 b ys/\∀ (H2:Hp) (as:List Addr) (p:Addr),NewT H1 H2 as xs ys->as.length=min xs.length ys.length->H1 p=none->H2 p=none->Q (.ref p) (upd H2 p (.lst (as.map V.ref)))
theorem vals_at {xs:List V} {us:List Value} (r:Vals xs us):∀ {i:Nat} {u:Value},us[i]? = some u->∃ x,xs[i]? = some x/\RelV x u:=by
 induction r with
 | nil=>intro i u e;simp at e
 | cons h t ih =>
   intro i u e
   cases i with
   | zero=>cases e;exact ⟨_,rfl,h⟩
   | succ i =>
     obtain ⟨x,h1,h2⟩:=ih (i:=i) (by simpa using e)
     exact ⟨x,by simpa using h1,h2⟩
section
variable {X : Cx} {pins : List (Addr × Obj)} {σ : L2.St} {s : Shared} {h' : Heap} {tk : Nat}
theorem adopt_all {n0:Nat} {H0:Hp} {xs ys:List V} {us vs:List Value} (I0:Inv X pins σ H0 s) (le:s.heap.objs.size<=n0) (rx:Vals xs us) (ry:Vals ys vs) :
 ∀ (as:List Addr) (j0:Nat) (H:Hp),as.Pairwise (· < ·)->(∀ a ∈ as,n0<=a/\H a=none)->(∀ (j:Nat) a,as[j]? = some a->∃ x y,us[j0+j]? = some x/\vs[j0+j]? = some y/\IsPair h' a x y)->Inv X pins σ H { s with heap:=h',toks:=tk } ->
   ∃ H2,Inv X pins σ H2 { s with heap:=h',toks:=tk }/\Same H H2/\(∀ b,b ∉ as->H2 b=H b)/\∀ (j:Nat) a,as[j]? = some a->∃ x y,xs[j0+j]? = some x/\ys[j0+j]? = some y/\H2 a=some (.tup [x,y])
 | [],j0,H,_,_,_,I=>⟨H,I,Same.refl _,fun _ _=>rfl,fun j a e=>by simp at e⟩
 | a::as,j0,H,pw,hn,hp,I=>by
   obtain ⟨x,y,hx,hy,pr⟩:=hp 0 a rfl
   have fp:FpOk X pins H a:=I0.fpOk (Nat.le_trans le (hn a (by simp)).1) (hn a (by simp)).2
   obtain ⟨x',hx',rx'⟩:=vals_at rx hx
   obtain ⟨y',hy',ry'⟩:=vals_at ry hy
   have new:ObjOk X.prog X.w (upd H a (.tup [x',y'])) h' a (.tup [x',y']):=⟨by show 2<=sizeLine;rw [sizeLine_eq];decide,[x,y],.cons rx' (.cons ry' .nil),_,pr,rfl,0,rfl⟩
   have I1:Inv X pins σ (upd H a (.tup [x',y'])) { s with heap:=h',toks:=tk }:=I.adopt (t':=tk) fp (fun b u _ e=>e) new
   have lt:∀ b ∈ as,a<b:=fun b hb=>(List.pairwise_cons.mp pw).1 b hb
   obtain ⟨H2,I2,sm,ot,at_⟩:=adopt_all I0 le rx ry as (j0+1) _ (List.pairwise_cons.mp pw).2 (fun b hb=>⟨(hn b (List.mem_cons_of_mem _ hb)).1,by rw [upd_ne (Nat.ne_of_gt (lt b hb))];exact (hn b (List.mem_cons_of_mem _ hb)).2⟩) (fun j b e=>by
    obtain ⟨x,y,h1,h2,h3⟩:=hp (j+1) b (by simpa using e)
    exact ⟨x,y,by rw [show j0+1+j=j0+(j+1) by omega];exact h1,by rw [show j0+1+j=j0+(j+1) by omega];exact h2,h3⟩) I1
   refine ⟨H2,I2,fun b o e=>sm b o (by rw [upd_ne (show b ≠ a from fun z=>by rw [z,(hn a (by simp)).2] at e;cases e)];exact e),fun b hb=>?_,fun j b e=>?_⟩
   ·rw [ot b fun z=>hb (List.mem_cons_of_mem _ z),upd_ne fun z=>hb (by rw [z];simp)]
   ·cases j with
    | zero =>
      cases e
      exact ⟨x',y',hx',hy',by rw [ot a fun z=>Nat.lt_irrefl _ (lt a z)];exact upd_same⟩
    | succ j =>
      obtain ⟨x,y,h1,h2,h3⟩:=at_ j b (by simpa using e)
      exact ⟨x,y,by rw [show j0+(j+1)=j0+1+j by omega];exact h1,by rw [show j0+(j+1)=j0+1+j by omega];exact h2,h3⟩
end
theorem pe_listzip {X:Cx} {a b:Expr} {ta:TA} {p1 p2 p3 p4:Pos} (calm:X.A.handled=none) (gl:Gl X "list") (ml:X.mg "list" = none) (gz:Gl X "zip") (mz:X.mg "zip" = none) (ha:PA X [a,b] ta)
 (s1:starEach [.Call (.Name "zip" p2) [a,b] [] p3] X.env=(false,eval (.Call (.Name "zip" p2) [a,b] [] p3) X.env)::starEach [] X.env:=by rfl) (hs:starEach [a,b] X.env=(false,eval a X.env)::starEach [b] X.env:=by rfl) (hp:(backTo p3 (starEach [b] X.env)).any (·.1)=false:=by rfl) :
 PE X (.Call (.Name "list" p1) [.Call (.Name "zip" p2) [a,b] [] p3] [] p4) (tLZ X.K ta):=by
 intro pins s σ H Q I h
 refine wpAny_Call_Name_kw (ld_blt I gl ml (u := .type "list") rfl ?_)
 refine PyProof.Rows.callWith_type1 ?_ s1
 rw [s1]
 show wpAny _ _ (spliced ((false,eval (.Call (.Name "zip" p2) [a,b] [] p3) X.env) :: [])) _ _ s
 refine Calls.spliced_cons ?_
 refine Call_ (ld_blt I gz mz bt_zip (PyProof.Rows.callWith_type1 (thn (ha p3 pins s σ H _ I h) fun us s1 ⟨vs,H1,I1,r1,q1⟩=>?_) hs hp))
 obtain ⟨a,b,xs,ys,e,qa,qb,q⟩:=q1
 subst e
 obtain ⟨u,v,rfl,ru,rv⟩:=Vals.two r1
 obtain rfl:u=Value.ref a:=ru
 obtain rfl:v=Value.ref b:=rv
 obtain ⟨us,ru,tu,zu⟩:=I1.tuple qa
 obtain ⟨vs,rv,tv,zv⟩:=I1.tuple qb
 have lu:=ru.length
 have lv:=rv.length
 have la:a<s1.heap.objs.size:=by obtain ⟨o,e,_⟩:=tu;exact Heap.lt_size e
 have lb:b<s1.heap.objs.size:=by obtain ⟨o,e,_⟩:=tv;exact Heap.lt_size e
 refine call_zs tu tv fun h1 S up=>Calls.spliced_nil ?_
 have sz:s1.heap.objs.size+4<h1.objs.size:=Heap.lt_size S.zz
 refine list_of_zip (s:={ s1 with heap:=h1 }) calm (zs_apart _ _ _ la lb) S (by simp;omega) fun h' tk acc c as kp e hl G ea=>?_
 dsimp only at kp e hl G ea ⊢
 have kp2:∀ b o,s1.heap.get? b=some o->h'.get? b=some o:=fun b o eb=>by
  have:=Heap.lt_size eb
  exact kp b o (lt_ne this (Nat.le_add_right _ _)) (lt_ne this (Nat.le_add_right _ _)) (lt_ne this (Nat.le_refl _)) (lt_ne this (Nat.le_add_right _ _)) (up b o eb)
 have I2:Inv X pins σ H1 { s1 with heap:=h',toks:=tk }:=I1.kept (t':=tk) kp2
 have nn:∀ a,s1.heap.objs.size<=a->H1 a=none:=fun a z=>I1.hok.fresh z
 have ab:∀ a ∈ as,s1.heap.objs.size<=a:=fun a m=>by have:=G.above a m;omega
 obtain ⟨H2,I3,sm,ot,at_⟩:=adopt_all (n0:=s1.heap.objs.size) I1 (Nat.le_refl _) ru rv as 0 H1 G.rise (fun a m=>⟨ab a m,nn a (ab a m)⟩) (fun j a ej=>by
  obtain ⟨x,y,g1,g2,g3⟩:=G.pairs j a ej
  exact ⟨x,y,by simpa using g1,by simpa using g2,g3⟩) I2
 have np:h1.objs.size ∉ as:=fun m=>by have:=G.above _ m;omega
 have n1:H1 h1.objs.size=none:=nn _ (by omega)
 have n2:H2 h1.objs.size=none:=by rw [ot _ np];exact n1
 have fp:FpOk X pins H2 h1.objs.size:=I1.fpOk (by omega) n2
 have vr:Vals (as.map V.ref) acc.toList:=by
  rw [ea]
  clear ea at_ ot G hl ab np
  induction as with
  | nil=>exact .nil
  | cons a as ih=>exact .cons rfl ih
 have hz:as.length<=sizeLine:=by rw [hl];simp;omega
 have new:ObjOk X.prog X.w (upd H2 h1.objs.size (.lst (as.map V.ref))) h' h1.objs.size (.lst (as.map V.ref)):=⟨by rw [List.length_map];exact hz,acc.toList,c,vr,by simpa using e⟩
 exact ⟨.ref h1.objs.size,_,I3.adopt (t':=tk) fp (fun b u _ e=>e) new,rfl,q H2 as _ ⟨sm,fun a m=>nn a (ab a m),fun j a ej=>by simpa using at_ j a ej⟩ (by rw [hl];simp;omega) n1 n2⟩
section
variable {K : PySem.W.Frag} {O : Ob}
def lzD (g:DA):DE:=fun ρ Q=>g ρ fun vs=>∃ ds es,vs = [.tuple ds,.tuple es]/\flats ds=true/\flats es=true/\Q (.n (zipD ds es))
theorem zip_is {H2:Hp}:∀ {as:List Addr} {xs ys:List V} {ds es:List PyData},IsAll K (unM O) H2 xs ds->IsAll K (unM O) H2 ys es->as.length=min xs.length ys.length->(∀ (j:Nat) a,as[j]? = some a->∃ x y,xs[j]? = some x/\ys[j]? = some y/\H2 a=some (.tup [x,y]))->IsAll K (unM O) H2 (as.map V.ref) (zipD ds es)
 | as,[],_,_,_,.nil,_,hl,_=>by
   have:as = []:=List.eq_nil_of_length_eq_zero (by rw [hl];simp)
   subst this
   exact .nil
 | as,_::_,[],_,_,.cons _ _,.nil,hl,_=>by
   have:as = []:=List.eq_nil_of_length_eq_zero (by rw [hl];simp)
   subst this
   exact .nil
 | [],_::_,_::_,_,_,.cons _ _,.cons _ _,hl,_=>by simp [Nat.succ_min_succ] at hl
 | a::as,x::xs,y::ys,d::ds,e::es,.cons h1 t1,.cons h2 t2,hl,hp=>by
   obtain ⟨x',y',e1,e2,q⟩:=hp 0 a rfl
   cases e1
   cases e2
   exact .cons (.tuple (.of q) (.cons h1 (.cons h2 .nil))) (zip_is t1 t2 (by rw [List.length_cons,List.length_cons,List.length_cons,Nat.succ_min_succ] at hl;omega) fun j b ej=>by
    obtain ⟨x,y,g1,g2,g3⟩:=hp (j+1) b (by simpa using ej)
    exact ⟨x,y,by simpa using g1,by simpa using g2,g3⟩)
theorem ed_listzip {t:TA} {g:DA} (h:AD K O t g):ED K O (tLZ K t) (lzD g):=fun σ H ρ Q Qd S hf k=>by
 refine h σ H ρ _ _ S hf fun vs H1 ds st is ⟨es,fs,e,f1,f2,q⟩=>?_
 subst e
 cases is with
 | cons i1 is =>
   cases is with
   | cons i2 is =>
     cases is
     cases i1 with
     | @tuple a xs _ ha hs =>
       cases i2 with
       | @tuple b ys _ hb ht =>
         refine ⟨a,b,xs,ys,rfl,ha,hb,fun H2 as p N hl n1 n2=>?_⟩
         have st2:Stp O H1 H2 := .same S.ok N.same
         have nM:¬ O.M p:=fun m=>by obtain ⟨o,z⟩:=S.ok.here H1 p (st.p S.p) m;rw [n1] at z;cases z
         have st3:Stp O H2 (upd H2 p (.lst (as.map V.ref))) := .new S.ok n2 _
         have is2:=zip_is (hs.stp st2 (fun _ f=>f) (fun _ f=>f)) (ht.stp st2 (fun _ f=>f) (fun _ f=>f)) hl N.at_
         exact k _ _ (.n (zipD es fs)) ((st.trans st2).trans st3) ⟨p,_,rfl,st.s.free nM n1,upd_same,is2.stp st3 (fun _ f=>f) (fun _ f=>f)⟩ q
end
section
variable {ι κ : Type} {P : Program} {w : World} {K : PySem.W.Frag} {mg : Str → Option Value} {base : Heap} {k : Nat} {X : ι → Cx} {O : κ → Ob} {a b : Expr} {ga : DA} {p1 p2 p3 p4 : Pos}
theorem e_listzip (C:Ctx3 P w K mg base k X) (B:Blt mg) (ha:A3 K X O [a,b] ga) (hg:∀ i,Gl (X i) "list" := by intro i;rfl) (hz:∀ i,Gl (X i) "zip" := by intro i;rfl) (s1:∀ i,starEach [.Call (.Name "zip" p2) [a,b] [] p3] (X i).env=(false,eval (.Call (.Name "zip" p2) [a,b] [] p3) (X i).env)::starEach [] (X i).env:=by intro i;rfl)
 (hs:∀ i,starEach [a,b] (X i).env=(false,eval a (X i).env)::starEach [b] (X i).env:=by intro i;rfl) (hp:∀ i,(backTo p3 (starEach [b] (X i).env)).any (·.1)=false:=by intro i;rfl):E3 K X O (.Call (.Name "list" p1) [.Call (.Name "zip" p2) [a,b] [] p3] [] p4) (lzD ga):=let ⟨_,q,d⟩:=ha;
 ⟨_,fun i=>by have h:=pe_listzip (p1:=p1) (p2:=p2) (p3:=p3) (p4:=p4) (C.room i).hd (hg i) (by rw [C.hmg];exact B.list) (hz i) (by rw [C.hmg];exact B.zip) (q i) (s1 i) (hs i) (hp i);rw [C.hK] at h;exact h,fun j=>ed_listzip (d j)⟩
end
end L3
namespace L3
open PySem PySem.Spec
open PyProof.Rows hiding St
open L2
def headW (i:Nat):List Nat:=([cds "letters", cds "lines", cds "flags"]:List (List Nat)).getD i []
def headOkB (i:Nat) (ws:List (List Nat)):Bool:=decide (ws.length=2) && (decide (ws.getD 0 []=headW i) && (if i=0 then !decide (ws.getD 1 [] = []) && alphB (ws.getD 1 []) else isNumB (ws.getD 1 [])))
def isHandB (ws:List (List Nat)):Bool:=decide (ws.length=2) && (decide (ws.getD 0 []=cds "hand") && isNumB (ws.getD 1 []))
def shC (w:List Nat):Nat:=if isNumB w=true then 48 else if (decide (w.length=1) && lowB w)=true then 97 else 63
def shapeW (w:List Nat):Option (List Nat) :=
 if w=cds "go" then some [48] else if w=cds "send" then some [48,97,48] else if w=cds "take" then some [48,97,48] else if w=cds "empty" then some [48,48] else if w=cds "set" then some [48,48,48] else if w=cds "if" then some [48,48,48] else none
def rowRB (ws:List (List Nat)):Bool:=decide (2<=ws.length) && (isNumB (ws.getD 0 []) && decide (shapeW (ws.getD 1 [])=some ((ws.drop 2).map shC)))
def ruleHD (ws:List (List Nat)):PyData := .tuple [thD (ws.getD 0 []),.tuple (((ws.drop 1).dropLast).map thD),thD (ws.getD (ws.length - 1) [])]
abbrev HL:=List (Nat × List PyData)
def addLast (hs:HL) (x:PyData):HL:=match hs.getLast? with
 | some (n,rs)=>hs.dropLast ++ [(n,rs ++ [x])]
 | none=>hs
def goHands:Nat->HL->List (List (List Nat))->Nat ⊕ HL
 | _,hs,[] => .inr hs
 | i,hs,ws::r=>if isHandB ws=true then goHands (i+1) (hs ++ [(valW (ws.getD 1 []),[])]) r else if (!hs.isEmpty && rowRB ws)=true then goHands (i+1) (addLast hs (ruleHD ws)) r else .inl i
def headAt (rs:List (List (List Nat))) (i:Nat):Bool:=decide (i<rs.length) && headOkB i (rs.getD i [])
def badHead (rs:List (List (List Nat))):Option Nat:=if headAt rs 0=true then if headAt rs 1=true then if headAt rs 2=true then none else some 2 else some 1 else some 0
def hlD (hs:HL):PyData := .tuple (hs.map fun x => .tuple [.int (x.1:Nat),.tuple x.2])
def readH (rs:List (List (List Nat))):Nat ⊕ PyData:=match badHead rs with
 | some i => .inl i
 | none=>match goHands 3 [] (rs.drop 3) with
   | .inl i => .inl i
   | .inr hs => .inr (.tuple [.str (tx ((rs.getD 0 []).getD 1 [])),.int (valW ((rs.getD 1 []).getD 1 []):Nat),.int (valW ((rs.getD 2 []).getD 1 []):Nat),hlD hs])
def deedW:Deed->List (List Nat)
 | .go => [cds "go"]
 | .send l c => [cds "send", numT l,[c]]
 | .take l c => [cds "take", numT l,[c]]
 | .empty l => [cds "empty", numT l]
 | .put f v => [cds "set", numT f,numT v]
 | .test f v => [cds "if", numT f,numT v]
def ruleRow (r:Rul):List (List Nat):=numT r.p::(deedW r.d ++ [numT r.q])
def handRows (x:Hnd):List (List (List Nat)) := [cds "hand", numT x.n]::x.rs.map ruleRow
def rowsH (h:Hou):List (List (List Nat)) := [[cds "letters", h.ls],[cds "lines", numT h.lines],[cds "flags", numT h.flags]]++(h.hands.map handRows).flatten
def linesH (h:Hou):List (List Nat):=(rowsH h).map (joinL 32)
def textH (h:Hou):List Nat:=joinL 10 (linesH h)
def DeT:Deed->Prop
 | .go=>True
 | .send l c=>l<1000/\97<=c/\c<=122
 | .take l c=>l<1000/\97<=c/\c<=122
 | .empty l=>l<1000
 | .put f v=>f<1000/\v<1000
 | .test f v=>f<1000/\v<1000
structure RuT (r:Rul):Prop where
 p:r.p<1000
 d:DeT r.d
 q:r.q<1000
structure HT (h:Hou):Prop where
 ls:alphB h.ls=true
 ne:h.ls ≠ []
 lines:h.lines<1000
 flags:h.flags<1000
 hands:∀ x ∈ h.hands,x.n<1000/\∀ r ∈ x.rs,RuT r
theorem thD_num {n:Nat} (h:n<1000):thD (numT n) = .int (n:Nat):=by
 unfold thD
 rw [if_pos (numT_ok n h).1,valW_num h]
theorem thD_cds {s:String} (h:isNumB (cds s)=false):thD (cds s) = .str (Str.ofString s):=by
 unfold thD
 rw [if_neg (by rw [h];exact Bool.false_ne_true),<- cds_eq]
theorem isNum_one {c:Nat} (h:97<=c):isNumB [c]=false:=by
 unfold isNumB digB
 rw [List.all_cons,decide_eq_false (show ¬ c<=57 by omega),Bool.and_false,Bool.false_and,Bool.false_and,Bool.false_and]
theorem thD_one {c:Nat} (h:97<=c):thD [c] = .str (tx [c]):=by
 unfold thD
 rw [if_neg (by rw [isNum_one h];exact Bool.false_ne_true)]
theorem shC_num {n:Nat} (h:n<1000):shC (numT n)=48:=by
 unfold shC
 rw [if_pos (numT_ok n h).1]
theorem low_oneH {c:Nat} (h1:97<=c) (h2:c<=122):(decide (([c]:List Nat).length=1) && lowB [c])=true:=by
 unfold lowB
 simp [h1,h2]
theorem shC_one {c:Nat} (h1:97<=c) (h2:c<=122):shC [c]=97:=by
 unfold shC
 rw [if_neg (by rw [isNum_one h1];exact Bool.false_ne_true),if_pos (low_oneH h1 h2)]
theorem sh_go:shapeW (cds "go")=some [48]:=by decide +kernel
theorem sh_send:shapeW (cds "send")=some [48,97,48]:=by decide +kernel
theorem sh_take:shapeW (cds "take")=some [48,97,48]:=by decide +kernel
theorem sh_empty:shapeW (cds "empty")=some [48,48]:=by decide +kernel
theorem sh_set:shapeW (cds "set")=some [48,48,48]:=by decide +kernel
theorem sh_if:shapeW (cds "if")=some [48,48,48]:=by decide +kernel
theorem nn_go:isNumB (cds "go")=false:=by decide +kernel
theorem nn_send:isNumB (cds "send")=false:=by decide +kernel
theorem nn_take:isNumB (cds "take")=false:=by decide +kernel
theorem nn_empty:isNumB (cds "empty")=false:=by decide +kernel
theorem nn_set:isNumB (cds "set")=false:=by decide +kernel
theorem nn_if:isNumB (cds "if")=false:=by decide +kernel
theorem row_good {r:Rul} (h:RuT r):rowRB (ruleRow r)=true/\ruleHD (ruleRow r)=encRu r/\isHandB (ruleRow r)=false:=by
 obtain ⟨p,d,q⟩:=r
 obtain ⟨hp,hd,hq⟩:=h
 have np:=(numT_ok p hp).1
 unfold ruleRow rowRB ruleHD isHandB encRu
 cases d with
 | go=>exact ⟨by simp [deedW,np,sh_go,shC_num hq],by simp [deedW,encDe,thD_num hp,thD_num hq,thD_cds nn_go],by simp [deedW]⟩
 | send l c =>
   obtain ⟨h1,h2,h3⟩:=hd
   exact ⟨by simp [deedW,np,sh_send,shC_num hq,shC_num h1,shC_one h2 h3],by simp [deedW,encDe,thD_num hp,thD_num hq,thD_num h1,thD_one h2,thD_cds nn_send],by simp [deedW]⟩
 | take l c =>
   obtain ⟨h1,h2,h3⟩:=hd
   exact ⟨by simp [deedW,np,sh_take,shC_num hq,shC_num h1,shC_one h2 h3],by simp [deedW,encDe,thD_num hp,thD_num hq,thD_num h1,thD_one h2,thD_cds nn_take],by simp [deedW]⟩
 | empty l=>exact ⟨by simp [deedW,np,sh_empty,shC_num hq,shC_num (show l<1000 from hd)],by simp [deedW,encDe,thD_num hp,thD_num hq,thD_num (show l<1000 from hd),thD_cds nn_empty],by simp [deedW]⟩
 | put f v =>
   obtain ⟨h1,h2⟩:=hd
   exact ⟨by simp [deedW,np,sh_set,shC_num hq,shC_num h1,shC_num h2],by simp [deedW,encDe,thD_num hp,thD_num hq,thD_num h1,thD_num h2,thD_cds nn_set],by simp [deedW]⟩
 | test f v =>
   obtain ⟨h1,h2⟩:=hd
   exact ⟨by simp [deedW,np,sh_if,shC_num hq,shC_num h1,shC_num h2],by simp [deedW,encDe,thD_num hp,thD_num hq,thD_num h1,thD_num h2,thD_cds nn_if],by simp [deedW]⟩
theorem hand_good {n:Nat} (h:n<1000):isHandB [cds "hand", numT n]=true:=by
 unfold isHandB
 simp [(numT_ok n h).1]
theorem addLast_snoc (hs:HL) (n:Nat) (rs:List PyData) (x:PyData):addLast (hs ++ [(n,rs)]) x=hs ++ [(n,rs ++ [x])]:=by
 unfold addLast
 rw [List.getLast?_append,List.getLast?_singleton,List.dropLast_concat]
 rfl
theorem go_rules:∀ (rs:List Rul) (i:Nat) (hs:HL) (n:Nat) (ds:List PyData) (r:List (List (List Nat))),(∀ x ∈ rs,RuT x)->goHands i (hs ++ [(n,ds)]) (rs.map ruleRow++r)=goHands (i+rs.length) (hs ++ [(n,ds++rs.map encRu)]) r
 | [],i,hs,n,ds,r,_=>by simp
 | x::rs,i,hs,n,ds,r,h=>by
   obtain ⟨h1,h2,h3⟩:=row_good (h x (by simp))
   rw [List.map_cons,List.cons_append,goHands,if_neg (by rw [h3];exact Bool.false_ne_true),if_pos (by rw [h1,Bool.and_true];simp),addLast_snoc,h2,go_rules rs (i+1) hs n _ r fun y hy=>h y (List.mem_cons_of_mem _ hy),List.append_assoc,List.length_cons,List.map_cons]
   congr 1
   omega
theorem go_hands:∀ (xs:List Hnd) (i:Nat) (hs:HL),(∀ x ∈ xs,x.n<1000/\∀ r ∈ x.rs,RuT r)->goHands i hs (xs.map handRows).flatten = .inr (hs++xs.map fun x=>(x.n,x.rs.map encRu))
 | [],i,hs,_=>by simp [goHands]
 | x::xs,i,hs,h=>by
   obtain ⟨h1,h2⟩:=h x (by simp)
   rw [List.map_cons,List.flatten_cons]
   show goHands i hs ([cds "hand", numT x.n]::x.rs.map ruleRow++_)=_
   rw [List.cons_append,goHands,if_pos (hand_good h1),go_rules x.rs (i+1) hs _ [] _ h2,go_hands xs _ _ fun y hy=>h y (List.mem_cons_of_mem _ hy)]
   show Sum.inr (hs ++ [(valW (numT x.n),[]++x.rs.map encRu)]++_)=_
   rw [valW_num h1,List.nil_append,List.append_assoc]
   rfl
theorem read_rows {h:Hou} (H:HT h):readH (rowsH h) = .inr (encHo h):=by
 have b0:headAt (rowsH h) 0=true:=by
  unfold headAt headOkB
  simp [rowsH,headW,H.ls,H.ne]
 have b1:headAt (rowsH h) 1=true:=by
  unfold headAt headOkB
  simp [rowsH,headW,(numT_ok _ H.lines).1]
 have b2:headAt (rowsH h) 2=true:=by
  unfold headAt headOkB
  simp [rowsH,headW,(numT_ok _ H.flags).1]
 unfold readH badHead
 rw [if_pos b0,if_pos b1,if_pos b2]
 show (match goHands 3 [] (h.hands.map handRows).flatten with | .inl i=>_ | .inr hs=>_)=_
 rw [go_hands h.hands 3 [] H.hands]
 show Sum.inr (PyData.tuple [.str (tx h.ls),.int (valW (numT h.lines):Nat),.int (valW (numT h.flags):Nat),hlD ([]++h.hands.map fun x=>(x.n,x.rs.map encRu))])=_
 rw [valW_num H.lines,valW_num H.flags,List.nil_append]
 unfold hlD encHo
 rw [List.map_map]
 rfl
def wordLF:List PyData->(R->Prop)->Prop:=fun ds Q=>∃ w:List Nat,ds = [.str (tx w)]/\Lng w/\Q (.o (.bool (lowB w)))
def alphLF:List PyData->(R->Prop)->Prop:=fun ds Q=>∃ w:List Nat,ds = [.str (tx w)]/\Lng w/\Q (.o (.bool (alphB w)))
def headHF:List PyData->(R->Prop)->Prop:=fun ds Q=>∃ (ws:List (List Nat)) (i:Nat),ds = [.list (tsD ws),.int (i:Nat)]/\WsOk ws/\i<3/\Q (.o (.bool (headOkB i ws)))
def handHF:List PyData->(R->Prop)->Prop:=fun ds Q=>∃ ws:List (List Nat),ds = [.list (tsD ws)]/\WsOk ws/\Q (.o (.bool (isHandB ws)))
def rowHF:List PyData->(R->Prop)->Prop:=fun ds Q=>∃ ws:List (List Nat),ds = [.list (tsD ws)]/\WsOk ws/\Q (.o (.bool (rowRB ws)))
def ruleHF:List PyData->(R->Prop)->Prop:=fun ds Q=>∃ ws:List (List Nat),ds = [.list (tsD ws)]/\WsOk ws/\rowRB ws=true/\Q (.o (ruleHD ws))
def handsR:Nat ⊕ HL->R
 | .inl i => .o (excD "NoText" ["at"] [.int (i:Nat)])
 | .inr hs => .o (hlD hs)
def readHandsF:List PyData->(R->Prop)->Prop:=fun ds Q=>∃ rs:List (List (List Nat)),ds = [.list (rs.map rwD)]/\(∀ ws ∈ rs,WsOk ws)/\rs.length<=100001/\3<=rs.length/\Q (handsR (goHands 3 [] (rs.drop 3)))
def readHF:List PyData->(R->Prop)->Prop:=fun ds Q=>∃ t:List Nat,ds = [.str (tx t)]/\Lng t/\Q (readGR (readH (rowsT t)))
def partD:Nat ⊕ List Nat->PyData
 | .inl n => .int (n:Nat)
 | .inr w => .str (tx w)
def partW:Nat ⊕ List Nat->List Nat
 | .inl n=>numT n
 | .inr w=>w
def PartOk:Nat ⊕ List Nat->Prop
 | .inl n=>n<1000
 | .inr w=>Lng w
def showRowF:List PyData->(R->Prop)->Prop:=fun ds Q=>∃ ps:List (Nat ⊕ List Nat),ds = [.tuple (ps.map partD)]/\(∀ p ∈ ps,PartOk p)/\ps.length<=100/\Q (.o (.str (tx (joinL 32 (ps.map partW)))))
def showHF:List PyData->(R->Prop)->Prop:=fun ds Q=>∃ h:Hou,ds = [encHo h]/\HT h/\Lng (textH h)/\Q (.o (.str (tx (textH h))))
def numLF:List PyData->(R->Prop)->Prop:=fun ds Q=>ds = []/\∀ n,n<1000->Q (.o (.int (n:Nat)))
structure HS (h:Hou):Prop where
 ls:h.ls.length<=26
 hands:h.hands.length<=3
 rules:∀ x ∈ h.hands,x.rs.length<=6
def anyHF:List PyData->(R->Prop)->Prop:=fun ds Q=>ds = []/\∀ h,HT h->HS h->Q (.o (encHo h))
def ruleRowF:List PyData->(R->Prop)->Prop:=fun ds Q=>∃ r:Rul,ds = [encRu r]/\RuT r/\Q (.o (.str (tx (joinL 32 (ruleRow r)))))
def houseRowsF:List PyData->(R->Prop)->Prop:=fun ds Q=>∃ h:Hou,ds = [encHo h]/\HT h/\HS h/\Q (.n (tsD (linesH h)))
def rightHF:List PyData->(R->Prop)->Prop:=fun ds Q=>∃ h:Hou,ds = [encHo h]/\HT h/\HS h/\Q (.o (.bool true))
theorem cut_joinL {c:Nat} {ws:List (List Nat)} (h:ws ≠ []) (hf:∀ w ∈ ws,c ∉ w):cutW c (joinL c ws)=ws:=by
 have h1:=split_words h hf
 rw [split_cut] at h1
 exact List.map_inj_right (fun _ _ z=>tx_inj z) |>.mp h1
abbrev Prt:=Nat ⊕ List Nat
def psD (ps:List Prt):PyData := .tuple (ps.map partD)
def deedPs:Deed->List Prt
 | .go => [.inr (cds "go")]
 | .send l c => [.inr (cds "send"),.inl l,.inr [c]]
 | .take l c => [.inr (cds "take"),.inl l,.inr [c]]
 | .empty l => [.inr (cds "empty"),.inl l]
 | .put f v => [.inr (cds "set"),.inl f,.inl v]
 | .test f v => [.inr (cds "if"),.inl f,.inl v]
def rulePs (r:Rul):List Prt := .inl r.p::(deedPs r.d ++ [.inl r.q])
def handPs (x:Hnd):List (List Prt) := [.inr (cds "hand"),.inl x.n]::x.rs.map rulePs
def headPs (h:Hou):List (List Prt) := [[.inr (cds "letters"),.inr h.ls],[.inr (cds "lines"),.inl h.lines],[.inr (cds "flags"),.inl h.flags]]
def psH (h:Hou):List (List Prt):=headPs h++(h.hands.map handPs).flatten
theorem deed_ps (d:Deed):(deedPs d).map partW=deedW d:=by cases d <;> rfl
theorem rule_ps (r:Rul):(rulePs r).map partW=ruleRow r:=by
 unfold rulePs ruleRow
 rw [List.map_cons,List.map_append,deed_ps]
 rfl
theorem hand_ps (x:Hnd):(handPs x).map (·.map partW)=handRows x:=by
 unfold handPs handRows
 rw [List.map_cons,List.map_map]
 congr 1
 exact List.map_congr_left fun r _=>rule_ps r
theorem rows_ps (h:Hou):(psH h).map (·.map partW)=rowsH h:=by
 unfold psH rowsH
 rw [List.map_append]
 congr 1
 rw [List.map_flatten,List.map_map]
 congr 1
 exact List.map_congr_left fun x _=>hand_ps x
theorem de_ps (d:Deed):encDe d=psD (deedPs d):=by
 cases d <;> simp only [encDe,psD,deedPs,List.map_cons,List.map_nil,partD,<- cds_eq]
theorem ru_ps (r:Rul):addF (.tuple [.int (r.p:Nat)]) (encDe r.d)=some (.o (.tuple (.int (r.p:Nat)::(deedPs r.d).map partD)))/\addF (.tuple (.int (r.p:Nat)::(deedPs r.d).map partD)) (.tuple [.int (r.q:Nat)])=some (.o (psD (rulePs r))):=by
 rw [de_ps]
 obtain ⟨p,d,q⟩:=r
 cases d <;> exact ⟨rfl,rfl⟩
theorem lng_cd {s:String} (h:(plainB (cds s) && decide ((cds s).length<=1000))=true):Lng (cds s):=lng_of h
theorem rule_pok {r:Rul} (h:RuT r):(∀ p ∈ rulePs r,PartOk p)/\(rulePs r).length<=5:=by
 obtain ⟨p,d,q⟩:=r
 obtain ⟨hp,hd,hq⟩:=h
 have lc:∀ c:Nat,c<=122->Lng [c]:=fun c hc=>lng1 c (by omega)
 unfold rulePs
 cases d with
 | go=>simp only [deedPs];refine ⟨?_,Nat.le_of_ble_eq_true rfl⟩;simp;exact ⟨hp,lng_cd (by decide +kernel),hq⟩
 | send l c=>simp only [deedPs];refine ⟨?_,Nat.le_of_ble_eq_true rfl⟩;simp;exact ⟨hp,lng_cd (by decide +kernel),hd.1,lc c hd.2.2,hq⟩
 | take l c=>simp only [deedPs];refine ⟨?_,Nat.le_of_ble_eq_true rfl⟩;simp;exact ⟨hp,lng_cd (by decide +kernel),hd.1,lc c hd.2.2,hq⟩
 | empty l=>simp only [deedPs];refine ⟨?_,Nat.le_of_ble_eq_true rfl⟩;simp;exact ⟨hp,lng_cd (by decide +kernel),hd,hq⟩
 | put f v=>simp only [deedPs];refine ⟨?_,Nat.le_of_ble_eq_true rfl⟩;simp;exact ⟨hp,lng_cd (by decide +kernel),hd.1,hd.2,hq⟩
 | test f v=>simp only [deedPs];refine ⟨?_,Nat.le_of_ble_eq_true rfl⟩;simp;exact ⟨hp,lng_cd (by decide +kernel),hd.1,hd.2,hq⟩
theorem alph_lt {w:List Nat} (h:alphB w=true):∀ c ∈ w,97<=c/\c<=122:=fun c hc=>by
 unfold alphB lowB at h
 obtain ⟨a,_⟩:=Bool.and_eq_true_iff.mp h
 have:=List.all_eq_true.mp a c hc
 simp only [Bool.and_eq_true,decide_eq_true_eq] at this
 exact this
theorem house_pok {h:Hou} (H:HT h) (hl:h.ls.length<=100000):∀ ps ∈ psH h,(∀ p ∈ ps,PartOk p)/\ps.length<=100:=fun ps hp=>by
 rcases List.mem_append.mp hp with hp | hp
 ·have hls:Lng h.ls:=⟨hl,fun c hc=>by have:=alph_lt H.ls c hc;omega⟩
  simp only [headPs,List.mem_cons,List.not_mem_nil,or_false] at hp
  rcases hp with rfl | rfl | rfl
  ·exact ⟨by simp;exact ⟨lng_cd (by decide +kernel),hls⟩,by simp⟩
  ·exact ⟨by simp;exact ⟨lng_cd (by decide +kernel),H.lines⟩,by simp⟩
  ·exact ⟨by simp;exact ⟨lng_cd (by decide +kernel),H.flags⟩,by simp⟩
 ·obtain ⟨l,hl,hp⟩:=List.mem_flatten.mp hp
  obtain ⟨x,hx,rfl⟩:=List.mem_map.mp hl
  obtain ⟨hn,hr⟩:=H.hands x hx
  rcases List.mem_cons.mp hp with rfl | hp
  ·exact ⟨by simp;exact ⟨lng_cd (by decide +kernel),hn⟩,by simp⟩
  ·obtain ⟨r,hr',rfl⟩:=List.mem_map.mp hp
   exact ⟨(rule_pok (hr r hr')).1,Nat.le_trans (rule_pok (hr r hr')).2 (by decide)⟩
theorem psH_len {h:Hou}:(psH h).length<=(textH h).length+1:=by
 have e:(psH h).length=(linesH h).length:=by unfold linesH;rw [<- rows_ps,List.length_map,List.length_map]
 rw [e]
 have:=joinL_tot (c:=10) (ws:=linesH h) (by unfold linesH rowsH;simp)
 have:=tot_len (linesH h)
 unfold textH
 omega
theorem ls_len {h:Hou}:h.ls.length<=(textH h).length:=by
 have m:joinL 32 [cds "letters", h.ls] ∈ linesH h:=List.mem_map.mpr ⟨_,by unfold rowsH;simp,rfl⟩
 have a:=tot_mem m
 have b:=joinL_tot (c:=10) (ws:=linesH h) (by unfold linesH rowsH;simp)
 have c:(joinL 32 [cds "letters", h.ls]).length+1=_:=joinL_tot (by simp)
 rw [tot_cons,tot_one] at c
 unfold textH
 omega
theorem alph_of {ls:List Nat} (h:LowW ls) (hp:ls.Pairwise (· < ·)):alphB ls=true:=by
 unfold alphB lowB riseB
 rw [Bool.and_eq_true,List.all_eq_true,List.all_eq_true]
 refine ⟨fun c hc=>?_,fun k hk=>?_⟩
 ·have z:97<=c/\c<123:=h c hc
  simp only [Bool.and_eq_true,decide_eq_true_eq]
  exact ⟨z.1,by omega⟩
 ·obtain ⟨a,b⟩:=List.mem_range'_1.mp hk
  rw [decide_eq_true_eq]
  have h1:k - 1<ls.length:=by omega
  have h2:k<ls.length:=by omega
  rw [List.getD_eq_getElem?_getD,List.getD_eq_getElem?_getD,List.getElem?_eq_getElem h1,List.getElem?_eq_getElem h2]
  exact List.pairwise_iff_getElem.mp hp _ _ h1 h2 (by omega)
def Sgd (w:List Nat):Prop:=∀ c ∈ w,48<=c/\c<128
theorem sgd_num {n:Nat} (h:n<1000):Sgd (numT n):=fun c hc=>by have:=(numT_ok n h).2.2 c hc;omega
theorem sgd_of {w:List Nat} (h:(w.all fun c=>decide (48<=c) && decide (c<128))=true):Sgd w:=fun c hc=>by
 have:=List.all_eq_true.mp h c hc
 simp only [Bool.and_eq_true,decide_eq_true_eq] at this
 exact this
theorem sgd_one {c:Nat} (h1:97<=c) (h2:c<=122):Sgd [c]:=fun d hd=>by rw [List.mem_singleton.mp hd];omega
theorem sgd_deed {d:Deed} (h:DeT d):∀ w ∈ deedW d,Sgd w:=by
 cases d with
 | go=>simp only [deedW,List.mem_cons,List.not_mem_nil,or_false];rintro w rfl;exact sgd_of (by decide +kernel)
 | send l c=>simp only [deedW,List.mem_cons,List.not_mem_nil,or_false];rintro w (rfl | rfl | rfl);exact sgd_of (by decide +kernel);exact sgd_num h.1;exact sgd_one h.2.1 h.2.2
 | take l c=>simp only [deedW,List.mem_cons,List.not_mem_nil,or_false];rintro w (rfl | rfl | rfl);exact sgd_of (by decide +kernel);exact sgd_num h.1;exact sgd_one h.2.1 h.2.2
 | empty l=>simp only [deedW,List.mem_cons,List.not_mem_nil,or_false];rintro w (rfl | rfl);exact sgd_of (by decide +kernel);exact sgd_num h
 | put f v=>simp only [deedW,List.mem_cons,List.not_mem_nil,or_false];rintro w (rfl | rfl | rfl);exact sgd_of (by decide +kernel);exact sgd_num h.1;exact sgd_num h.2
 | test f v=>simp only [deedW,List.mem_cons,List.not_mem_nil,or_false];rintro w (rfl | rfl | rfl);exact sgd_of (by decide +kernel);exact sgd_num h.1;exact sgd_num h.2
theorem sgd_rule {r:Rul} (h:RuT r):∀ w ∈ ruleRow r,Sgd w:=fun w hw=>by
 rcases List.mem_cons.mp hw with rfl | hw
 ·exact sgd_num h.p
 rcases List.mem_append.mp hw with hw | hw
 ·exact sgd_deed h.d w hw
 ·rw [List.mem_singleton.mp hw];exact sgd_num h.q
theorem sgd_rows {h:Hou} (H:HT h):∀ ws ∈ rowsH h,ws ≠ []/\∀ w ∈ ws,Sgd w:=fun ws hw=>by
 rcases List.mem_append.mp hw with hw | hw
 ·simp only [List.mem_cons,List.not_mem_nil,or_false] at hw
  rcases hw with rfl | rfl | rfl
  ·refine ⟨by simp,fun w hw=>?_⟩
   simp only [List.mem_cons,List.not_mem_nil,or_false] at hw
   rcases hw with rfl | rfl
   ·exact sgd_of (by decide +kernel)
   ·exact fun c hc=>by have:=alph_lt H.ls c hc;omega
  ·refine ⟨by simp,fun w hw=>?_⟩
   simp only [List.mem_cons,List.not_mem_nil,or_false] at hw
   rcases hw with rfl | rfl
   ·exact sgd_of (by decide +kernel)
   ·exact sgd_num H.lines
  ·refine ⟨by simp,fun w hw=>?_⟩
   simp only [List.mem_cons,List.not_mem_nil,or_false] at hw
   rcases hw with rfl | rfl
   ·exact sgd_of (by decide +kernel)
   ·exact sgd_num H.flags
 ·obtain ⟨l,hl,hw⟩:=List.mem_flatten.mp hw
  obtain ⟨x,hx,rfl⟩:=List.mem_map.mp hl
  obtain ⟨hn,hr⟩:=H.hands x hx
  rcases List.mem_cons.mp hw with rfl | hw
  ·refine ⟨by simp,fun w hw=>?_⟩
   simp only [List.mem_cons,List.not_mem_nil,or_false] at hw
   rcases hw with rfl | rfl
   ·exact sgd_of (by decide +kernel)
   ·exact sgd_num hn
  ·obtain ⟨r,hr',rfl⟩:=List.mem_map.mp hw
   exact ⟨by unfold ruleRow;simp,sgd_rule (hr r hr')⟩
theorem rows_text {h:Hou} (H:HT h):rowsT (textH h)=rowsH h:=by
 have s:=sgd_rows H
 have c1:cutW 10 (textH h)=linesH h:=cut_joinL (by unfold linesH rowsH;simp) fun w hw hc=>by
  obtain ⟨ws,hws,rfl⟩:=List.mem_map.mp hw
  rcases mem_join hc with e | ⟨v,hv,hx⟩
  ·exact absurd e (by decide)
  ·have:=(s ws hws).2 v hv 10 hx;omega
 unfold rowsT
 rw [c1]
 unfold linesH
 rw [List.map_map]
 conv=>rhs;rw [<- List.map_id (rowsH h)]
 exact List.map_congr_left fun ws hws=>cut_joinL (s ws hws).1 fun w hw hc=>by have:=(s ws hws).2 w hw 32 hc;omega
theorem text_sgn {h:Hou} (H:HT h):∀ c ∈ textH h,c<128:=fun c hc=>by
 rcases mem_join hc with rfl | ⟨w,hw,hx⟩
 ·decide
 ·obtain ⟨ws,hws,rfl⟩:=List.mem_map.mp hw
  rcases mem_join hx with rfl | ⟨v,hv,hy⟩
  ·decide
  ·exact ((sgd_rows H ws hws).2 v hv c hy).2
theorem num_le5 {n:Nat} (h:n<1000):(numT n).length<=5:=Nat.le_trans (num_short h).1 (by decide)
theorem deedW_few (d:Deed) (h:DeT d):(deedW d).length<=3/\∀ w ∈ deedW d,w.length<=5:=by
 have l1:∀ s:String,(cds s).length<=5->(cds s).length<=5:=fun _ h=>h
 cases d with
 | go=>exact ⟨by simp [deedW],by simp only [deedW,List.mem_cons,List.not_mem_nil,or_false];rintro w rfl;decide +kernel⟩
 | send l c=>exact ⟨by simp [deedW],by simp only [deedW,List.mem_cons,List.not_mem_nil,or_false];rintro w (rfl | rfl | rfl);exact (by decide +kernel);exact num_le5 h.1;exact (by simp)⟩
 | take l c=>exact ⟨by simp [deedW],by simp only [deedW,List.mem_cons,List.not_mem_nil,or_false];rintro w (rfl | rfl | rfl);exact (by decide +kernel);exact num_le5 h.1;exact (by simp)⟩
 | empty l=>exact ⟨by simp [deedW],by simp only [deedW,List.mem_cons,List.not_mem_nil,or_false];rintro w (rfl | rfl);exact (by decide +kernel);exact num_le5 h⟩
 | put f v=>exact ⟨by simp [deedW],by simp only [deedW,List.mem_cons,List.not_mem_nil,or_false];rintro w (rfl | rfl | rfl);exact (by decide +kernel);exact num_le5 h.1;exact num_le5 h.2⟩
 | test f v=>exact ⟨by simp [deedW],by simp only [deedW,List.mem_cons,List.not_mem_nil,or_false];rintro w (rfl | rfl | rfl);exact (by decide +kernel);exact num_le5 h.1;exact num_le5 h.2⟩
theorem ruleRow_few {r:Rul} (h:RuT r):(ruleRow r).length<=5/\∀ w ∈ ruleRow r,w.length<=5:=by
 obtain ⟨h1,h2⟩:=deedW_few r.d h.d
 unfold ruleRow
 refine ⟨by rw [List.length_cons,List.length_append];show _+1+1<=5;omega,fun w hw=>?_⟩
 rcases List.mem_cons.mp hw with rfl | hw
 ·exact num_le5 h.p
 rcases List.mem_append.mp hw with hw | hw
 ·exact h2 w hw
 ·rw [List.mem_singleton.mp hw]
  exact num_le5 h.q
def rowsPre (h:Hou) (j:Nat):List (List (List Nat)) := [[cds "letters", h.ls],[cds "lines", numT h.lines],[cds "flags", numT h.flags]]++((h.hands.take j).map handRows).flatten
theorem rowsPre_len {h:Hou} (hs:HS h) (j:Nat):(rowsPre h j).length<=24:=by
 unfold rowsPre
 rw [List.length_append,List.length_flatten,List.map_map]
 have:∀ l:List Hnd,(∀ x ∈ l,x ∈ h.hands)->(l.map (List.length ∘ handRows)).sum<=l.length * 7:=by
  intro l
  induction l with
  | nil=>intro _;exact Nat.zero_le _
  | cons x l ih =>
    intro hm
    have a:=ih fun y hy=>hm y (List.mem_cons_of_mem _ hy)
    have b:=hs.rules x (hm x (by simp))
    rw [List.map_cons,List.sum_cons,List.length_cons,Nat.succ_mul]
    have c:(List.length ∘ handRows) x=x.rs.length+1:=by show (handRows x).length=_;unfold handRows;rw [List.length_cons,List.length_map]
    omega
 have a:=this (h.hands.take j) fun x hx=>List.mem_of_mem_take hx
 have b:(h.hands.take j).length<=3:=by rw [List.length_take];have:=hs.hands;omega
 show 3+_<=24
 omega
theorem few_word {h:Hou} (H:HT h) (S:HS h):∀ ws ∈ rowsH h,ws.length<=5/\∀ w ∈ ws,w.length<=26:=fun ws hw=>by
 have n26:∀ n,n<1000->(numT n).length<=26:=fun n hn=>Nat.le_trans (num_short hn).1 (by decide)
 rcases List.mem_append.mp hw with hw | hw
 ·simp only [List.mem_cons,List.not_mem_nil,or_false] at hw
  rcases hw with rfl | rfl | rfl
  ·refine ⟨by simp,fun w hw=>?_⟩
   simp only [List.mem_cons,List.not_mem_nil,or_false] at hw
   rcases hw with rfl | rfl
   ·decide +kernel
   ·exact S.ls
  ·refine ⟨by simp,fun w hw=>?_⟩
   simp only [List.mem_cons,List.not_mem_nil,or_false] at hw
   rcases hw with rfl | rfl
   ·decide +kernel
   ·exact n26 _ H.lines
  ·refine ⟨by simp,fun w hw=>?_⟩
   simp only [List.mem_cons,List.not_mem_nil,or_false] at hw
   rcases hw with rfl | rfl
   ·decide +kernel
   ·exact n26 _ H.flags
 ·obtain ⟨l,hl,hw⟩:=List.mem_flatten.mp hw
  obtain ⟨x,hx,rfl⟩:=List.mem_map.mp hl
  obtain ⟨hn,hr⟩:=H.hands x hx
  rcases List.mem_cons.mp hw with rfl | hw
  ·refine ⟨by simp,fun w hw=>?_⟩
   simp only [List.mem_cons,List.not_mem_nil,or_false] at hw
   rcases hw with rfl | rfl
   ·decide +kernel
   ·exact n26 _ hn
  ·obtain ⟨r,hr',rfl⟩:=List.mem_map.mp hw
   obtain ⟨a,b⟩:=ruleRow_few (hr r hr')
   exact ⟨a,fun w hw=>Nat.le_trans (b w hw) (by decide)⟩
theorem lines_short {h:Hou} (H:HT h) (S:HS h):(linesH h).length<=24/\∀ w ∈ linesH h,w.length<=135:=by
 have hl:(rowsH h).length<=24:=by
  have:=rowsPre_len S h.hands.length
  unfold rowsPre at this
  rwa [List.take_length] at this
 refine ⟨by unfold linesH;rw [List.length_map];exact hl,fun w hw=>?_⟩
 obtain ⟨ws,hws,rfl⟩:=List.mem_map.mp hw
 obtain ⟨a,b⟩:=few_word H S ws hws
 have:=tot_few b
 have:=Nat.mul_le_mul_right (26+1) a
 have:=joinL_le (c:=32) ws
 omega
theorem tot_lines {h:Hou} (H:HT h) (S:HS h):totW (linesH h)<=3264:=by
 obtain ⟨a,b⟩:=lines_short H S
 have:=tot_few b
 have:=Nat.mul_le_mul_right (135+1) a
 omega
theorem lng_textH {h:Hou} (H:HT h) (S:HS h):Lng (textH h):=⟨by
 have:=tot_lines H S
 have:=joinL_le (c:=10) (linesH h)
 unfold textH
 omega,text_sgn H⟩
theorem hou_ht {h:Hou} (g:HouGood h):HT h/\HS h:=by
 have ok:=g.ok
 refine ⟨⟨alph_of ok.low g.rise,ok.ne,by have:=g.lines;omega,by have:=g.flags;omega,fun x hx=>?_⟩,⟨Nat.le_trans g.l3 (by decide),Nat.le_trans g.hands (by decide),fun x hx=>Nat.le_trans (g.rooms x hx).2.2.1 (by decide)⟩⟩
 obtain ⟨r1,r2,r3,r4⟩:=g.rooms x hx
 refine ⟨by omega,fun r hr=>?_⟩
 obtain ⟨d,p,q⟩:=(ok.rules x hx).2 r hr
 refine ⟨by omega,?_,by omega⟩
 have gl:=g.lines
 have gf:=g.flags
 cases hd:r.d with
 | go=>exact trivial
 | send l c=>rw [hd] at d;have z:97<=c/\c<123:=ok.low c d.2;exact ⟨by have:=d.1;omega,by omega,by omega⟩
 | take l c=>rw [hd] at d;have z:97<=c/\c<123:=ok.low c d.2;exact ⟨by have:=d.1;omega,by omega,by omega⟩
 | empty l=>rw [hd] at d;have:l<h.lines:=d;show l<1000;omega
 | put f v=>rw [hd] at d;have:f<h.flags/\_:=d;exact ⟨by omega,by omega⟩
 | test f v=>rw [hd] at d;have:f<h.flags/\_:=d;exact ⟨by omega,by omega⟩
end L3
namespace L3
open PySem PySem.Spec
open PyProof.Rows hiding St
open L2
def rListO (K:PySem.W.Frag):List V->Hp->VK->Prop:=fun xs H Q=>∃ p ys,xs = [.ref p]/\(SqL K H p ys\/SqT K H p ys)/\∀ l,H l=none->Q (.ref l) (upd H l (.lst ys))
def tState (K:PySem.W.Frag):TE:=tLst (tCons (tCB (rListO K) (tCons (tVar 0) tNil)) (tCons (tC (.int 0)) (tCons (tC (.int 0)) (tCons (tC (.int 0)) tNil))))
theorem mk_lawS {P:Program} {w:World} {K:PySem.W.Frag} {mg:Str->Option Value} {base:Heap} {k:Nat} {st st0:Stmt} {rest:List Stmt} {N:List Str} {f₁:Addr} {fd₁:FuncData} (Fu:Fun K "law" "law" st f₁ fd₁) (S:FnScope ("_law_script" :: "_law_state" :: N) ["_law_script"] (defScope st))
 (hs:defBody st=st0::rest)
 (first:∀ (f:Addr) (cdv:Value) (A:Around) (outer:List Env) (s:Shared) (H:Hp) (E:XK),Ctx3 P w K mg base k (bodyX P w K mg base ("_law_script" :: "_law_state" :: N) "law" (defScope st) f cdv A outer s H E) ->
  PS (bodyX P w K mg base ("_law_script" :: "_law_state" :: N) "law" (defScope st) f cdv A outer s H E ()) st0 (tAsg (tState K) (gName 1)))
 (body:∀ (f:Addr) (cdv:Value) (A:Around) (outer:List Env) (s:Shared) (H:Hp) (E:XK),Ctx3 P w K mg base k (bodyX P w K mg base ("_law_script" :: "_law_state" :: N) "law" (defScope st) f cdv A outer s H E) ->
  ∃ g,Ss3 K (bodyX P w K mg base ("_law_script" :: "_law_state" :: N) "law" (defScope st) f cdv A outer s H E) (fun j:Addr × Addr=>stOb j.1 j.2) rest g/\g { nx:=fun _=>False,rt:=fun r=>r = .o (.bool true) } (none::some .ob::List.replicate N.length none)) :
 FnOk P w K mg base CX0 (k+1) f₁ fd₁ ["_law_script"] (spLaw K):=by
 refine Fu.ok S (fun vs H Q E h=>by obtain ⟨a,ns,rfl,_⟩:=h;rfl) (fun cdv A outer s H vs Q E hr h=>?_)
 obtain ⟨a,ns,rfl,hS,hl,q⟩:=h
 have C:=ctx_body (P:=P) (w:=w) (K:=K) (mg:=mg) (base:=base) (N := "_law_script" :: "_law_state" :: N) (x := "law") (sc:=defScope st) (f:=f₁) (cdv:=cdv) (A:=A) (outer:=outer) (s:=s) (H:=H) (E:=E) hr
 obtain ⟨g,⟨t,h1,h2⟩,h3⟩:=body f₁ cdv A outer s H E C
 have sz:=sizeLine_eq
 refine ⟨tSeq (tAsg (tState K) (gName 1)) t,?_,?_⟩
 ·rw [hs]
  exact pss_cons (first f₁ cdv A outer s H E C) (h1 ())
 ·refine ⟨_,rfl,a,_,rfl,.inl hS,fun l hln=>⟨by show 4<=sizeLine;omega,fun p hp=>?_⟩⟩
  have pl:p ≠ l:=fun e=>by rw [e,upd_same] at hp;cases hp
  have pa:StAt (upd (upd H l (.lst (ns.map V.int))) p (.lst [V.ref l,V.int 0,V.int 0,V.int 0])) p l 0 0 0 ns:=⟨pl,upd_same,by rw [upd_ne (Ne.symm pl),upd_same],by decide,by decide⟩
  refine h2 (p,l) _ (fun _ _=>False) _ _ _ _ _ ⟨stOb_ok p l,⟨0,0,0,ns,pa⟩,⟨0,0,0,ns,pa⟩,.refl _ _,fun _ _ _ z=>z.elim,fun _ _ z=>z.elim,fun i r e=>?_,?_⟩ h3 ⟨fun _ _ _ _ _ _ z=>z.elim,fun _ _ _ _ _ _ z=>z.elim,fun _ _ _ _ _ _ z=>z.elim,fun H' v r _ o e=>?_⟩
  ·match i with
   | 0=>cases e
   | 1=>cases e;exact ⟨_,rfl,rfl⟩
   | i+2 =>
     rw [List.getElem?_cons_succ,List.getElem?_cons_succ,List.getElem?_replicate] at e
     split at e <;> cases e
  ·rw [List.length_set]
   simp [L2.start]
  ·subst e
   cases o
   exact q H'
end L3
namespace L31
open PySem PySem.Spec
open PyProof.Rows hiding St
open L2 L3
section
variable {P : Program} {w : World} {K : PySem.W.Frag} {mg : Str → Option Value} {base : Heap} {k : Nat}
abbrev sIsWord:Stmt:=top 4
theorem scIsWord:FnScope ["text"] ["text"] (defScope sIsWord):=⟨rfl,rfl,rfl,by decide +kernel,rfl,by decide +kernel,by decide +kernel⟩
theorem d_is_word (B:Blt mg) (T:Top3 K mg "is_word" sIsWord):Def3 P w K mg base 1 "is_word" ["text"] (spO K (fun _=>True) 1 wordLF):=by
 refine mk_O T scIsWord (fun _ _ _ _ _ _ us hl=>len1 hl fun _=>rfl) rfl fun f cdv A outer s H E O hφ C=>⟨_,(ss_one (s_ret (e_all C B (a_cons (e_comp 1 ["sign", "text"] C (fun _ => .of rfl (by kernel_rfl)) (i_str (e_var 0)) (g_name 0) f_nil (e_chS e_str (e_var 0) e_str)) a_nil)))),fun ds Qr hn q=>?_⟩
 obtain ⟨v,rfl,hv,q⟩:=q
 have sz:=sizeLine_eq
 have hl:=hv.len
 have es:sgs (tx v)=v.map fun c => .str (sg c):=by unfold sgs;rw [tx_toList]
 (repeat first | refine ⟨_,_,rfl,rfl,?_⟩ | refine ⟨_,eqI,?_⟩ | refine ⟨_,neI,?_⟩ | refine ⟨_,rfl,?_⟩ | refine ⟨rfl,?_⟩ | refine ⟨(by show _<=sizeLine;rw [sizeLine_eq];exact Nat.le_of_ble_eq_true rfl),?_⟩ | refine ⟨_,_,rfl,?_⟩ | refine ⟨_,_,_,rfl,?_⟩ | refine iteT ?_ | refine iteF ?_ | refine Or.inl ⟨rfl,?_⟩ | refine Or.inr ⟨rfl,?_⟩ | refine ⟨_,eqS_t (by decide +kernel),?_⟩ | refine ⟨_,eqS_f (by decide +kernel) (by decide +kernel),?_⟩ | refine ⟨_,inS_t (by decide +kernel),?_⟩ | refine ⟨_,inS_f (by decide +kernel),?_⟩)
 rw [es]
 refine comp_of (α:=Nat) (enc:=fun c => .str (sg c)) (e:=fun c => .bool (decide (97<=c) && decide (c<=122))) (fun c hc P hP=>?_) (by omega) ?_
 ·exact ch_sg (lo:=97) (hi:=122) rfl (hP _ rfl)
 refine ⟨_,all_ls v _,?_⟩
 rw [all_id]
 exact q
end
section
variable {P : Program} {w : World} {K : PySem.W.Frag} {mg : Str → Option Value} {base : Heap} {k : Nat}
abbrev sIsLetter:Stmt:=top 5
theorem scIsLetter:FnScope ["text"] ["text"] (defScope sIsLetter):=⟨rfl,rfl,rfl,by decide +kernel,rfl,by decide +kernel,by decide +kernel⟩
theorem d_is_letter (B:Blt mg) (d_is_word:Def3 P w K mg base 1 "is_word" ["text"] (spO K (fun _=>True) 1 wordLF)) (T:Top3 K mg "is_letter" sIsLetter):Def3 P w K mg base 2 "is_letter" ["text"] (spO K (fun _=>True) 1 letterTF):=by
 refine mk_O T scIsLetter (fun _ _ _ _ _ _ us hl=>len1 hl fun _=>rfl) rfl fun f cdv A outer s H E O hφ C=>⟨_,(ss_one (s_ret (e_and (e_eq C (e_len C B (a_cons (e_var 0) a_nil)) e_int) (e_one (e_call C d_is_word (fun _=>trivial) (a_cons (e_var 0) a_nil)))))),fun ds Qr hn q=>?_⟩
 obtain ⟨v,rfl,hv,q⟩:=q
 (repeat first | refine ⟨_,lng_len hv,?_⟩ | refine ⟨lng_len hv,?_⟩ | refine ⟨_,_,rfl,rfl,?_⟩ | refine ⟨_,eqI,?_⟩ | refine ⟨_,neI,?_⟩ | refine ⟨_,rfl,?_⟩ | refine ⟨rfl,?_⟩ | refine ⟨(by show _<=sizeLine;rw [sizeLine_eq];exact Nat.le_of_ble_eq_true rfl),?_⟩ | refine ⟨_,_,rfl,?_⟩ | refine ⟨_,_,_,rfl,?_⟩ | refine iteT ?_ | refine iteF ?_ | refine Or.inl ⟨rfl,?_⟩ | refine Or.inr ⟨rfl,?_⟩ | refine ⟨_,eqS_t (by decide +kernel),?_⟩ | refine ⟨_,eqS_f (by decide +kernel) (by decide +kernel),?_⟩ | refine ⟨_,inS_t (by decide +kernel),?_⟩ | refine ⟨_,inS_f (by decide +kernel),?_⟩)
 rw [show decide ((v.length:Int)=1)=decide (v.length=1) from decide_eq_decide.mpr ⟨fun h=>by omega,fun h=>by omega⟩]
 refine iteB (fun a=>?_) fun a=>?_
 ·rw [a,Bool.true_and] at q
  (repeat first | refine ⟨_,_,rfl,rfl,?_⟩ | refine ⟨_,eqI,?_⟩ | refine ⟨_,neI,?_⟩ | refine ⟨_,rfl,?_⟩ | refine ⟨rfl,?_⟩ | refine ⟨(by show _<=sizeLine;rw [sizeLine_eq];exact Nat.le_of_ble_eq_true rfl),?_⟩ | refine ⟨_,_,rfl,?_⟩ | refine ⟨_,_,_,rfl,?_⟩ | refine iteT ?_ | refine iteF ?_ | refine Or.inl ⟨rfl,?_⟩ | refine Or.inr ⟨rfl,?_⟩ | refine ⟨_,eqS_t (by decide +kernel),?_⟩ | refine ⟨_,eqS_f (by decide +kernel) (by decide +kernel),?_⟩ | refine ⟨_,inS_t (by decide +kernel),?_⟩ | refine ⟨_,inS_f (by decide +kernel),?_⟩)
  exact ⟨hv,q⟩
 ·rw [a] at q
  exact q
end
section
variable {P : Program} {w : World} {K : PySem.W.Frag} {mg : Str → Option Value} {base : Heap} {k : Nat}
abbrev sIsAlphabet:Stmt:=top 6
theorem scIsAlphabet:FnScope ["text", "rising"] ["text"] (defScope sIsAlphabet):=⟨rfl,rfl,rfl,by decide +kernel,rfl,by decide +kernel,by decide +kernel⟩
theorem d_is_alphabet (B:Blt mg) (d_is_word:Def3 P w K mg base 1 "is_word" ["text"] (spO K (fun _=>True) 1 wordLF)) (T:Top3 K mg "is_alphabet" sIsAlphabet):Def3 P w K mg base 2 "is_alphabet" ["text"] (spO K (fun _=>True) 1 alphLF):=by
 refine mk_O T scIsAlphabet (fun _ _ _ _ _ _ us hl=>len1 hl fun _=>rfl) rfl fun f cdv A outer s H E O hφ C=>⟨_,(ss_cons (s_set 1 (e_all C B (a_cons (e_comp 1 ["k", "text", "rising"] C (fun _ => .of rfl (by kernel_rfl)) (i_r2 C B (a_cons e_int (a_cons (e_len C B (a_cons (e_var 0) a_nil)) a_nil))) (g_name 0) f_nil (e_ltS (e_idx (C.comp _ _) (e_var 1) (e_sub (e_var 0) e_int)) (e_idx (C.comp _ _) (e_var 1) (e_var 0)))) a_nil))) (ss_one (s_ret (e_and (e_call C d_is_word (fun _=>trivial) (a_cons (e_var 0) a_nil)) (e_one (e_var 1)))))),fun ds Qr hn q=>?_⟩
 obtain ⟨v,rfl,hv,q⟩:=q
 have sz:=sizeLine_eq
 have hl:=hv.len
 refine ⟨_,_,rfl,rfl,_,len_tx (by omega),1,_,rfl,⟨by omega,by omega,by omega,by omega⟩,?_⟩
 have en:numsD 1 ((v.length:Int) - 1).toNat=(List.range' 1 (v.length - 1)).map fun k => .int (k:Nat):=by
  unfold numsD
  rw [List.range'_eq_map_range,List.map_map,show ((v.length:Int) - 1).toNat=v.length - 1 by omega]
  refine List.map_congr_left fun k _=>?_
  show PyData.int (1+(k:Nat))=PyData.int ((1+k:Nat):Int)
  congr 1
 rw [en]
 refine comp_of (α:=Nat) (enc:=fun k => .int (k:Nat)) (e:=fun k => .bool (decide (v.getD (k - 1) 0<v.getD k 0))) (fun k hk P hP=>?_) (by rw [List.length_range'];omega) ?_
 ·obtain ⟨h1,h2⟩:=List.mem_range'_1.mp hk
  have hk2:k<v.length:=by omega
  have hx:idxF (tS v) (.int (((k:Nat):Int) - 1))=some (.o (tS [v[k - 1]])):=by
   rw [show ((k:Nat):Int) - 1=((k - 1:Nat):Int) by omega]
   exact idx_tx (w:=v) (k:=k - 1) (by omega) (by omega)
  refine ⟨_,_,rfl,rfl,_,_,rfl,rfl,_,rfl,_,hx,_,_,rfl,rfl,_,_,rfl,rfl,_,idx_tx (w:=v) (k:=k) hk2 (by omega),_,rfl,hP _ ?_⟩
  show PyData.bool (decide (([v[k - 1]]:List Nat) < [v[k]]))=_
  rw [lt_one,List.getD_eq_getElem?_getD,List.getD_eq_getElem?_getD,List.getElem?_eq_getElem hk2,List.getElem?_eq_getElem (show k - 1<v.length by omega)]
  rfl
 refine ⟨(List.range' 1 (v.length - 1)).map (fun k=>decide (v.getD (k - 1) 0<v.getD k 0)),congrArg (fun x => [PyData.list x]) all_of,rfl,?_⟩
 have ed:(if false=true then List.any ((List.range' 1 (v.length - 1)).map fun k=>decide (v.getD (k - 1) 0<v.getD k 0)) id else List.all ((List.range' 1 (v.length - 1)).map fun k=>decide (v.getD (k - 1) 0<v.getD k 0)) id)=riseB v:=by
  rw [if_neg Bool.false_ne_true,List.all_map]
  rfl
 rw [ed]
 refine ⟨_,_,rfl,rfl,rfl,v,rfl,hv,_,rfl,?_⟩
 unfold alphB at q
 cases h0:lowB v with
 | false=>rw [h0,Bool.false_and] at q;exact iteF q
 | true=>rw [h0,Bool.true_and] at q;exact iteT ⟨_,_,rfl,rfl,q⟩
end
section
variable {P : Program} {w : World} {K : PySem.W.Frag} {mg : Str → Option Value} {base : Heap} {k : Nat}
abbrev sIsNumber:Stmt:=top 10
theorem scIsNumber:FnScope ["word", "figures"] ["word"] (defScope sIsNumber):=⟨rfl,rfl,rfl,by decide +kernel,rfl,by decide +kernel,by decide +kernel⟩
theorem d_is_number (B:Blt mg) (T:Top3 K mg "is_number" sIsNumber):Def3 P w K mg base 1 "is_number" ["word"] (spO K (fun _=>True) 1 numberTF):=by
 refine mk_O T scIsNumber (fun _ _ _ _ _ _ us hl=>len1 hl fun _=>rfl) rfl fun f cdv A outer s H E O hφ C=>⟨_,(ss_cons (s_set 1 (e_all C B (a_cons (e_comp 1 ["sign", "word", "figures"] C (fun _ => .of rfl (by kernel_rfl)) (i_str (e_var 0)) (g_name 0) f_nil (e_chS e_str (e_var 0) e_str)) a_nil))) (ss_one (s_ret (e_and (e_var 1) (e_and (e_chI e_int (e_len C B (a_cons (e_var 0) a_nil)) e_int) (e_one (e_or (e_eq C (e_var 0) e_str) (e_one (e_ne C (e_idx C (e_var 0) e_int) e_str))))))))),fun ds Qr hn q=>?_⟩
 obtain ⟨v,rfl,hv,q⟩:=q
 have sz:=sizeLine_eq
 have hl:=hv.len
 have es:sgs (tx v)=v.map fun c => .str (sg c):=by unfold sgs;rw [tx_toList]
 (repeat first | refine ⟨_,_,rfl,rfl,?_⟩ | refine ⟨_,eqI,?_⟩ | refine ⟨_,neI,?_⟩ | refine ⟨_,rfl,?_⟩ | refine ⟨rfl,?_⟩ | refine ⟨(by show _<=sizeLine;rw [sizeLine_eq];exact Nat.le_of_ble_eq_true rfl),?_⟩ | refine ⟨_,_,rfl,?_⟩ | refine ⟨_,_,_,rfl,?_⟩ | refine iteT ?_ | refine iteF ?_ | refine Or.inl ⟨rfl,?_⟩ | refine Or.inr ⟨rfl,?_⟩ | refine ⟨_,eqS_t (by decide +kernel),?_⟩ | refine ⟨_,eqS_f (by decide +kernel) (by decide +kernel),?_⟩ | refine ⟨_,inS_t (by decide +kernel),?_⟩ | refine ⟨_,inS_f (by decide +kernel),?_⟩)
 rw [es]
 refine comp_of (α:=Nat) (enc:=fun c => .str (sg c)) (e:=fun c => .bool (decide (48<=c) && decide (c<=57))) (fun c hc P hP=>?_) (by omega) ?_
 ·exact ch_sg (lo:=48) (hi:=57) rfl (hP _ rfl)
 refine ⟨_,all_ls v _,?_⟩
 rw [all_id]
 (repeat first | refine ⟨_,_,rfl,rfl,?_⟩ | refine ⟨_,eqI,?_⟩ | refine ⟨_,neI,?_⟩ | refine ⟨_,rfl,?_⟩ | refine ⟨rfl,?_⟩ | refine ⟨(by show _<=sizeLine;rw [sizeLine_eq];exact Nat.le_of_ble_eq_true rfl),?_⟩ | refine ⟨_,_,rfl,?_⟩ | refine ⟨_,_,_,rfl,?_⟩ | refine iteT ?_ | refine iteF ?_ | refine Or.inl ⟨rfl,?_⟩ | refine Or.inr ⟨rfl,?_⟩ | refine ⟨_,eqS_t (by decide +kernel),?_⟩ | refine ⟨_,eqS_f (by decide +kernel) (by decide +kernel),?_⟩ | refine ⟨_,inS_t (by decide +kernel),?_⟩ | refine ⟨_,inS_f (by decide +kernel),?_⟩)
 unfold isNumB at q
 refine iteB (fun a1=>?_) fun a1=>?_
 rotate_left
 ·rw [show digB v=false from a1] at q
  exact q
 rw [show digB v=true from a1,Bool.true_and] at q
 (repeat first | refine ⟨_,lng_len hv,?_⟩ | refine ⟨lng_len hv,?_⟩ | refine ⟨_,_,rfl,rfl,?_⟩ | refine ⟨_,eqI,?_⟩ | refine ⟨_,neI,?_⟩ | refine ⟨_,rfl,?_⟩ | refine ⟨rfl,?_⟩ | refine ⟨(by show _<=sizeLine;rw [sizeLine_eq];exact Nat.le_of_ble_eq_true rfl),?_⟩ | refine ⟨_,_,rfl,?_⟩ | refine ⟨_,_,_,rfl,?_⟩ | refine iteT ?_ | refine iteF ?_ | refine Or.inl ⟨rfl,?_⟩ | refine Or.inr ⟨rfl,?_⟩ | refine ⟨_,eqS_t (by decide +kernel),?_⟩ | refine ⟨_,eqS_f (by decide +kernel) (by decide +kernel),?_⟩ | refine ⟨_,inS_t (by decide +kernel),?_⟩ | refine ⟨_,inS_f (by decide +kernel),?_⟩)
 refine iteB (fun a2=>?_) fun a2=>?_
 rotate_left
 ·rw [show decide (1<=v.length)=false from decide_eq_false (by have:=of_decide_eq_false a2;omega)] at q
  (repeat first | refine ⟨_,_,rfl,rfl,?_⟩ | refine ⟨_,eqI,?_⟩ | refine ⟨_,neI,?_⟩ | refine ⟨_,rfl,?_⟩ | refine ⟨rfl,?_⟩ | refine ⟨(by show _<=sizeLine;rw [sizeLine_eq];exact Nat.le_of_ble_eq_true rfl),?_⟩ | refine ⟨_,_,rfl,?_⟩ | refine ⟨_,_,_,rfl,?_⟩ | refine iteT ?_ | refine iteF ?_ | refine Or.inl ⟨rfl,?_⟩ | refine Or.inr ⟨rfl,?_⟩ | refine ⟨_,eqS_t (by decide +kernel),?_⟩ | refine ⟨_,eqS_f (by decide +kernel) (by decide +kernel),?_⟩ | refine ⟨_,inS_t (by decide +kernel),?_⟩ | refine ⟨_,inS_f (by decide +kernel),?_⟩)
  exact q
 rw [show decide (1<=v.length)=true from decide_eq_true (by have:=of_decide_eq_true a2;omega),Bool.true_and] at q
 (repeat first | refine ⟨_,_,rfl,rfl,?_⟩ | refine ⟨_,eqI,?_⟩ | refine ⟨_,neI,?_⟩ | refine ⟨_,rfl,?_⟩ | refine ⟨rfl,?_⟩ | refine ⟨(by show _<=sizeLine;rw [sizeLine_eq];exact Nat.le_of_ble_eq_true rfl),?_⟩ | refine ⟨_,_,rfl,?_⟩ | refine ⟨_,_,_,rfl,?_⟩ | refine iteT ?_ | refine iteF ?_ | refine Or.inl ⟨rfl,?_⟩ | refine Or.inr ⟨rfl,?_⟩ | refine ⟨_,eqS_t (by decide +kernel),?_⟩ | refine ⟨_,eqS_f (by decide +kernel) (by decide +kernel),?_⟩ | refine ⟨_,inS_t (by decide +kernel),?_⟩ | refine ⟨_,inS_f (by decide +kernel),?_⟩)
 refine iteB (fun a3=>?_) fun a3=>?_
 rotate_left
 ·rw [show decide (v.length<=3)=false from decide_eq_false (by have:=of_decide_eq_false a3;omega)] at q
  (repeat first | refine ⟨_,_,rfl,rfl,?_⟩ | refine ⟨_,eqI,?_⟩ | refine ⟨_,neI,?_⟩ | refine ⟨_,rfl,?_⟩ | refine ⟨rfl,?_⟩ | refine ⟨(by show _<=sizeLine;rw [sizeLine_eq];exact Nat.le_of_ble_eq_true rfl),?_⟩ | refine ⟨_,_,rfl,?_⟩ | refine ⟨_,_,_,rfl,?_⟩ | refine iteT ?_ | refine iteF ?_ | refine Or.inl ⟨rfl,?_⟩ | refine Or.inr ⟨rfl,?_⟩ | refine ⟨_,eqS_t (by decide +kernel),?_⟩ | refine ⟨_,eqS_f (by decide +kernel) (by decide +kernel),?_⟩ | refine ⟨_,inS_t (by decide +kernel),?_⟩ | refine ⟨_,inS_f (by decide +kernel),?_⟩)
  exact q
 rw [show decide (v.length<=3)=true from decide_eq_true (by have:=of_decide_eq_true a3;omega),Bool.true_and] at q
 have h0:0<v.length:=by have:=of_decide_eq_true a2;omega
 have e0:Str.ofString "0" = tx [48]:=by decide +kernel
 have hx:idxF (.str (tx v)) (.int 0)=some (.o (.str (tx [v[0]]))):=idx_tx (k:=0) h0 (by omega)
 (repeat first | refine ⟨_,eq_lit e0 hv (lng1 48),?_⟩ | refine ⟨eq_lit e0 hv (lng1 48),?_⟩ | refine ⟨_,_,rfl,rfl,?_⟩ | refine ⟨_,eqI,?_⟩ | refine ⟨_,neI,?_⟩ | refine ⟨_,rfl,?_⟩ | refine ⟨rfl,?_⟩ | refine ⟨(by show _<=sizeLine;rw [sizeLine_eq];exact Nat.le_of_ble_eq_true rfl),?_⟩ | refine ⟨_,_,rfl,?_⟩ | refine ⟨_,_,_,rfl,?_⟩ | refine iteT ?_ | refine iteF ?_ | refine Or.inl ⟨rfl,?_⟩ | refine Or.inr ⟨rfl,?_⟩ | refine ⟨_,eqS_t (by decide +kernel),?_⟩ | refine ⟨_,eqS_f (by decide +kernel) (by decide +kernel),?_⟩ | refine ⟨_,inS_t (by decide +kernel),?_⟩ | refine ⟨_,inS_f (by decide +kernel),?_⟩)
 rw [if_neg Bool.false_ne_true]
 refine iteB (fun a4=>?_) fun a4=>?_
 ·rw [a4,Bool.true_or] at q
  exact q
 rw [a4,Bool.false_or] at q
 (repeat first | refine ⟨_,hx,?_⟩ | refine ⟨hx,?_⟩ | refine ⟨_,eq_lit e0 (lng1 v[0] (hv.sgn _ (List.getElem_mem h0))) (lng1 48),?_⟩ | refine ⟨eq_lit e0 (lng1 v[0] (hv.sgn _ (List.getElem_mem h0))) (lng1 48),?_⟩ | refine ⟨_,_,rfl,rfl,?_⟩ | refine ⟨_,eqI,?_⟩ | refine ⟨_,neI,?_⟩ | refine ⟨_,rfl,?_⟩ | refine ⟨rfl,?_⟩ | refine ⟨(by show _<=sizeLine;rw [sizeLine_eq];exact Nat.le_of_ble_eq_true rfl),?_⟩ | refine ⟨_,_,rfl,?_⟩ | refine ⟨_,_,_,rfl,?_⟩ | refine iteT ?_ | refine iteF ?_ | refine Or.inl ⟨rfl,?_⟩ | refine Or.inr ⟨rfl,?_⟩ | refine ⟨_,eqS_t (by decide +kernel),?_⟩ | refine ⟨_,eqS_f (by decide +kernel) (by decide +kernel),?_⟩ | refine ⟨_,inS_t (by decide +kernel),?_⟩ | refine ⟨_,inS_f (by decide +kernel),?_⟩)
 rw [if_pos rfl]
 have e5:decide ([v[0]] = [48])=decide (v.head? = some 48):=by
  rw [List.head?_eq_getElem?,List.getElem?_eq_getElem h0]
  exact decide_eq_decide.mpr (by simp)
 rw [e5]
 exact q
end
section
variable {P : Program} {w : World} {K : PySem.W.Frag} {mg : Str → Option Value} {base : Heap} {k : Nat}
abbrev sShapeOf:Stmt:=top 11
theorem scShapeOf:FnScope ["word"] ["word"] (defScope sShapeOf):=⟨rfl,rfl,rfl,by decide +kernel,rfl,by decide +kernel,by decide +kernel⟩
theorem d_shape_of (B:Blt mg) (d_is_letter:Def3 P w K mg base 2 "is_letter" ["text"] (spO K (fun _=>True) 1 letterTF)) (d_is_number:Def3 P w K mg base 1 "is_number" ["word"] (spO K (fun _=>True) 1 numberTF)) (T:Top3 K mg "shape_of" sShapeOf):Def3 P w K mg base 3 "shape_of" ["word"] (spO K (fun _=>True) 1 shapeTF):=by
 refine mk_O T scShapeOf (fun _ _ _ _ _ _ us hl=>len1 hl fun _=>rfl) rfl fun f cdv A outer s H E O hφ C=>⟨_,(ss_cons (s_if (t_val (e_call C d_is_number (fun _=>trivial) (a_cons (e_var 0) a_nil))) (ss_one (s_ret e_str)) ss_nil) (ss_one (s_ret (e_if (t_val (e_call C d_is_letter (fun _=>trivial) (a_cons (e_var 0) a_nil))) e_str e_str)))),fun ds Qr hn q=>?_⟩
 obtain ⟨v,rfl,hv,q⟩:=q
 (repeat first | refine ⟨_,_,rfl,rfl,?_⟩ | refine ⟨_,eqI,?_⟩ | refine ⟨_,neI,?_⟩ | refine ⟨_,rfl,?_⟩ | refine ⟨rfl,?_⟩ | refine ⟨(by show _<=sizeLine;rw [sizeLine_eq];exact Nat.le_of_ble_eq_true rfl),?_⟩ | refine ⟨_,_,rfl,?_⟩ | refine ⟨_,_,_,rfl,?_⟩ | refine iteT ?_ | refine iteF ?_ | refine Or.inl ⟨rfl,?_⟩ | refine Or.inr ⟨rfl,?_⟩ | refine ⟨_,eqS_t (by decide +kernel),?_⟩ | refine ⟨_,eqS_f (by decide +kernel) (by decide +kernel),?_⟩ | refine ⟨_,inS_t (by decide +kernel),?_⟩ | refine ⟨_,inS_f (by decide +kernel),?_⟩)
 refine ⟨hv,?_⟩
 (repeat first | refine ⟨_,_,rfl,rfl,?_⟩ | refine ⟨_,eqI,?_⟩ | refine ⟨_,neI,?_⟩ | refine ⟨_,rfl,?_⟩ | refine ⟨rfl,?_⟩ | refine ⟨(by show _<=sizeLine;rw [sizeLine_eq];exact Nat.le_of_ble_eq_true rfl),?_⟩ | refine ⟨_,_,rfl,?_⟩ | refine ⟨_,_,_,rfl,?_⟩ | refine iteT ?_ | refine iteF ?_ | refine Or.inl ⟨rfl,?_⟩ | refine Or.inr ⟨rfl,?_⟩ | refine ⟨_,eqS_t (by decide +kernel),?_⟩ | refine ⟨_,eqS_f (by decide +kernel) (by decide +kernel),?_⟩ | refine ⟨_,inS_t (by decide +kernel),?_⟩ | refine ⟨_,inS_f (by decide +kernel),?_⟩)
 refine iteB (fun a=>?_) fun a=>?_
 ·rw [if_pos a] at q
  exact q
 rw [if_neg (by rw [a];exact Bool.false_ne_true)] at q
 (repeat first | refine ⟨_,_,rfl,rfl,?_⟩ | refine ⟨_,eqI,?_⟩ | refine ⟨_,neI,?_⟩ | refine ⟨_,rfl,?_⟩ | refine ⟨rfl,?_⟩ | refine ⟨(by show _<=sizeLine;rw [sizeLine_eq];exact Nat.le_of_ble_eq_true rfl),?_⟩ | refine ⟨_,_,rfl,?_⟩ | refine ⟨_,_,_,rfl,?_⟩ | refine iteT ?_ | refine iteF ?_ | refine Or.inl ⟨rfl,?_⟩ | refine Or.inr ⟨rfl,?_⟩ | refine ⟨_,eqS_t (by decide +kernel),?_⟩ | refine ⟨_,eqS_f (by decide +kernel) (by decide +kernel),?_⟩ | refine ⟨_,inS_t (by decide +kernel),?_⟩ | refine ⟨_,inS_f (by decide +kernel),?_⟩)
 refine ⟨hv,?_⟩
 (repeat first | refine ⟨_,_,rfl,rfl,?_⟩ | refine ⟨_,eqI,?_⟩ | refine ⟨_,neI,?_⟩ | refine ⟨_,rfl,?_⟩ | refine ⟨rfl,?_⟩ | refine ⟨(by show _<=sizeLine;rw [sizeLine_eq];exact Nat.le_of_ble_eq_true rfl),?_⟩ | refine ⟨_,_,rfl,?_⟩ | refine ⟨_,_,_,rfl,?_⟩ | refine iteT ?_ | refine iteF ?_ | refine Or.inl ⟨rfl,?_⟩ | refine Or.inr ⟨rfl,?_⟩ | refine ⟨_,eqS_t (by decide +kernel),?_⟩ | refine ⟨_,eqS_f (by decide +kernel) (by decide +kernel),?_⟩ | refine ⟨_,inS_t (by decide +kernel),?_⟩ | refine ⟨_,inS_f (by decide +kernel),?_⟩)
 refine iteB (fun b=>?_) fun b=>?_
 ·rw [if_pos b] at q
  exact q
 ·rw [if_neg (by rw [b];exact Bool.false_ne_true)] at q
  exact q
end
section
variable {P : Program} {w : World} {K : PySem.W.Frag} {mg : Str → Option Value} {base : Heap} {k : Nat}
abbrev sValueOf:Stmt:=top 12
theorem scValueOf:FnScope ["word"] ["word"] (defScope sValueOf):=⟨rfl,rfl,rfl,by decide +kernel,rfl,by decide +kernel,by decide +kernel⟩
theorem d_value_of (B:Blt mg) (d_is_number:Def3 P w K mg base 1 "is_number" ["word"] (spO K (fun _=>True) 1 numberTF)) (T:Top3 K mg "value_of" sValueOf):Def3 P w K mg base 2 "value_of" ["word"] (spO K (fun _=>True) 1 valueTF):=by
 refine mk_O T scValueOf (fun _ _ _ _ _ _ us hl=>len1 hl fun _=>rfl) rfl fun f cdv A outer s H E O hφ C=>⟨_,(ss_one (s_ret (e_if (t_val (e_call C d_is_number (fun _=>trivial) (a_cons (e_var 0) a_nil))) (e_intU C B (a_cons (e_var 0) a_nil)) (e_var 0)))),fun ds Qr hn q=>?_⟩
 obtain ⟨v,rfl,hv,q⟩:=q
 unfold thD at q
 (repeat first | refine ⟨_,_,rfl,rfl,?_⟩ | refine ⟨_,eqI,?_⟩ | refine ⟨_,neI,?_⟩ | refine ⟨_,rfl,?_⟩ | refine ⟨rfl,?_⟩ | refine ⟨(by show _<=sizeLine;rw [sizeLine_eq];exact Nat.le_of_ble_eq_true rfl),?_⟩ | refine ⟨_,_,rfl,?_⟩ | refine ⟨_,_,_,rfl,?_⟩ | refine iteT ?_ | refine iteF ?_ | refine Or.inl ⟨rfl,?_⟩ | refine Or.inr ⟨rfl,?_⟩ | refine ⟨_,eqS_t (by decide +kernel),?_⟩ | refine ⟨_,eqS_f (by decide +kernel) (by decide +kernel),?_⟩ | refine ⟨_,inS_t (by decide +kernel),?_⟩ | refine ⟨_,inS_f (by decide +kernel),?_⟩)
 refine ⟨hv,?_⟩
 (repeat first | refine ⟨_,_,rfl,rfl,?_⟩ | refine ⟨_,eqI,?_⟩ | refine ⟨_,neI,?_⟩ | refine ⟨_,rfl,?_⟩ | refine ⟨rfl,?_⟩ | refine ⟨(by show _<=sizeLine;rw [sizeLine_eq];exact Nat.le_of_ble_eq_true rfl),?_⟩ | refine ⟨_,_,rfl,?_⟩ | refine ⟨_,_,_,rfl,?_⟩ | refine iteT ?_ | refine iteF ?_ | refine Or.inl ⟨rfl,?_⟩ | refine Or.inr ⟨rfl,?_⟩ | refine ⟨_,eqS_t (by decide +kernel),?_⟩ | refine ⟨_,eqS_f (by decide +kernel) (by decide +kernel),?_⟩ | refine ⟨_,inS_t (by decide +kernel),?_⟩ | refine ⟨_,inS_f (by decide +kernel),?_⟩)
 refine iteB (fun a=>?_) fun a=>?_
 ·rw [if_pos a] at q
  (repeat first | refine ⟨_,int_val a,?_⟩ | refine ⟨int_val a,?_⟩ | refine ⟨_,_,rfl,rfl,?_⟩ | refine ⟨_,eqI,?_⟩ | refine ⟨_,neI,?_⟩ | refine ⟨_,rfl,?_⟩ | refine ⟨rfl,?_⟩ | refine ⟨(by show _<=sizeLine;rw [sizeLine_eq];exact Nat.le_of_ble_eq_true rfl),?_⟩ | refine ⟨_,_,rfl,?_⟩ | refine ⟨_,_,_,rfl,?_⟩ | refine iteT ?_ | refine iteF ?_ | refine Or.inl ⟨rfl,?_⟩ | refine Or.inr ⟨rfl,?_⟩ | refine ⟨_,eqS_t (by decide +kernel),?_⟩ | refine ⟨_,eqS_f (by decide +kernel) (by decide +kernel),?_⟩ | refine ⟨_,inS_t (by decide +kernel),?_⟩ | refine ⟨_,inS_f (by decide +kernel),?_⟩)
  exact q
 ·rw [if_neg (by rw [a];exact Bool.false_ne_true)] at q
  (repeat first | refine ⟨_,_,rfl,rfl,?_⟩ | refine ⟨_,eqI,?_⟩ | refine ⟨_,neI,?_⟩ | refine ⟨_,rfl,?_⟩ | refine ⟨rfl,?_⟩ | refine ⟨(by show _<=sizeLine;rw [sizeLine_eq];exact Nat.le_of_ble_eq_true rfl),?_⟩ | refine ⟨_,_,rfl,?_⟩ | refine ⟨_,_,_,rfl,?_⟩ | refine iteT ?_ | refine iteF ?_ | refine Or.inl ⟨rfl,?_⟩ | refine Or.inr ⟨rfl,?_⟩ | refine ⟨_,eqS_t (by decide +kernel),?_⟩ | refine ⟨_,eqS_f (by decide +kernel) (by decide +kernel),?_⟩ | refine ⟨_,inS_t (by decide +kernel),?_⟩ | refine ⟨_,inS_f (by decide +kernel),?_⟩)
  exact q
end
theorem str_part {p:Nat ⊕ List Nat} (h:PartOk p):strF [partD p]=some (.o (.str (tx (partW p)))):=by
 cases p with
 | inl n=>exact str_nat h
 | inr w=>rfl
theorem part_len {p:Nat ⊕ List Nat} (h:PartOk p):(partW p).length<=100000:=by
 cases p with
 | inl n=>exact Nat.le_trans (num_short h).1 (by decide)
 | inr w=>exact h.len
section
variable {P : Program} {w : World} {K : PySem.W.Frag} {mg : Str → Option Value} {base : Heap} {k : Nat}
abbrev sShowRow:Stmt:=top 13
theorem scShowRow:FnScope ["parts"] ["parts"] (defScope sShowRow):=⟨rfl,rfl,rfl,by decide +kernel,rfl,by decide +kernel,by decide +kernel⟩
theorem d_show_row (B:Blt mg) (T:Top3 K mg "show_row" sShowRow):Def3 P w K mg base 1 "show_row" ["parts"] (spO K (fun _=>True) 1 showRowF):=by
 refine mk_O T scShowRow (fun _ _ _ _ _ _ us hl=>len1 hl fun _=>rfl) rfl fun f cdv A outer s H E O hφ C=>⟨_,(ss_one (s_ret (e_join C e_str (e_comp 1 ["part", "parts"] C (fun _ => .of rfl (by kernel_rfl)) (i_tup C (e_var 0)) (g_name 0) f_nil (e_strc (C.comp _ _) B (a_cons (e_var 0) a_nil)))))),fun ds Qr hn q=>?_⟩
 obtain ⟨ps,rfl,ok,hl,q⟩:=q
 have sz:=sizeLine_eq
 (repeat first | refine ⟨_,_,rfl,rfl,?_⟩ | refine ⟨_,eqI,?_⟩ | refine ⟨_,neI,?_⟩ | refine ⟨_,rfl,?_⟩ | refine ⟨rfl,?_⟩ | refine ⟨(by show _<=sizeLine;rw [sizeLine_eq];exact Nat.le_of_ble_eq_true rfl),?_⟩ | refine ⟨_,_,rfl,?_⟩ | refine ⟨_,_,_,rfl,?_⟩ | refine iteT ?_ | refine iteF ?_ | refine Or.inl ⟨rfl,?_⟩ | refine Or.inr ⟨rfl,?_⟩ | refine ⟨_,eqS_t (by decide +kernel),?_⟩ | refine ⟨_,eqS_f (by decide +kernel) (by decide +kernel),?_⟩ | refine ⟨_,inS_t (by decide +kernel),?_⟩ | refine ⟨_,inS_f (by decide +kernel),?_⟩)
 refine comp_of (α:=Nat ⊕ List Nat) (enc:=partD) (e:=fun p => .str (tx (partW p))) (fun p hp P hP=>?_) (by omega) ?_
 ·(repeat first | refine ⟨_,_,rfl,rfl,?_⟩ | refine ⟨_,eqI,?_⟩ | refine ⟨_,neI,?_⟩ | refine ⟨_,rfl,?_⟩ | refine ⟨rfl,?_⟩ | refine ⟨(by show _<=sizeLine;rw [sizeLine_eq];exact Nat.le_of_ble_eq_true rfl),?_⟩ | refine ⟨_,_,rfl,?_⟩ | refine ⟨_,_,_,rfl,?_⟩ | refine iteT ?_ | refine iteF ?_ | refine Or.inl ⟨rfl,?_⟩ | refine Or.inr ⟨rfl,?_⟩ | refine ⟨_,eqS_t (by decide +kernel),?_⟩ | refine ⟨_,eqS_f (by decide +kernel) (by decide +kernel),?_⟩ | refine ⟨_,inS_t (by decide +kernel),?_⟩ | refine ⟨_,inS_f (by decide +kernel),?_⟩)
  refine ⟨_,str_part (ok p hp),hP _ rfl⟩
 rw [e_blankT]
 have hb:∀ w ∈ ps.map partW,w.length<=100000:=fun w hw=>by
  obtain ⟨p,hp,rfl⟩:=List.mem_map.mp hw
  exact part_len (ok p hp)
 have ht:=tot_few hb
 rw [List.length_map] at ht
 have:=Nat.mul_le_mul_right (100000+1) hl
 obtain ⟨ys,y1,y2,y3⟩:=join_ts (c:=32) (ws:=ps.map partW) (by omega)
 rw [show tsD (ps.map partW)=ps.map fun p=>PyData.str (tx (partW p)) from List.map_map ..] at y1
 refine ⟨ys,y1,y2,?_⟩
 rw [y3]
 exact q
end
theorem flat_ps (ps:List Prt):flat (psD ps)=true:=by
 show flats (ps.map partD)=true
 exact flats_map (fun p=>by cases p <;> rfl) _
section
variable {P : Program} {w : World} {K : PySem.W.Frag} {mg : Str → Option Value} {base : Heap} {k : Nat}
abbrev sShowHouse:Stmt:=top 14
theorem scShowHouse:FnScope ["house", "rows", "rooms", "rules"] ["house"] (defScope sShowHouse):=⟨rfl,rfl,rfl,by decide +kernel,rfl,by decide +kernel,by decide +kernel⟩
theorem d_show_house (B:Blt mg) (gHEADS:Glo K mg "HEADS" (.tuple (((["letters", "lines", "flags"]:List Str)).map .str))) (d_show_row:Def3 P w K mg base 1 "show_row" ["parts"] (spO K (fun _=>True) 1 showRowF)) (T:Top3 K mg "show_house" sShowHouse):Def3 P w K mg base 2 "show_house" ["house"] (spO K (fun _=>True) 1 showHF):=by
 refine mk_O T scShowHouse (fun _ _ _ _ _ _ us hl=>len1 hl fun _=>rfl) rfl fun f cdv A outer s H E O hφ C=>⟨_,(ss_cons (s_set 1 (e_listzip C B (a_cons (e_glo C gHEADS) (a_cons (e_slice C (e_var 0) o_none (o_some e_int)) a_nil)))) (ss_cons (s_for C (j_new (i_tup C (e_idx C (e_var 0) e_int))) (g_tup (h:=1000) C (gq_cons 2 (gq_cons 3 gq_nil))) (ss_cons (s_app 1 C (e_tup (a_cons e_str (a_cons (e_var 2) a_nil)))) (ss_one (s_ext 1 C (e_comp 3 ["p", "deed", "q", "house", "rows", "rooms", "rules"] C (fun _ => .of rfl (by kernel_rfl)) (i_tup C (e_var 3)) (g_tup (C.comp _ _) (gq_cons 0 (gq_cons 1 (gq_cons 2 gq_nil)))) f_nil (e_add (C.comp _ _) (e_add (C.comp _ _) (e_tup (a_cons (e_var 0) a_nil)) (e_var 1)) (e_tup (a_cons (e_var 2) a_nil)))))))) (ss_one (s_ret (e_join C e_str (e_comp 1 ["row", "house", "rows", "rooms", "rules"] C (fun _ => .of rfl (by kernel_rfl)) (i_list C (e_var 1)) (g_name 0) f_nil (e_call (C.comp _ _) d_show_row (fun _=>trivial) (a_cons (e_var 0) a_nil)))))))),fun ds Qr hn q=>?_⟩
 obtain ⟨h,rfl,ok,hl,q⟩:=q
 have sz:=sizeLine_eq
 have pk:=house_pok ok (Nat.le_trans ls_len hl.len)
 have pl:=psH_len (h:=h)
 have hl':=hl.len
 have pre:∀ j,j<=h.hands.length->(headPs h++((h.hands.take j).map handPs).flatten).length<=(psH h).length:=fun j _=>by
  unfold psH
  rw [List.length_append,List.length_append]
  have:(h.hands.map handPs).flatten=((h.hands.take j).map handPs).flatten++((h.hands.drop j).map handPs).flatten:=by
   rw [<- List.flatten_append,<- List.map_append,List.take_append_drop]
  rw [this,List.length_append]
  omega
 (repeat first | refine ⟨_,_,rfl,rfl,?_⟩ | refine ⟨_,eqI,?_⟩ | refine ⟨_,neI,?_⟩ | refine ⟨_,rfl,?_⟩ | refine ⟨rfl,?_⟩ | refine ⟨(by show _<=sizeLine;rw [sizeLine_eq];exact Nat.le_of_ble_eq_true rfl),?_⟩ | refine ⟨_,_,rfl,?_⟩ | refine ⟨_,_,_,rfl,?_⟩ | refine iteT ?_ | refine iteF ?_ | refine Or.inl ⟨rfl,?_⟩ | refine Or.inr ⟨rfl,?_⟩ | refine ⟨_,eqS_t (by decide +kernel),?_⟩ | refine ⟨_,eqS_f (by decide +kernel) (by decide +kernel),?_⟩ | refine ⟨_,inS_t (by decide +kernel),?_⟩ | refine ⟨_,inS_f (by decide +kernel),?_⟩)
 refine forGo_rev (fun j ρ=>∃ (o2 o3:Option DV),ρ = [some (.im (encHo h)),some (.own ((headPs h++((h.hands.take j).map handPs).flatten).map psD)),o2,o3]) ⟨none,none,?_⟩ (fun ρ zz=>?_) fun j d ρ N hd hN zz=>?_
 ·show [some (DV.im (encHo h)),some (DV.own [.tuple [.str (Str.ofString "letters"),.str (tx h.ls)],.tuple [.str (Str.ofString "lines"),.int (h.lines:Nat)],.tuple [.str (Str.ofString "flags"),.int (h.flags:Nat)]]),none,none]=_
  rw [cds_eq "letters", cds_eq "lines", cds_eq "flags"]
  rfl
 ·obtain ⟨o2,o3,e⟩:=zz
  subst e
  rw [List.length_map,List.take_length]
  refine ⟨_,rfl,_,_,rfl,rfl,_,rfl,?_⟩
  refine comp_of (α:=List Prt) (enc:=psD) (e:=fun ps => .str (tx (joinL 32 (ps.map partW)))) (fun ps hp P hP=>?_) (by show (psH h).length<=_;omega) ?_
  ·(repeat first | refine ⟨_,_,rfl,rfl,?_⟩ | refine ⟨_,eqI,?_⟩ | refine ⟨_,neI,?_⟩ | refine ⟨_,rfl,?_⟩ | refine ⟨rfl,?_⟩ | refine ⟨(by show _<=sizeLine;rw [sizeLine_eq];exact Nat.le_of_ble_eq_true rfl),?_⟩ | refine ⟨_,_,rfl,?_⟩ | refine ⟨_,_,_,rfl,?_⟩ | refine iteT ?_ | refine iteF ?_ | refine Or.inl ⟨rfl,?_⟩ | refine Or.inr ⟨rfl,?_⟩ | refine ⟨_,eqS_t (by decide +kernel),?_⟩ | refine ⟨_,eqS_f (by decide +kernel) (by decide +kernel),?_⟩ | refine ⟨_,inS_t (by decide +kernel),?_⟩ | refine ⟨_,inS_f (by decide +kernel),?_⟩)
   exact ⟨(pk ps hp).1,(pk ps hp).2,hP _ rfl⟩
  rw [e_feedT]
  have el:(psH h).map (fun ps=>joinL 32 (ps.map partW))=linesH h:=by
   unfold linesH
   rw [<- rows_ps,List.map_map]
   rfl
  have tot:totW (linesH h)<=16777216:=by
   have:=joinL_tot (c:=10) (ws:=linesH h) (by unfold linesH rowsH;simp)
   have:(textH h).length+1=totW (linesH h):=this
   omega
  obtain ⟨ys,y1,y2,y3⟩:=join_ts (c:=10) (ws:=linesH h) tot
  rw [<- el,show tsD ((psH h).map fun ps=>joinL 32 (ps.map partW))=(psH h).map fun ps=>PyData.str (tx (joinL 32 (ps.map partW))) from List.map_map ..] at y1
  refine ⟨ys,y1,y2,?_⟩
  rw [y3]
  exact q
 ·obtain ⟨o2,o3,e⟩:=zz
  subst e
  rw [List.getElem?_map] at hd
  obtain ⟨x,hx,rfl⟩:=Option.map_eq_some_iff.mp hd
  obtain ⟨hj,ex⟩:=List.getElem?_eq_some_iff.mp hx
  have hxm:x ∈ h.hands:=List.mem_of_getElem? hx
  have p1:=pre j (Nat.le_of_lt hj)
  have p2:=pre (j+1) hj
  have tk:h.hands.take (j+1)=h.hands.take j ++ [x]:=by rw [List.take_succ,hx];rfl
  rw [tk,List.map_append,List.flatten_append,<- List.append_assoc] at p2
  have e2:(([x]:List Hnd).map handPs).flatten = [.inr (cds "hand"),.inl x.n]::x.rs.map rulePs:=by
   show handPs x ++ []=_
   rw [List.append_nil]
   rfl
  rw [e2,List.length_append,List.length_cons,List.length_map] at p2
  refine ⟨flat_hd x,?_⟩
  (repeat first | refine ⟨_,_,rfl,rfl,?_⟩ | refine ⟨_,eqI,?_⟩ | refine ⟨_,neI,?_⟩ | refine ⟨_,rfl,?_⟩ | refine ⟨rfl,?_⟩ | refine ⟨(by show _<=sizeLine;rw [sizeLine_eq];exact Nat.le_of_ble_eq_true rfl),?_⟩ | refine ⟨_,_,rfl,?_⟩ | refine ⟨_,_,_,rfl,?_⟩ | refine iteT ?_ | refine iteF ?_ | refine Or.inl ⟨rfl,?_⟩ | refine Or.inr ⟨rfl,?_⟩ | refine ⟨_,eqS_t (by decide +kernel),?_⟩ | refine ⟨_,eqS_f (by decide +kernel) (by decide +kernel),?_⟩ | refine ⟨_,inS_t (by decide +kernel),?_⟩ | refine ⟨_,inS_f (by decide +kernel),?_⟩)
  refine ⟨by rw [List.length_map];omega,?_⟩
  (repeat first | refine ⟨_,_,rfl,rfl,?_⟩ | refine ⟨_,eqI,?_⟩ | refine ⟨_,neI,?_⟩ | refine ⟨_,rfl,?_⟩ | refine ⟨rfl,?_⟩ | refine ⟨(by show _<=sizeLine;rw [sizeLine_eq];exact Nat.le_of_ble_eq_true rfl),?_⟩ | refine ⟨_,_,rfl,?_⟩ | refine ⟨_,_,_,rfl,?_⟩ | refine iteT ?_ | refine iteF ?_ | refine Or.inl ⟨rfl,?_⟩ | refine Or.inr ⟨rfl,?_⟩ | refine ⟨_,eqS_t (by decide +kernel),?_⟩ | refine ⟨_,eqS_f (by decide +kernel) (by decide +kernel),?_⟩ | refine ⟨_,inS_t (by decide +kernel),?_⟩ | refine ⟨_,inS_f (by decide +kernel),?_⟩)
  refine comp_ofG (α:=Rul) (as:=x.rs) (enc:=encRu) (e:=fun r=>psD (rulePs r)) (fun r hr P hP=>?_) gT_mono (by omega) ?_
  ·(repeat first | refine ⟨_,(ru_ps r).1,?_⟩ | refine ⟨(ru_ps r).1,?_⟩ | refine ⟨_,(ru_ps r).2,?_⟩ | refine ⟨(ru_ps r).2,?_⟩ | refine ⟨_,_,rfl,rfl,?_⟩ | refine ⟨_,eqI,?_⟩ | refine ⟨_,neI,?_⟩ | refine ⟨_,rfl,?_⟩ | refine ⟨rfl,?_⟩ | refine ⟨(by show _<=sizeLine;rw [sizeLine_eq];exact Nat.le_of_ble_eq_true rfl),?_⟩ | refine ⟨_,_,rfl,?_⟩ | refine ⟨_,_,_,rfl,?_⟩ | refine iteT ?_ | refine iteF ?_ | refine Or.inl ⟨rfl,?_⟩ | refine Or.inr ⟨rfl,?_⟩ | refine ⟨_,eqS_t (by decide +kernel),?_⟩ | refine ⟨_,eqS_f (by decide +kernel) (by decide +kernel),?_⟩ | refine ⟨_,inS_t (by decide +kernel),?_⟩ | refine ⟨_,inS_f (by decide +kernel),?_⟩)
   exact hP _ rfl
  have fin:(headPs h++((h.hands.take j).map handPs).flatten).map psD ++ [PyData.tuple [.str (Str.ofString "hand"),.int (x.n:Nat)]]++x.rs.map (fun r=>psD (rulePs r))=(headPs h++((h.hands.take (j+1)).map handPs).flatten).map psD:=by
   rw [tk,List.map_append (f:=handPs),List.flatten_append,<- List.append_assoc,e2,List.map_append (f:=psD) (l₁:=headPs h++((h.hands.take j).map handPs).flatten),List.map_cons,List.map_map,List.append_assoc _ [PyData.tuple _],cds_eq "hand"]
   rfl
  refine ⟨_,rfl,flats_map (fun r=>flat_ps _) _,?_,hN _ ⟨some (.im (.int (x.n:Nat))),some (.im (.tuple (x.rs.map encRu))),?_⟩⟩
  ·rw [List.length_append,List.length_map,List.length_map]
   show _+1+_<=_
   omega
  ·rw [<- fin]
   rfl
end
theorem head_idx {i:Nat} (h:i<3):idxF (.tuple ((["letters", "lines", "flags"]:List Str).map .str)) (.int (i:Nat))=some (.o (.str (tx (headW i)))):=by
 match i,h with
 | 0,_=>exact (by decide +kernel:Str.ofString "letters" = tx (headW 0)) ▸ rfl
 | 1,_=>exact (by decide +kernel:Str.ofString "lines" = tx (headW 1)) ▸ rfl
 | 2,_=>exact (by decide +kernel:Str.ofString "flags" = tx (headW 2)) ▸ rfl
theorem head_lng {i:Nat} (h:i<3):Lng (headW i):=by
 match i,h with
 | 0,_=>exact lng_of (by decide +kernel)
 | 1,_=>exact lng_of (by decide +kernel)
 | 2,_=>exact lng_of (by decide +kernel)
theorem e_emptyH:Str.ofString "" = tx []:=by decide +kernel
theorem lng_nil:Lng []:=⟨by decide,fun c h=>(List.not_mem_nil h).elim⟩
section
variable {P : Program} {w : World} {K : PySem.W.Frag} {mg : Str → Option Value} {base : Heap} {k : Nat}
abbrev sIsHead:Stmt:=top 15
theorem scIsHead:FnScope ["words", "at"] ["words", "at"] (defScope sIsHead):=⟨rfl,rfl,rfl,by decide +kernel,rfl,by decide +kernel,by decide +kernel⟩
theorem d_is_head (B:Blt mg) (gHEADS:Glo K mg "HEADS" (.tuple (((["letters", "lines", "flags"]:List Str)).map .str))) (d_is_alphabet:Def3 P w K mg base 2 "is_alphabet" ["text"] (spO K (fun _=>True) 1 alphLF)) (d_is_number:Def3 P w K mg base 1 "is_number" ["word"] (spO K (fun _=>True) 1 numberTF)) (T:Top3 K mg "is_head" sIsHead):Def3 P w K mg base 3 "is_head" ["words", "at"] (spO K (fun _=>True) 2 headHF):=by
 refine mk_O T scIsHead (fun _ _ _ _ _ _ us hl=>len2 hl fun _ _=>rfl) rfl fun f cdv A outer s H E O hφ C=>⟨_,(ss_cons (s_if (t_w (w_or (t_ne C (e_len C B (a_cons (e_var 0) a_nil)) e_int) (w_or1 (t_ne C (e_idx C (e_var 0) e_int) (e_idx C (e_glo C gHEADS) (e_var 1)))))) (ss_one (s_ret e_bl)) ss_nil) (ss_cons (s_if (t_eq C (e_var 1) e_int) (ss_one (s_ret (e_and (e_ne C (e_idx C (e_var 0) e_int) e_str) (e_one (e_call C d_is_alphabet (fun _=>trivial) (a_cons (e_idx C (e_var 0) e_int) a_nil)))))) ss_nil) (ss_one (s_ret (e_call C d_is_number (fun _=>trivial) (a_cons (e_idx C (e_var 0) e_int) a_nil)))))),fun ds Qr hn q=>?_⟩
 obtain ⟨ws,i,rfl,⟨h0,hl,hw⟩,hi,q⟩:=q
 unfold headOkB at q
 (repeat first | refine ⟨_,len_ts ws,?_⟩ | refine ⟨len_ts ws,?_⟩ | refine ⟨_,_,rfl,rfl,?_⟩ | refine ⟨_,eqI,?_⟩ | refine ⟨_,neI,?_⟩ | refine ⟨_,rfl,?_⟩ | refine ⟨rfl,?_⟩ | refine ⟨(by show _<=sizeLine;rw [sizeLine_eq];exact Nat.le_of_ble_eq_true rfl),?_⟩ | refine ⟨_,_,rfl,?_⟩ | refine ⟨_,_,_,rfl,?_⟩ | refine iteT ?_ | refine iteF ?_ | refine Or.inl ⟨rfl,?_⟩ | refine Or.inr ⟨rfl,?_⟩ | refine ⟨_,eqS_t (by decide +kernel),?_⟩ | refine ⟨_,eqS_f (by decide +kernel) (by decide +kernel),?_⟩ | refine ⟨_,inS_t (by decide +kernel),?_⟩ | refine ⟨_,inS_f (by decide +kernel),?_⟩)
 rw [show (!decide ((ws.length:Int)=2)) = !decide (ws.length=2) from congrArg _ (decide_eq_decide.mpr ⟨fun h=>by omega,fun h=>by omega⟩)]
 refine iteB (fun a1=>?_) fun a1=>?_
 ·rw [not_t a1] at q
  (repeat first | refine ⟨_,_,rfl,rfl,?_⟩ | refine ⟨_,eqI,?_⟩ | refine ⟨_,neI,?_⟩ | refine ⟨_,rfl,?_⟩ | refine ⟨rfl,?_⟩ | refine ⟨(by show _<=sizeLine;rw [sizeLine_eq];exact Nat.le_of_ble_eq_true rfl),?_⟩ | refine ⟨_,_,rfl,?_⟩ | refine ⟨_,_,_,rfl,?_⟩ | refine iteT ?_ | refine iteF ?_ | refine Or.inl ⟨rfl,?_⟩ | refine Or.inr ⟨rfl,?_⟩ | refine ⟨_,eqS_t (by decide +kernel),?_⟩ | refine ⟨_,eqS_f (by decide +kernel) (by decide +kernel),?_⟩ | refine ⟨_,inS_t (by decide +kernel),?_⟩ | refine ⟨_,inS_f (by decide +kernel),?_⟩)
  exact q
 rw [not_f a1,Bool.true_and] at q
 have l2:=of_decide_eq_true (not_f a1)
 (repeat first | refine ⟨_,idx_ts (i:=0) h0,?_⟩ | refine ⟨idx_ts (i:=0) h0,?_⟩ | refine ⟨_,head_idx hi,?_⟩ | refine ⟨head_idx hi,?_⟩ | refine ⟨_,eq_tx (getD_lng hw 0) (head_lng hi),?_⟩ | refine ⟨eq_tx (getD_lng hw 0) (head_lng hi),?_⟩ | refine ⟨_,_,rfl,rfl,?_⟩ | refine ⟨_,eqI,?_⟩ | refine ⟨_,neI,?_⟩ | refine ⟨_,rfl,?_⟩ | refine ⟨rfl,?_⟩ | refine ⟨(by show _<=sizeLine;rw [sizeLine_eq];exact Nat.le_of_ble_eq_true rfl),?_⟩ | refine ⟨_,_,rfl,?_⟩ | refine ⟨_,_,_,rfl,?_⟩ | refine iteT ?_ | refine iteF ?_ | refine Or.inl ⟨rfl,?_⟩ | refine Or.inr ⟨rfl,?_⟩ | refine ⟨_,eqS_t (by decide +kernel),?_⟩ | refine ⟨_,eqS_f (by decide +kernel) (by decide +kernel),?_⟩ | refine ⟨_,inS_t (by decide +kernel),?_⟩ | refine ⟨_,inS_f (by decide +kernel),?_⟩)
 rw [if_pos rfl]
 refine iteB (fun a2=>?_) fun a2=>?_
 ·rw [not_t a2] at q
  (repeat first | refine ⟨_,_,rfl,rfl,?_⟩ | refine ⟨_,eqI,?_⟩ | refine ⟨_,neI,?_⟩ | refine ⟨_,rfl,?_⟩ | refine ⟨rfl,?_⟩ | refine ⟨(by show _<=sizeLine;rw [sizeLine_eq];exact Nat.le_of_ble_eq_true rfl),?_⟩ | refine ⟨_,_,rfl,?_⟩ | refine ⟨_,_,_,rfl,?_⟩ | refine iteT ?_ | refine iteF ?_ | refine Or.inl ⟨rfl,?_⟩ | refine Or.inr ⟨rfl,?_⟩ | refine ⟨_,eqS_t (by decide +kernel),?_⟩ | refine ⟨_,eqS_f (by decide +kernel) (by decide +kernel),?_⟩ | refine ⟨_,inS_t (by decide +kernel),?_⟩ | refine ⟨_,inS_f (by decide +kernel),?_⟩)
  exact q
 rw [not_f a2,Bool.true_and] at q
 (repeat first | refine ⟨_,_,rfl,rfl,?_⟩ | refine ⟨_,eqI,?_⟩ | refine ⟨_,neI,?_⟩ | refine ⟨_,rfl,?_⟩ | refine ⟨rfl,?_⟩ | refine ⟨(by show _<=sizeLine;rw [sizeLine_eq];exact Nat.le_of_ble_eq_true rfl),?_⟩ | refine ⟨_,_,rfl,?_⟩ | refine ⟨_,_,_,rfl,?_⟩ | refine iteT ?_ | refine iteF ?_ | refine Or.inl ⟨rfl,?_⟩ | refine Or.inr ⟨rfl,?_⟩ | refine ⟨_,eqS_t (by decide +kernel),?_⟩ | refine ⟨_,eqS_f (by decide +kernel) (by decide +kernel),?_⟩ | refine ⟨_,inS_t (by decide +kernel),?_⟩ | refine ⟨_,inS_f (by decide +kernel),?_⟩)
 rw [show decide ((i:Int)=0)=decide (i=0) from decide_eq_decide.mpr ⟨fun h=>by omega,fun h=>by omega⟩]
 refine iteB (fun a3=>?_) fun a3=>?_
 ·rw [if_pos (of_decide_eq_true a3)] at q
  (repeat first | refine ⟨_,idx_ts (i:=1) (show 1<ws.length by omega),?_⟩ | refine ⟨idx_ts (i:=1) (show 1<ws.length by omega),?_⟩ | refine ⟨_,eq_lit e_emptyH (getD_lng hw 1) lng_nil,?_⟩ | refine ⟨eq_lit e_emptyH (getD_lng hw 1) lng_nil,?_⟩ | refine ⟨_,_,rfl,rfl,?_⟩ | refine ⟨_,eqI,?_⟩ | refine ⟨_,neI,?_⟩ | refine ⟨_,rfl,?_⟩ | refine ⟨rfl,?_⟩ | refine ⟨(by show _<=sizeLine;rw [sizeLine_eq];exact Nat.le_of_ble_eq_true rfl),?_⟩ | refine ⟨_,_,rfl,?_⟩ | refine ⟨_,_,_,rfl,?_⟩ | refine iteT ?_ | refine iteF ?_ | refine Or.inl ⟨rfl,?_⟩ | refine Or.inr ⟨rfl,?_⟩ | refine ⟨_,eqS_t (by decide +kernel),?_⟩ | refine ⟨_,eqS_f (by decide +kernel) (by decide +kernel),?_⟩ | refine ⟨_,inS_t (by decide +kernel),?_⟩ | refine ⟨_,inS_f (by decide +kernel),?_⟩)
  rw [if_pos rfl]
  refine iteB (fun a4=>?_) fun a4=>?_
  ·rw [a4,Bool.true_and] at q
   (repeat first | refine ⟨_,idx_ts (i:=1) (show 1<ws.length by omega),?_⟩ | refine ⟨idx_ts (i:=1) (show 1<ws.length by omega),?_⟩ | refine ⟨_,_,rfl,rfl,?_⟩ | refine ⟨_,eqI,?_⟩ | refine ⟨_,neI,?_⟩ | refine ⟨_,rfl,?_⟩ | refine ⟨rfl,?_⟩ | refine ⟨(by show _<=sizeLine;rw [sizeLine_eq];exact Nat.le_of_ble_eq_true rfl),?_⟩ | refine ⟨_,_,rfl,?_⟩ | refine ⟨_,_,_,rfl,?_⟩ | refine iteT ?_ | refine iteF ?_ | refine Or.inl ⟨rfl,?_⟩ | refine Or.inr ⟨rfl,?_⟩ | refine ⟨_,eqS_t (by decide +kernel),?_⟩ | refine ⟨_,eqS_f (by decide +kernel) (by decide +kernel),?_⟩ | refine ⟨_,inS_t (by decide +kernel),?_⟩ | refine ⟨_,inS_f (by decide +kernel),?_⟩)
   exact ⟨getD_lng hw 1,q⟩
  ·rw [a4] at q
   exact q
 ·rw [if_neg (of_decide_eq_false a3)] at q
  (repeat first | refine ⟨_,idx_ts (i:=1) (show 1<ws.length by omega),?_⟩ | refine ⟨idx_ts (i:=1) (show 1<ws.length by omega),?_⟩ | refine ⟨_,_,rfl,rfl,?_⟩ | refine ⟨_,eqI,?_⟩ | refine ⟨_,neI,?_⟩ | refine ⟨_,rfl,?_⟩ | refine ⟨rfl,?_⟩ | refine ⟨(by show _<=sizeLine;rw [sizeLine_eq];exact Nat.le_of_ble_eq_true rfl),?_⟩ | refine ⟨_,_,rfl,?_⟩ | refine ⟨_,_,_,rfl,?_⟩ | refine iteT ?_ | refine iteF ?_ | refine Or.inl ⟨rfl,?_⟩ | refine Or.inr ⟨rfl,?_⟩ | refine ⟨_,eqS_t (by decide +kernel),?_⟩ | refine ⟨_,eqS_f (by decide +kernel) (by decide +kernel),?_⟩ | refine ⟨_,inS_t (by decide +kernel),?_⟩ | refine ⟨_,inS_f (by decide +kernel),?_⟩)
  exact ⟨getD_lng hw 1,q⟩
end
theorem e_handH:Str.ofString "hand" = tx (cds "hand"):=cds_eq _
theorem lng_handH:Lng (cds "hand"):=lng_of (by decide +kernel)
section
variable {P : Program} {w : World} {K : PySem.W.Frag} {mg : Str → Option Value} {base : Heap} {k : Nat}
abbrev sIsHand:Stmt:=top 16
theorem scIsHand:FnScope ["words"] ["words"] (defScope sIsHand):=⟨rfl,rfl,rfl,by decide +kernel,rfl,by decide +kernel,by decide +kernel⟩
theorem d_is_hand (B:Blt mg) (d_is_number:Def3 P w K mg base 1 "is_number" ["word"] (spO K (fun _=>True) 1 numberTF)) (T:Top3 K mg "is_hand" sIsHand):Def3 P w K mg base 2 "is_hand" ["words"] (spO K (fun _=>True) 1 handHF):=by
 refine mk_O T scIsHand (fun _ _ _ _ _ _ us hl=>len1 hl fun _=>rfl) rfl fun f cdv A outer s H E O hφ C=>⟨_,(ss_one (s_ret (e_and (e_eq C (e_len C B (a_cons (e_var 0) a_nil)) e_int) (e_and (e_eq C (e_idx C (e_var 0) e_int) e_str) (e_one (e_call C d_is_number (fun _=>trivial) (a_cons (e_idx C (e_var 0) e_int) a_nil))))))),fun ds Qr hn q=>?_⟩
 obtain ⟨ws,rfl,⟨h0,hl,hw⟩,q⟩:=q
 unfold isHandB at q
 (repeat first | refine ⟨_,len_ts ws,?_⟩ | refine ⟨len_ts ws,?_⟩ | refine ⟨_,_,rfl,rfl,?_⟩ | refine ⟨_,eqI,?_⟩ | refine ⟨_,neI,?_⟩ | refine ⟨_,rfl,?_⟩ | refine ⟨rfl,?_⟩ | refine ⟨(by show _<=sizeLine;rw [sizeLine_eq];exact Nat.le_of_ble_eq_true rfl),?_⟩ | refine ⟨_,_,rfl,?_⟩ | refine ⟨_,_,_,rfl,?_⟩ | refine iteT ?_ | refine iteF ?_ | refine Or.inl ⟨rfl,?_⟩ | refine Or.inr ⟨rfl,?_⟩ | refine ⟨_,eqS_t (by decide +kernel),?_⟩ | refine ⟨_,eqS_f (by decide +kernel) (by decide +kernel),?_⟩ | refine ⟨_,inS_t (by decide +kernel),?_⟩ | refine ⟨_,inS_f (by decide +kernel),?_⟩)
 rw [show decide ((ws.length:Int)=2)=decide (ws.length=2) from decide_eq_decide.mpr ⟨fun h=>by omega,fun h=>by omega⟩]
 refine iteB (fun a1=>?_) fun a1=>?_
 rotate_left
 ·rw [a1] at q
  exact q
 rw [a1,Bool.true_and] at q
 have l2:=of_decide_eq_true a1
 (repeat first | refine ⟨_,idx_ts (i:=0) h0,?_⟩ | refine ⟨idx_ts (i:=0) h0,?_⟩ | refine ⟨_,eq_lit e_handH (getD_lng hw 0) lng_handH,?_⟩ | refine ⟨eq_lit e_handH (getD_lng hw 0) lng_handH,?_⟩ | refine ⟨_,_,rfl,rfl,?_⟩ | refine ⟨_,eqI,?_⟩ | refine ⟨_,neI,?_⟩ | refine ⟨_,rfl,?_⟩ | refine ⟨rfl,?_⟩ | refine ⟨(by show _<=sizeLine;rw [sizeLine_eq];exact Nat.le_of_ble_eq_true rfl),?_⟩ | refine ⟨_,_,rfl,?_⟩ | refine ⟨_,_,_,rfl,?_⟩ | refine iteT ?_ | refine iteF ?_ | refine Or.inl ⟨rfl,?_⟩ | refine Or.inr ⟨rfl,?_⟩ | refine ⟨_,eqS_t (by decide +kernel),?_⟩ | refine ⟨_,eqS_f (by decide +kernel) (by decide +kernel),?_⟩ | refine ⟨_,inS_t (by decide +kernel),?_⟩ | refine ⟨_,inS_f (by decide +kernel),?_⟩)
 rw [if_neg Bool.false_ne_true]
 refine iteB (fun a2=>?_) fun a2=>?_
 rotate_left
 ·rw [a2] at q
  exact q
 rw [a2,Bool.true_and] at q
 (repeat first | refine ⟨_,idx_ts (i:=1) (show 1<ws.length by omega),?_⟩ | refine ⟨idx_ts (i:=1) (show 1<ws.length by omega),?_⟩ | refine ⟨_,_,rfl,rfl,?_⟩ | refine ⟨_,eqI,?_⟩ | refine ⟨_,neI,?_⟩ | refine ⟨_,rfl,?_⟩ | refine ⟨rfl,?_⟩ | refine ⟨(by show _<=sizeLine;rw [sizeLine_eq];exact Nat.le_of_ble_eq_true rfl),?_⟩ | refine ⟨_,_,rfl,?_⟩ | refine ⟨_,_,_,rfl,?_⟩ | refine iteT ?_ | refine iteF ?_ | refine Or.inl ⟨rfl,?_⟩ | refine Or.inr ⟨rfl,?_⟩ | refine ⟨_,eqS_t (by decide +kernel),?_⟩ | refine ⟨_,eqS_f (by decide +kernel) (by decide +kernel),?_⟩ | refine ⟨_,inS_t (by decide +kernel),?_⟩ | refine ⟨_,inS_f (by decide +kernel),?_⟩)
 exact ⟨getD_lng hw 1,q⟩
end
theorem tx_eqS {w:List Nat} {s:String}:(tx w == (Str.ofString s))=decide (w=cds s):=by
 rw [cds_eq s]
 by_cases h:w=cds s
 ·subst h;rw [beq_self_eq_true,decide_eq_true rfl]
 ·rw [decide_eq_false h]
  exact beq_eq_false_iff_ne.mpr fun z=>h (tx_inj z)
theorem shp_lk (w:List Nat):([("go", "0"),("send", "0a0"),("take", "0a0"),("empty", "00"),("set", "000"),("if", "000")]:List (Str × Str)).lookup (tx w)=(shapeW w).map tx:=by
 unfold shapeW
 have step:∀ (s:String) (v:Str) (l:List (Str × Str)),((Str.ofString s,v)::l).lookup (tx w)=if w=cds s then some v else l.lookup (tx w):=by
  intro s v l
  rw [List.lookup,tx_eqS]
  by_cases h:w=cds s
  ·rw [if_pos h,decide_eq_true h]
  ·rw [if_neg h,decide_eq_false h]
 rw [step,step,step,step,step,step]
 have e1:(Str.ofString "0")=tx [48]:=by decide +kernel
 have e2:(Str.ofString "0a0")=tx [48,97,48]:=by decide +kernel
 have e3:(Str.ofString "00")=tx [48,48]:=by decide +kernel
 have e4:(Str.ofString "000")=tx [48,48,48]:=by decide +kernel
 rw [e1,e2,e3,e4]
 split
 ·rfl
 split
 ·rfl
 split
 ·rfl
 split
 ·rfl
 split
 ·rfl
 split
 ·rfl
 ·rfl
theorem shape_eq (w:List Nat):(if isNumB w=true then Str.ofString "0" else if (decide (w.length=1) && lowB w)=true then Str.ofString "a" else Str.ofString "?")=tx [shC w]:=by
 unfold shC
 split
 ·decide +kernel
 ·split
  ·decide +kernel
  ·decide +kernel
theorem flat_ones (ws:List (List Nat)):(ws.map fun w => [shC w]).flatten=ws.map shC:=by
 induction ws with
 | nil=>rfl
 | cons w ws ih=>rw [List.map_cons,List.flatten_cons,ih];rfl
theorem shC_lt (w:List Nat):shC w<128:=by
 unfold shC
 split
 ·decide
 ·split <;> decide
theorem shape_some {w s:List Nat} (h:shapeW w=some s):s.length<=3/\Lng s:=by
 unfold shapeW at h
 split at h
 ·cases h;exact ⟨by decide,lng_of (by decide +kernel)⟩
 split at h
 ·cases h;exact ⟨by decide,lng_of (by decide +kernel)⟩
 split at h
 ·cases h;exact ⟨by decide,lng_of (by decide +kernel)⟩
 split at h
 ·cases h;exact ⟨by decide,lng_of (by decide +kernel)⟩
 split at h
 ·cases h;exact ⟨by decide,lng_of (by decide +kernel)⟩
 split at h
 ·cases h;exact ⟨by decide,lng_of (by decide +kernel)⟩
 ·cases h
section
variable {P : Program} {w : World} {K : PySem.W.Frag} {mg : Str → Option Value} {base : Heap} {k : Nat}
abbrev sIsRowOfRule:Stmt:=top 17
theorem scIsRowOfRule:FnScope ["words"] ["words"] (defScope sIsRowOfRule):=⟨rfl,rfl,rfl,by decide +kernel,rfl,by decide +kernel,by decide +kernel⟩
theorem d_is_row_of_rule (B:Blt mg) (gSHAPES:GDct K w mg "SHAPES" [("go", "0"),("send", "0a0"),("take", "0a0"),("empty", "00"),("set", "000"),("if", "000")]) (d_is_number:Def3 P w K mg base 1 "is_number" ["word"] (spO K (fun _=>True) 1 numberTF)) (d_shape_of:Def3 P w K mg base 3 "shape_of" ["word"] (spO K (fun _=>True) 1 shapeTF)) (T:Top3 K mg "is_row_of_rule" sIsRowOfRule):Def3 P w K mg base 4 "is_row_of_rule" ["words"] (spO K (fun _=>True) 1 rowHF):=by
 refine mk_O T scIsRowOfRule (fun _ _ _ _ _ _ us hl=>len1 hl fun _=>rfl) rfl fun f cdv A outer s H E O hφ C=>⟨_,(ss_cons (s_if (t_w (w_or (t_lt (e_len C B (a_cons (e_var 0) a_nil)) e_int) (w_or (t_not (t_val (e_call C d_is_number (fun _=>trivial) (a_cons (e_idx C (e_var 0) e_int) a_nil)))) (w_or1 (t_gnot C gSHAPES (e_idx C (e_var 0) e_int)))))) (ss_one (s_ret e_bl)) ss_nil) (ss_one (s_ret (e_eq C (e_join C e_str (e_comp 1 ["word", "words"] C (fun _ => .of rfl (by kernel_rfl)) (i_list C (e_slice C (e_var 0) (o_some e_int) o_none)) (g_name 0) f_nil (e_call (C.comp _ _) d_shape_of (fun _=>trivial) (a_cons (e_var 0) a_nil)))) (e_gget C gSHAPES (e_idx C (e_var 0) e_int)))))),fun ds Qr hn q=>?_⟩
 obtain ⟨ws,rfl,⟨h0,hl,hw⟩,q⟩:=q
 have sz:=sizeLine_eq
 unfold rowRB at q
 (repeat first | refine ⟨_,len_ts ws,?_⟩ | refine ⟨len_ts ws,?_⟩ | refine ⟨_,_,rfl,rfl,?_⟩ | refine ⟨_,eqI,?_⟩ | refine ⟨_,neI,?_⟩ | refine ⟨_,rfl,?_⟩ | refine ⟨rfl,?_⟩ | refine ⟨(by show _<=sizeLine;rw [sizeLine_eq];exact Nat.le_of_ble_eq_true rfl),?_⟩ | refine ⟨_,_,rfl,?_⟩ | refine ⟨_,_,_,rfl,?_⟩ | refine iteT ?_ | refine iteF ?_ | refine Or.inl ⟨rfl,?_⟩ | refine Or.inr ⟨rfl,?_⟩ | refine ⟨_,eqS_t (by decide +kernel),?_⟩ | refine ⟨_,eqS_f (by decide +kernel) (by decide +kernel),?_⟩ | refine ⟨_,inS_t (by decide +kernel),?_⟩ | refine ⟨_,inS_f (by decide +kernel),?_⟩)
 refine iteB (fun a1=>?_) fun a1=>?_
 ·rw [show decide (2<=ws.length)=false from decide_eq_false (by have:=of_decide_eq_true a1;omega)] at q
  (repeat first | refine ⟨_,_,rfl,rfl,?_⟩ | refine ⟨_,eqI,?_⟩ | refine ⟨_,neI,?_⟩ | refine ⟨_,rfl,?_⟩ | refine ⟨rfl,?_⟩ | refine ⟨(by show _<=sizeLine;rw [sizeLine_eq];exact Nat.le_of_ble_eq_true rfl),?_⟩ | refine ⟨_,_,rfl,?_⟩ | refine ⟨_,_,_,rfl,?_⟩ | refine iteT ?_ | refine iteF ?_ | refine Or.inl ⟨rfl,?_⟩ | refine Or.inr ⟨rfl,?_⟩ | refine ⟨_,eqS_t (by decide +kernel),?_⟩ | refine ⟨_,eqS_f (by decide +kernel) (by decide +kernel),?_⟩ | refine ⟨_,inS_t (by decide +kernel),?_⟩ | refine ⟨_,inS_f (by decide +kernel),?_⟩)
  exact q
 have l2:2<=ws.length:=by have:=of_decide_eq_false a1;omega
 rw [decide_eq_true l2,Bool.true_and] at q
 (repeat first | refine ⟨_,idx_ts (i:=0) h0,?_⟩ | refine ⟨idx_ts (i:=0) h0,?_⟩ | refine ⟨_,_,rfl,rfl,?_⟩ | refine ⟨_,eqI,?_⟩ | refine ⟨_,neI,?_⟩ | refine ⟨_,rfl,?_⟩ | refine ⟨rfl,?_⟩ | refine ⟨(by show _<=sizeLine;rw [sizeLine_eq];exact Nat.le_of_ble_eq_true rfl),?_⟩ | refine ⟨_,_,rfl,?_⟩ | refine ⟨_,_,_,rfl,?_⟩ | refine iteT ?_ | refine iteF ?_ | refine Or.inl ⟨rfl,?_⟩ | refine Or.inr ⟨rfl,?_⟩ | refine ⟨_,eqS_t (by decide +kernel),?_⟩ | refine ⟨_,eqS_f (by decide +kernel) (by decide +kernel),?_⟩ | refine ⟨_,inS_t (by decide +kernel),?_⟩ | refine ⟨_,inS_f (by decide +kernel),?_⟩)
 refine ⟨getD_lng hw 0,?_⟩
 (repeat first | refine ⟨_,_,rfl,rfl,?_⟩ | refine ⟨_,eqI,?_⟩ | refine ⟨_,neI,?_⟩ | refine ⟨_,rfl,?_⟩ | refine ⟨rfl,?_⟩ | refine ⟨(by show _<=sizeLine;rw [sizeLine_eq];exact Nat.le_of_ble_eq_true rfl),?_⟩ | refine ⟨_,_,rfl,?_⟩ | refine ⟨_,_,_,rfl,?_⟩ | refine iteT ?_ | refine iteF ?_ | refine Or.inl ⟨rfl,?_⟩ | refine Or.inr ⟨rfl,?_⟩ | refine ⟨_,eqS_t (by decide +kernel),?_⟩ | refine ⟨_,eqS_f (by decide +kernel) (by decide +kernel),?_⟩ | refine ⟨_,inS_t (by decide +kernel),?_⟩ | refine ⟨_,inS_f (by decide +kernel),?_⟩)
 refine iteB (fun a2=>?_) fun a2=>?_
 ·rw [not_t a2] at q
  (repeat first | refine ⟨_,_,rfl,rfl,?_⟩ | refine ⟨_,eqI,?_⟩ | refine ⟨_,neI,?_⟩ | refine ⟨_,rfl,?_⟩ | refine ⟨rfl,?_⟩ | refine ⟨(by show _<=sizeLine;rw [sizeLine_eq];exact Nat.le_of_ble_eq_true rfl),?_⟩ | refine ⟨_,_,rfl,?_⟩ | refine ⟨_,_,_,rfl,?_⟩ | refine iteT ?_ | refine iteF ?_ | refine Or.inl ⟨rfl,?_⟩ | refine Or.inr ⟨rfl,?_⟩ | refine ⟨_,eqS_t (by decide +kernel),?_⟩ | refine ⟨_,eqS_f (by decide +kernel) (by decide +kernel),?_⟩ | refine ⟨_,inS_t (by decide +kernel),?_⟩ | refine ⟨_,inS_f (by decide +kernel),?_⟩)
  exact q
 rw [not_f a2,Bool.true_and] at q
 (repeat first | refine ⟨_,idx_ts (i:=1) (show 1<ws.length by omega),?_⟩ | refine ⟨idx_ts (i:=1) (show 1<ws.length by omega),?_⟩ | refine ⟨_,_,rfl,rfl,?_⟩ | refine ⟨_,eqI,?_⟩ | refine ⟨_,neI,?_⟩ | refine ⟨_,rfl,?_⟩ | refine ⟨rfl,?_⟩ | refine ⟨(by show _<=sizeLine;rw [sizeLine_eq];exact Nat.le_of_ble_eq_true rfl),?_⟩ | refine ⟨_,_,rfl,?_⟩ | refine ⟨_,_,_,rfl,?_⟩ | refine iteT ?_ | refine iteF ?_ | refine Or.inl ⟨rfl,?_⟩ | refine Or.inr ⟨rfl,?_⟩ | refine ⟨_,eqS_t (by decide +kernel),?_⟩ | refine ⟨_,eqS_f (by decide +kernel) (by decide +kernel),?_⟩ | refine ⟨_,inS_t (by decide +kernel),?_⟩ | refine ⟨_,inS_f (by decide +kernel),?_⟩)
 rw [shp_lk,Option.isSome_map]
 refine iteB (fun a3=>?_) fun a3=>?_
 ·have hn:shapeW (ws.getD 1 [])=none:=by
   cases h:shapeW (ws.getD 1 []) with
   | none=>rfl
   | some s=>rw [h] at a3;cases a3
  rw [hn,show decide ((none:Option (List Nat))=some ((ws.drop 2).map shC))=false from decide_eq_false (fun z=>by cases z)] at q
  (repeat first | refine ⟨_,_,rfl,rfl,?_⟩ | refine ⟨_,eqI,?_⟩ | refine ⟨_,neI,?_⟩ | refine ⟨_,rfl,?_⟩ | refine ⟨rfl,?_⟩ | refine ⟨(by show _<=sizeLine;rw [sizeLine_eq];exact Nat.le_of_ble_eq_true rfl),?_⟩ | refine ⟨_,_,rfl,?_⟩ | refine ⟨_,_,_,rfl,?_⟩ | refine iteT ?_ | refine iteF ?_ | refine Or.inl ⟨rfl,?_⟩ | refine Or.inr ⟨rfl,?_⟩ | refine ⟨_,eqS_t (by decide +kernel),?_⟩ | refine ⟨_,eqS_f (by decide +kernel) (by decide +kernel),?_⟩ | refine ⟨_,inS_t (by decide +kernel),?_⟩ | refine ⟨_,inS_f (by decide +kernel),?_⟩)
  exact q
 obtain ⟨s,hs⟩:∃ s,shapeW (ws.getD 1 [])=some s:=by
  cases h:shapeW (ws.getD 1 []) with
  | none=>rw [h] at a3;cases a3
  | some s=>exact ⟨s,rfl⟩
 obtain ⟨hs1,hs2⟩:=shape_some hs
 have hd:∀ w ∈ ws.drop 2,Lng w:=fun w h=>hw w (List.mem_of_mem_drop h)
 (repeat first | refine ⟨_,cut2 ws,?_⟩ | refine ⟨cut2 ws,?_⟩ | refine ⟨_,_,rfl,rfl,?_⟩ | refine ⟨_,eqI,?_⟩ | refine ⟨_,neI,?_⟩ | refine ⟨_,rfl,?_⟩ | refine ⟨rfl,?_⟩ | refine ⟨(by show _<=sizeLine;rw [sizeLine_eq];exact Nat.le_of_ble_eq_true rfl),?_⟩ | refine ⟨_,_,rfl,?_⟩ | refine ⟨_,_,_,rfl,?_⟩ | refine iteT ?_ | refine iteF ?_ | refine Or.inl ⟨rfl,?_⟩ | refine Or.inr ⟨rfl,?_⟩ | refine ⟨_,eqS_t (by decide +kernel),?_⟩ | refine ⟨_,eqS_f (by decide +kernel) (by decide +kernel),?_⟩ | refine ⟨_,inS_t (by decide +kernel),?_⟩ | refine ⟨_,inS_f (by decide +kernel),?_⟩)
 refine comp_of (α:=List Nat) (enc:=fun w => .str (tx w)) (e:=fun w => .str (tx [shC w])) (fun w h1 P hP=>?_) (by rw [List.length_drop];omega) ?_
 ·(repeat first | refine ⟨_,_,rfl,rfl,?_⟩ | refine ⟨_,eqI,?_⟩ | refine ⟨_,neI,?_⟩ | refine ⟨_,rfl,?_⟩ | refine ⟨rfl,?_⟩ | refine ⟨(by show _<=sizeLine;rw [sizeLine_eq];exact Nat.le_of_ble_eq_true rfl),?_⟩ | refine ⟨_,_,rfl,?_⟩ | refine ⟨_,_,_,rfl,?_⟩ | refine iteT ?_ | refine iteF ?_ | refine Or.inl ⟨rfl,?_⟩ | refine Or.inr ⟨rfl,?_⟩ | refine ⟨_,eqS_t (by decide +kernel),?_⟩ | refine ⟨_,eqS_f (by decide +kernel) (by decide +kernel),?_⟩ | refine ⟨_,inS_t (by decide +kernel),?_⟩ | refine ⟨_,inS_f (by decide +kernel),?_⟩)
  refine ⟨hd w h1,?_⟩
  rw [shape_eq]
  exact hP _ rfl
 obtain ⟨ys,y1,y2,y3⟩:=join_yt ((ws.drop 2).map fun w => [shC w]) (by rw [flat_ones,List.length_map,List.length_drop];omega)
 rw [List.map_map] at y1
 refine ⟨ys,y1,y2,?_⟩
 rw [y3,flat_ones]
 (repeat first | refine ⟨_,idx_ts (i:=1) (show 1<ws.length by omega),?_⟩ | refine ⟨idx_ts (i:=1) (show 1<ws.length by omega),?_⟩ | refine ⟨_,_,rfl,rfl,?_⟩ | refine ⟨_,eqI,?_⟩ | refine ⟨_,neI,?_⟩ | refine ⟨_,rfl,?_⟩ | refine ⟨rfl,?_⟩ | refine ⟨(by show _<=sizeLine;rw [sizeLine_eq];exact Nat.le_of_ble_eq_true rfl),?_⟩ | refine ⟨_,_,rfl,?_⟩ | refine ⟨_,_,_,rfl,?_⟩ | refine iteT ?_ | refine iteF ?_ | refine Or.inl ⟨rfl,?_⟩ | refine Or.inr ⟨rfl,?_⟩ | refine ⟨_,eqS_t (by decide +kernel),?_⟩ | refine ⟨_,eqS_f (by decide +kernel) (by decide +kernel),?_⟩ | refine ⟨_,inS_t (by decide +kernel),?_⟩ | refine ⟨_,inS_f (by decide +kernel),?_⟩)
 refine ⟨_,tx s,rfl,by rw [shp_lk,hs];rfl,_,eq_tx ⟨by rw [List.length_map,List.length_drop];omega,fun c hc=>by obtain ⟨w,_,rfl⟩:=List.mem_map.mp hc;exact shC_lt w⟩ hs2,?_⟩
 rw [if_neg Bool.false_ne_true]
 rw [hs] at q
 rw [show decide ((ws.drop 2).map shC=s)=decide (some s=some ((ws.drop 2).map shC)) from decide_eq_decide.mpr ⟨fun h=>by rw [h],fun h=>(Option.some.inj h).symm⟩]
 exact q
end
theorem rowR_len {ws:List (List Nat)} (h:rowRB ws=true):3<=ws.length/\ws.length<=5:=by
 unfold rowRB at h
 simp only [Bool.and_eq_true,decide_eq_true_eq] at h
 obtain ⟨h1,_,h3⟩:=h
 have key:∀ s,shapeW (ws.getD 1 [])=some s->1<=s.length/\s.length<=3:=by
  intro s hs
  unfold shapeW at hs
  repeat (split at hs; · cases hs;exact ⟨by decide,by decide⟩)
  cases hs
 have:=key _ h3
 rw [List.length_map,List.length_drop] at this
 omega
theorem cut_mid {α:Type} (xs:List α) (h:2<=xs.length):cutL xs (some 1) (some (-1))=(xs.drop 1).dropLast:=by
 have a:=sIx_clip xs.length 0 1
 have b:=sIx_clip xs.length xs.length (-1)
 rw [if_neg (by omega)] at a
 rw [if_pos (by omega)] at b
 have a':HT.sIx xs.length 0 (some 1)=1:=by omega
 have b':HT.sIx xs.length xs.length (some (-1))=xs.length - 1:=by omega
 unfold cutL
 rw [a',b',List.dropLast_eq_take,List.length_drop]
section
variable {P : Program} {w : World} {K : PySem.W.Frag} {mg : Str → Option Value} {base : Heap} {k : Nat}
abbrev sRuleOf:Stmt:=top 18
theorem scRuleOf:FnScope ["words", "values"] ["words"] (defScope sRuleOf):=⟨rfl,rfl,rfl,by decide +kernel,rfl,by decide +kernel,by decide +kernel⟩
theorem d_rule_of (B:Blt mg) (d_value_of:Def3 P w K mg base 2 "value_of" ["word"] (spO K (fun _=>True) 1 valueTF)) (T:Top3 K mg "rule_of" sRuleOf):Def3 P w K mg base 3 "rule_of" ["words"] (spO K (fun _=>True) 1 ruleHF):=by
 refine mk_O T scRuleOf (fun _ _ _ _ _ _ us hl=>len1 hl fun _=>rfl) rfl fun f cdv A outer s H E O hφ C=>⟨_,(ss_cons (s_set 1 (e_tuplec C B (a_cons (e_comp 1 ["word", "words", "values"] C (fun _ => .of rfl (by kernel_rfl)) (i_list C (e_var 0)) (g_name 0) f_nil (e_call (C.comp _ _) d_value_of (fun _=>trivial) (a_cons (e_var 0) a_nil))) a_nil))) (ss_one (s_ret (e_tup (a_cons (e_idx C (e_var 1) e_int) (a_cons (e_slice C (e_var 1) (o_some e_int) (o_some e_neg)) (a_cons (e_idx C (e_var 1) e_neg) a_nil))))))),fun ds Qr hn q=>?_⟩
 obtain ⟨ws,rfl,⟨h0,hl,hw⟩,ok,q⟩:=q
 obtain ⟨l3,l5⟩:=rowR_len ok
 have sz:=sizeLine_eq
 have ti:∀ i,i<ws.length->idxF (.tuple (ws.map thD)) (.int (i:Nat))=some (.o (thD (ws.getD i []))):=fun i hi=>idx_tup (by rw [List.getElem?_map,getD_of (z := []) hi];rfl)
 (repeat first | refine ⟨_,_,rfl,rfl,?_⟩ | refine ⟨_,eqI,?_⟩ | refine ⟨_,neI,?_⟩ | refine ⟨_,rfl,?_⟩ | refine ⟨rfl,?_⟩ | refine ⟨(by show _<=sizeLine;rw [sizeLine_eq];exact Nat.le_of_ble_eq_true rfl),?_⟩ | refine ⟨_,_,rfl,?_⟩ | refine ⟨_,_,_,rfl,?_⟩ | refine iteT ?_ | refine iteF ?_ | refine Or.inl ⟨rfl,?_⟩ | refine Or.inr ⟨rfl,?_⟩ | refine ⟨_,eqS_t (by decide +kernel),?_⟩ | refine ⟨_,eqS_f (by decide +kernel) (by decide +kernel),?_⟩ | refine ⟨_,inS_t (by decide +kernel),?_⟩ | refine ⟨_,inS_f (by decide +kernel),?_⟩)
 refine comp_of (α:=List Nat) (enc:=fun w => .str (tx w)) (e:=thD) (fun w h1 P hP=>?_) (by omega) ?_
 ·(repeat first | refine ⟨_,_,rfl,rfl,?_⟩ | refine ⟨_,eqI,?_⟩ | refine ⟨_,neI,?_⟩ | refine ⟨_,rfl,?_⟩ | refine ⟨rfl,?_⟩ | refine ⟨(by show _<=sizeLine;rw [sizeLine_eq];exact Nat.le_of_ble_eq_true rfl),?_⟩ | refine ⟨_,_,rfl,?_⟩ | refine ⟨_,_,_,rfl,?_⟩ | refine iteT ?_ | refine iteF ?_ | refine Or.inl ⟨rfl,?_⟩ | refine Or.inr ⟨rfl,?_⟩ | refine ⟨_,eqS_t (by decide +kernel),?_⟩ | refine ⟨_,eqS_f (by decide +kernel) (by decide +kernel),?_⟩ | refine ⟨_,inS_t (by decide +kernel),?_⟩ | refine ⟨_,inS_f (by decide +kernel),?_⟩)
  exact ⟨hw w h1,hP _ rfl⟩
 have fl:flats (ws.map thD)=true:=flats_map (fun w=>by unfold thD;split <;> rfl) _
 have e1:slcF (some 1) (some (-1)) (.tuple (ws.map thD))=some (.o (.tuple (((ws.drop 1).dropLast).map thD))):=by
  show some (R.o (.tuple (cutL (ws.map thD) (some 1) (some (-1)))))=_
  rw [cut_mid _ (by rw [List.length_map];omega),<- List.map_drop,List.map_dropLast]
 have e2:idxF (.tuple (ws.map thD)) (.int (-1))=some (.o (thD (ws.getD (ws.length - 1) []))):=by
  show (atI (ws.map thD) (-1)).map R.o=_
  unfold atI ixN
  rw [if_neg (by omega),List.length_map,if_pos (by omega)]
  show Option.map R.o ((ws.map thD)[((-1:Int)+ws.length).toNat]?)=_
  rw [show ((-1:Int)+ws.length).toNat=ws.length - 1 by omega,List.getElem?_map,getD_of (z := []) (show ws.length - 1<ws.length by omega)]
  rfl
 refine ⟨_,rfl,fl,?_⟩
 (repeat first | refine ⟨_,ti 0 (by omega),?_⟩ | refine ⟨ti 0 (by omega),?_⟩ | refine ⟨_,e1,?_⟩ | refine ⟨e1,?_⟩ | refine ⟨_,e2,?_⟩ | refine ⟨e2,?_⟩ | refine ⟨_,_,rfl,rfl,?_⟩ | refine ⟨_,eqI,?_⟩ | refine ⟨_,neI,?_⟩ | refine ⟨_,rfl,?_⟩ | refine ⟨rfl,?_⟩ | refine ⟨(by show _<=sizeLine;rw [sizeLine_eq];exact Nat.le_of_ble_eq_true rfl),?_⟩ | refine ⟨_,_,rfl,?_⟩ | refine ⟨_,_,_,rfl,?_⟩ | refine iteT ?_ | refine iteF ?_ | refine Or.inl ⟨rfl,?_⟩ | refine Or.inr ⟨rfl,?_⟩ | refine ⟨_,eqS_t (by decide +kernel),?_⟩ | refine ⟨_,eqS_f (by decide +kernel) (by decide +kernel),?_⟩ | refine ⟨_,inS_t (by decide +kernel),?_⟩ | refine ⟨_,inS_f (by decide +kernel),?_⟩)
 exact q
end
abbrev htD (hs:HL):PyData := .list (hs.map fun x => .tuple [.int (x.1:Nat),.list x.2])
theorem ht_get (ks:HL) (n:Nat) (ds:List PyData):((ks ++ [(n,ds)]).map fun x=>PyData.tuple [.int (x.1:Nat),.list x.2])[ks.length]? = some (.tuple [.int (n:Nat),.list ds]):=by
 rw [List.getElem?_map,List.getElem?_append_right (Nat.le_refl _),Nat.sub_self]
 rfl
theorem dset_last (ks:HL) (n:Nat) (ds:List PyData) (x:PyData):dset (htD (ks ++ [(n,ds)])) ([] ++ [ks.length] ++ [1]) (.list (ds ++ [x]))=htD (ks ++ [(n,ds ++ [x])]):=by
 show dset (.list _) (ks.length :: [1]) _=_
 rw [dset,ht_get]
 show PyData.list (List.set _ ks.length (.tuple [.int (n:Nat),.list (ds ++ [x])]))=_
 unfold htD
 rw [List.map_append,List.map_append,List.set_append_right _ _ (by rw [List.length_map];exact Nat.le_refl _),List.length_map,Nat.sub_self]
 rfl
theorem flat_ruleHD (ws:List (List Nat)):flat (ruleHD ws)=true:=by
 have ft:∀ w,flat (thD w)=true:=fun w=>by unfold thD;split <;> rfl
 show (flat (thD _) && (flats (((ws.drop 1).dropLast).map thD) && (flat (thD _) && true)))=true
 rw [ft,ft,flats_map ft]
 rfl
section
variable {P : Program} {w : World} {K : PySem.W.Frag} {mg : Str → Option Value} {base : Heap} {k : Nat}
abbrev sReadHands:Stmt:=top 19
theorem scReadHands:FnScope ["rows", "hands", "at"] ["rows"] (defScope sReadHands):=⟨rfl,rfl,rfl,by decide +kernel,rfl,by decide +kernel,by decide +kernel⟩
theorem d_read_hands (B:Blt mg) {ea:EA} (EC:ErrS mg ea) (rNoText:RNoTextS K ea) (gHEADS:Glo K mg "HEADS" (.tuple (((["letters", "lines", "flags"]:List Str)).map .str))) (d_is_hand:Def3 P w K mg base 2 "is_hand" ["words"] (spO K (fun _=>True) 1 handHF)) (d_is_row_of_rule:Def3 P w K mg base 4 "is_row_of_rule" ["words"] (spO K (fun _=>True) 1 rowHF)) (d_rule_of:Def3 P w K mg base 3 "rule_of" ["words"] (spO K (fun _=>True) 1 ruleHF)) (T:Top3 K mg "read_hands" sReadHands):Def3x P w K mg base 5 "read_hands" ["rows"] (spX K mg (fun _=>True) 1 readHandsF):=by
 obtain ⟨fNoText,mNoText,iNoText⟩:=rNoText.init
 obtain ⟨fdNoText,psNoText,FNoText,BNoText⟩:=init1_ok (P:=P) (w:=w) (mg:=mg) (base:=base) iNoText
 refine mk_Ox T scReadHands (fun _ _ _ _ _ _ us hl=>len1 hl fun _=>rfl) rfl fun f cdv A outer s H E O hφ Bd C=>⟨_,(xs_cons (x_of (s_setT 1 (o_flat (e_lst a_nil)))) (xs_cons (x_for Bd rfl (j_new (i_r2 C B (a_cons (e_len C B (a_cons (e_glo C gHEADS) a_nil)) (a_cons (e_len C B (a_cons (e_var 0) a_nil)) a_nil)))) (g_name (h:=1000) 2) (xs_one (x_if (t_val (e_call C d_is_hand (fun _=>trivial) (a_cons (e_idx C (e_var 0) (e_var 2)) a_nil))) (xs_of (ss_one (s_appT 1 C (l_var 1) (o_tup (oq_cons (o_flat (e_intU C B (a_cons (e_idx C (e_idx C (e_var 0) (e_var 2)) e_int) a_nil))) (oq_cons (o_flat (e_lst a_nil)) oq_nil)))))) (xs_one (x_if (t_w (w_and (t_tru C (e_varT 1)) (w_and1 (t_val (e_call C d_is_row_of_rule (fun _=>trivial) (a_cons (e_idx C (e_var 0) (e_var 2)) a_nil)))))) (xs_of (ss_one (s_appT 1 C (l_ix C (l_ix C (l_var 1) e_neg) e_int) (o_flat (e_call C d_rule_of (fun _=>trivial) (a_cons (e_idx C (e_var 0) (e_var 2)) a_nil)))))) (xs_one (x_raise Bd rfl rfl rfl rfl rfl rfl mNoText FNoText ((C.room ()).mono (by decide)) BNoText (by decide) EC.nt (a_cons (e_var 2) a_nil)))))))) (xs_of (ss_one (s_ret (e_tuplec C B (a_cons (e_comp 2 ["rooms", "rules", "rows", "hands", "at"] C (fun _ => .of rfl (by kernel_rfl)) (i_list C (e_varT 1)) (g_tup (C.comp _ _) (gq_cons 0 (gq_cons 1 gq_nil))) f_nil (e_tup (a_cons (e_var 0) (a_cons (e_tuplec (C.comp _ _) B (a_cons (e_var 1) a_nil)) a_nil)))) a_nil))))))),fun ds Qr hn q=>?_⟩
 obtain ⟨rs,rfl,ok,hl,h3,q⟩:=q
 have sz:=sizeLine_eq
 have lr:(rs.map rwD).length=rs.length:=List.length_map ..
 (repeat first | refine ⟨_,_,rfl,rfl,?_⟩ | refine ⟨_,eqI,?_⟩ | refine ⟨_,neI,?_⟩ | refine ⟨_,rfl,?_⟩ | refine ⟨rfl,?_⟩ | refine ⟨(by show _<=sizeLine;rw [sizeLine_eq];exact Nat.le_of_ble_eq_true rfl),?_⟩ | refine ⟨_,_,rfl,?_⟩ | refine ⟨_,_,_,rfl,?_⟩ | refine iteT ?_ | refine iteF ?_ | refine Or.inl ⟨rfl,?_⟩ | refine Or.inr ⟨rfl,?_⟩ | refine ⟨_,eqS_t (by decide +kernel),?_⟩ | refine ⟨_,eqS_f (by decide +kernel) (by decide +kernel),?_⟩ | refine ⟨_,inS_t (by decide +kernel),?_⟩ | refine ⟨_,inS_f (by decide +kernel),?_⟩)
 refine ⟨⟨by decide,by decide,by omega,by omega⟩,rfl,?_⟩
 rw [lr,show ((rs.length:Int) - ((["letters", "lines", "flags"]:List Str).map PyData.str).length).toNat=rs.length - 3 by show ((rs.length:Int) - (3:Nat)).toNat=_;omega]
 refine forGo_rev (fun j ρ=>∃ (o2:Option DV) (hs:HL),ρ = [some (.im (.list (rs.map rwD))),some (.thg (OwnT (htD hs))),o2]/\hs.length<=j/\(∀ x ∈ hs,x.2.length<=j)/\goHands (3+j) hs (rs.drop (3+j))=goHands 3 [] (rs.drop 3)) ⟨none,[],rfl,Nat.zero_le _,fun x h=>(List.not_mem_nil h).elim,rfl⟩ (fun ρ zz=>?_) fun j d ρ N hd hN zz=>?_
 ·obtain ⟨o2,hs,e,h1,h2,g⟩:=zz
  subst e
  rw [numsD_len] at h1 h2 g
  rw [show 3+(rs.length - 3)=rs.length by omega,List.drop_length] at g
  have g:Sum.inr hs=goHands 3 [] (rs.drop 3):=g
  rw [<- g] at q
  (repeat first | refine ⟨_,_,rfl,rfl,?_⟩ | refine ⟨_,eqI,?_⟩ | refine ⟨_,neI,?_⟩ | refine ⟨_,rfl,?_⟩ | refine ⟨rfl,?_⟩ | refine ⟨(by show _<=sizeLine;rw [sizeLine_eq];exact Nat.le_of_ble_eq_true rfl),?_⟩ | refine ⟨_,_,rfl,?_⟩ | refine ⟨_,_,_,rfl,?_⟩ | refine iteT ?_ | refine iteF ?_ | refine Or.inl ⟨rfl,?_⟩ | refine Or.inr ⟨rfl,?_⟩ | refine ⟨_,eqS_t (by decide +kernel),?_⟩ | refine ⟨_,eqS_f (by decide +kernel) (by decide +kernel),?_⟩ | refine ⟨_,inS_t (by decide +kernel),?_⟩ | refine ⟨_,inS_f (by decide +kernel),?_⟩)
  refine comp_ofG (α:=Nat × List PyData) (as:=hs) (enc:=fun x => .tuple [.int (x.1:Nat),.list x.2]) (e:=fun x => .tuple [.int (x.1:Nat),.tuple x.2]) (fun x hx P hP=>?_) gT_mono (by omega) ?_
  ·(repeat first | refine ⟨_,_,rfl,rfl,?_⟩ | refine ⟨_,eqI,?_⟩ | refine ⟨_,neI,?_⟩ | refine ⟨_,rfl,?_⟩ | refine ⟨rfl,?_⟩ | refine ⟨(by show _<=sizeLine;rw [sizeLine_eq];exact Nat.le_of_ble_eq_true rfl),?_⟩ | refine ⟨_,_,rfl,?_⟩ | refine ⟨_,_,_,rfl,?_⟩ | refine iteT ?_ | refine iteF ?_ | refine Or.inl ⟨rfl,?_⟩ | refine Or.inr ⟨rfl,?_⟩ | refine ⟨_,eqS_t (by decide +kernel),?_⟩ | refine ⟨_,eqS_f (by decide +kernel) (by decide +kernel),?_⟩ | refine ⟨_,inS_t (by decide +kernel),?_⟩ | refine ⟨_,inS_f (by decide +kernel),?_⟩)
   exact hP _ rfl
  ·(repeat first | refine ⟨_,_,rfl,rfl,?_⟩ | refine ⟨_,eqI,?_⟩ | refine ⟨_,neI,?_⟩ | refine ⟨_,rfl,?_⟩ | refine ⟨rfl,?_⟩ | refine ⟨(by show _<=sizeLine;rw [sizeLine_eq];exact Nat.le_of_ble_eq_true rfl),?_⟩ | refine ⟨_,_,rfl,?_⟩ | refine ⟨_,_,_,rfl,?_⟩ | refine iteT ?_ | refine iteF ?_ | refine Or.inl ⟨rfl,?_⟩ | refine Or.inr ⟨rfl,?_⟩ | refine ⟨_,eqS_t (by decide +kernel),?_⟩ | refine ⟨_,eqS_f (by decide +kernel) (by decide +kernel),?_⟩ | refine ⟨_,inS_t (by decide +kernel),?_⟩ | refine ⟨_,inS_f (by decide +kernel),?_⟩)
   exact q
 ·obtain ⟨o2,hs,e,h1,h2,g⟩:=zz
  subst e
  obtain ⟨hj,rfl⟩:=numsD_get hd
  have hj2:3+j<rs.length:=by omega
  refine ⟨rfl,?_⟩
  have ix:=idx_rw hj2
  have wo:=ok _ (mem_getD (z := []) hj2)
  rw [drop_at (getD_of (z := []) hj2),goHands] at g
  (repeat first | refine ⟨_,ix,?_⟩ | refine ⟨ix,?_⟩ | refine ⟨_,_,rfl,rfl,?_⟩ | refine ⟨_,eqI,?_⟩ | refine ⟨_,neI,?_⟩ | refine ⟨_,rfl,?_⟩ | refine ⟨rfl,?_⟩ | refine ⟨(by show _<=sizeLine;rw [sizeLine_eq];exact Nat.le_of_ble_eq_true rfl),?_⟩ | refine ⟨_,_,rfl,?_⟩ | refine ⟨_,_,_,rfl,?_⟩ | refine iteT ?_ | refine iteF ?_ | refine Or.inl ⟨rfl,?_⟩ | refine Or.inr ⟨rfl,?_⟩ | refine ⟨_,eqS_t (by decide +kernel),?_⟩ | refine ⟨_,eqS_f (by decide +kernel) (by decide +kernel),?_⟩ | refine ⟨_,inS_t (by decide +kernel),?_⟩ | refine ⟨_,inS_f (by decide +kernel),?_⟩)
  refine ⟨wo,?_⟩
  (repeat first | refine ⟨_,_,rfl,rfl,?_⟩ | refine ⟨_,eqI,?_⟩ | refine ⟨_,neI,?_⟩ | refine ⟨_,rfl,?_⟩ | refine ⟨rfl,?_⟩ | refine ⟨(by show _<=sizeLine;rw [sizeLine_eq];exact Nat.le_of_ble_eq_true rfl),?_⟩ | refine ⟨_,_,rfl,?_⟩ | refine ⟨_,_,_,rfl,?_⟩ | refine iteT ?_ | refine iteF ?_ | refine Or.inl ⟨rfl,?_⟩ | refine Or.inr ⟨rfl,?_⟩ | refine ⟨_,eqS_t (by decide +kernel),?_⟩ | refine ⟨_,eqS_f (by decide +kernel) (by decide +kernel),?_⟩ | refine ⟨_,inS_t (by decide +kernel),?_⟩ | refine ⟨_,inS_f (by decide +kernel),?_⟩)
  refine iteB (fun a1=>?_) fun a1=>?_
  ·rw [if_pos a1] at g
   have l2:1<(rs.getD (3+j) []).length:=by
    unfold isHandB at a1
    simp only [Bool.and_eq_true,decide_eq_true_eq] at a1
    omega
   have hn:isNumB ((rs.getD (3+j) []).getD 1 [])=true:=by
    unfold isHandB at a1
    simp only [Bool.and_eq_true] at a1
    exact a1.2.2
   (repeat first | refine ⟨_,ix,?_⟩ | refine ⟨ix,?_⟩ | refine ⟨_,idx_ts (i:=1) l2,?_⟩ | refine ⟨idx_ts (i:=1) l2,?_⟩ | refine ⟨_,int_val hn,?_⟩ | refine ⟨int_val hn,?_⟩ | refine ⟨_,_,rfl,rfl,?_⟩ | refine ⟨_,eqI,?_⟩ | refine ⟨_,neI,?_⟩ | refine ⟨_,rfl,?_⟩ | refine ⟨rfl,?_⟩ | refine ⟨(by show _<=sizeLine;rw [sizeLine_eq];exact Nat.le_of_ble_eq_true rfl),?_⟩ | refine ⟨_,_,rfl,?_⟩ | refine ⟨_,_,_,rfl,?_⟩ | refine iteT ?_ | refine iteF ?_ | refine Or.inl ⟨rfl,?_⟩ | refine Or.inr ⟨rfl,?_⟩ | refine ⟨_,eqS_t (by decide +kernel),?_⟩ | refine ⟨_,eqS_f (by decide +kernel) (by decide +kernel),?_⟩ | refine ⟨_,inS_t (by decide +kernel),?_⟩ | refine ⟨_,inS_f (by decide +kernel),?_⟩)
   refine ⟨by rw [List.length_map];omega,hN _ ⟨some (.im (.int ((3+j:Nat):Int))),hs ++ [(valW ((rs.getD (3+j) []).getD 1 []),[])],?_,by rw [List.length_append];exact Nat.succ_le_succ h1,fun x hx=>?_,g⟩⟩
   ·show [some (DV.im (.list (rs.map rwD))),some (DV.thg (OwnT (.list ((hs.map fun x=>PyData.tuple [.int (x.1:Nat),.list x.2]) ++ [_])))),_]=_
    rw [show htD (hs ++ [(valW ((rs.getD (3+j) []).getD 1 []),[])]) = .list ((hs.map fun x=>PyData.tuple [.int (x.1:Nat),.list x.2]) ++ [.tuple [.int (valW ((rs.getD (3+j) []).getD 1 []):Nat),.list []]]) by unfold htD;rw [List.map_append];rfl]
    rfl
   ·rcases List.mem_append.mp hx with hx | hx
    ·exact Nat.le_succ_of_le (h2 x hx)
    ·rw [List.mem_singleton.mp hx];exact Nat.zero_le _
  ·rw [if_neg (by rw [a1];exact Bool.false_ne_true)] at g
   (repeat first | refine ⟨_,_,rfl,rfl,?_⟩ | refine ⟨_,eqI,?_⟩ | refine ⟨_,neI,?_⟩ | refine ⟨_,rfl,?_⟩ | refine ⟨rfl,?_⟩ | refine ⟨(by show _<=sizeLine;rw [sizeLine_eq];exact Nat.le_of_ble_eq_true rfl),?_⟩ | refine ⟨_,_,rfl,?_⟩ | refine ⟨_,_,_,rfl,?_⟩ | refine iteT ?_ | refine iteF ?_ | refine Or.inl ⟨rfl,?_⟩ | refine Or.inr ⟨rfl,?_⟩ | refine ⟨_,eqS_t (by decide +kernel),?_⟩ | refine ⟨_,eqS_f (by decide +kernel) (by decide +kernel),?_⟩ | refine ⟨_,inS_t (by decide +kernel),?_⟩ | refine ⟨_,inS_f (by decide +kernel),?_⟩)
   rw [show (!(hs.map fun x=>PyData.tuple [.int (x.1:Nat),.list x.2]).isEmpty) = !hs.isEmpty by cases hs <;> rfl]
   refine iteB (fun a2=>?_) fun a2=>?_
   rotate_left
   ·rw [a2,Bool.false_and,if_neg Bool.false_ne_true] at g
    rw [<- g] at q
    (repeat first | refine ⟨_,_,rfl,rfl,?_⟩ | refine ⟨_,eqI,?_⟩ | refine ⟨_,neI,?_⟩ | refine ⟨_,rfl,?_⟩ | refine ⟨rfl,?_⟩ | refine ⟨(by show _<=sizeLine;rw [sizeLine_eq];exact Nat.le_of_ble_eq_true rfl),?_⟩ | refine ⟨_,_,rfl,?_⟩ | refine ⟨_,_,_,rfl,?_⟩ | refine iteT ?_ | refine iteF ?_ | refine Or.inl ⟨rfl,?_⟩ | refine Or.inr ⟨rfl,?_⟩ | refine ⟨_,eqS_t (by decide +kernel),?_⟩ | refine ⟨_,eqS_f (by decide +kernel) (by decide +kernel),?_⟩ | refine ⟨_,inS_t (by decide +kernel),?_⟩ | refine ⟨_,inS_f (by decide +kernel),?_⟩)
    exact q
   rw [a2,Bool.true_and] at g
   (repeat first | refine ⟨_,ix,?_⟩ | refine ⟨ix,?_⟩ | refine ⟨_,_,rfl,rfl,?_⟩ | refine ⟨_,eqI,?_⟩ | refine ⟨_,neI,?_⟩ | refine ⟨_,rfl,?_⟩ | refine ⟨rfl,?_⟩ | refine ⟨(by show _<=sizeLine;rw [sizeLine_eq];exact Nat.le_of_ble_eq_true rfl),?_⟩ | refine ⟨_,_,rfl,?_⟩ | refine ⟨_,_,_,rfl,?_⟩ | refine iteT ?_ | refine iteF ?_ | refine Or.inl ⟨rfl,?_⟩ | refine Or.inr ⟨rfl,?_⟩ | refine ⟨_,eqS_t (by decide +kernel),?_⟩ | refine ⟨_,eqS_f (by decide +kernel) (by decide +kernel),?_⟩ | refine ⟨_,inS_t (by decide +kernel),?_⟩ | refine ⟨_,inS_f (by decide +kernel),?_⟩)
   refine ⟨wo,?_⟩
   (repeat first | refine ⟨_,_,rfl,rfl,?_⟩ | refine ⟨_,eqI,?_⟩ | refine ⟨_,neI,?_⟩ | refine ⟨_,rfl,?_⟩ | refine ⟨rfl,?_⟩ | refine ⟨(by show _<=sizeLine;rw [sizeLine_eq];exact Nat.le_of_ble_eq_true rfl),?_⟩ | refine ⟨_,_,rfl,?_⟩ | refine ⟨_,_,_,rfl,?_⟩ | refine iteT ?_ | refine iteF ?_ | refine Or.inl ⟨rfl,?_⟩ | refine Or.inr ⟨rfl,?_⟩ | refine ⟨_,eqS_t (by decide +kernel),?_⟩ | refine ⟨_,eqS_f (by decide +kernel) (by decide +kernel),?_⟩ | refine ⟨_,inS_t (by decide +kernel),?_⟩ | refine ⟨_,inS_f (by decide +kernel),?_⟩)
   refine iteB (fun a3=>?_) fun a3=>?_
   rotate_left
   ·rw [if_neg (by rw [a3];exact Bool.false_ne_true)] at g
    rw [<- g] at q
    (repeat first | refine ⟨_,_,rfl,rfl,?_⟩ | refine ⟨_,eqI,?_⟩ | refine ⟨_,neI,?_⟩ | refine ⟨_,rfl,?_⟩ | refine ⟨rfl,?_⟩ | refine ⟨(by show _<=sizeLine;rw [sizeLine_eq];exact Nat.le_of_ble_eq_true rfl),?_⟩ | refine ⟨_,_,rfl,?_⟩ | refine ⟨_,_,_,rfl,?_⟩ | refine iteT ?_ | refine iteF ?_ | refine Or.inl ⟨rfl,?_⟩ | refine Or.inr ⟨rfl,?_⟩ | refine ⟨_,eqS_t (by decide +kernel),?_⟩ | refine ⟨_,eqS_f (by decide +kernel) (by decide +kernel),?_⟩ | refine ⟨_,inS_t (by decide +kernel),?_⟩ | refine ⟨_,inS_f (by decide +kernel),?_⟩)
    exact q
   rw [if_pos a3] at g
   obtain ⟨ks,⟨n,ds⟩,rfl⟩:∃ ks x,hs=ks ++ [x]:=by
    rcases List.eq_nil_or_concat hs with rfl | ⟨l,x,rfl⟩
    ·cases a2
    ·exact ⟨l,x,by rw [List.concat_eq_append]⟩
   rw [addLast_snoc] at g
   have hd:ds.length<=j:=h2 (n,ds) (by simp)
   have lk:(ks ++ [(n,ds)]).length=ks.length+1:=by rw [List.length_append];rfl
   refine ⟨_,rfl,?_⟩
   refine ⟨-1,_,ks.length,.tuple [.int (n:Nat),.list ds],by simp [flat],rfl,rfl,?_,ht_get ks n ds,?_⟩
   ·unfold ixN
    rw [List.length_map,lk,if_neg (by omega),if_pos (by omega)]
    congr 1
    omega
   refine ⟨1,_,1,.list ds,by simp [flat,flats],rfl,rfl,rfl,rfl,?_⟩
   (repeat first | refine ⟨_,ix,?_⟩ | refine ⟨ix,?_⟩ | refine ⟨_,_,rfl,rfl,?_⟩ | refine ⟨_,eqI,?_⟩ | refine ⟨_,neI,?_⟩ | refine ⟨_,rfl,?_⟩ | refine ⟨rfl,?_⟩ | refine ⟨(by show _<=sizeLine;rw [sizeLine_eq];exact Nat.le_of_ble_eq_true rfl),?_⟩ | refine ⟨_,_,rfl,?_⟩ | refine ⟨_,_,_,rfl,?_⟩ | refine iteT ?_ | refine iteF ?_ | refine Or.inl ⟨rfl,?_⟩ | refine Or.inr ⟨rfl,?_⟩ | refine ⟨_,eqS_t (by decide +kernel),?_⟩ | refine ⟨_,eqS_f (by decide +kernel) (by decide +kernel),?_⟩ | refine ⟨_,inS_t (by decide +kernel),?_⟩ | refine ⟨_,inS_f (by decide +kernel),?_⟩)
   refine ⟨wo,a3,flat_ruleHD _,by omega,hN _ ⟨some (.im (.int ((3+j:Nat):Int))),ks ++ [(n,ds ++ [ruleHD (rs.getD (3+j) [])])],?_,?_,fun x hx=>?_,g⟩⟩
   ·show [some (DV.im (.list (rs.map rwD))),some (DV.thg (OwnT (dset _ _ _))),_]=_
    rw [dset_last]
    rfl
   ·rw [List.length_append]
    rw [lk] at h1
    exact Nat.le_succ_of_le h1
   ·rcases List.mem_append.mp hx with hx | hx
    ·exact Nat.le_succ_of_le (h2 x (List.mem_append_left _ hx))
    ·rw [List.mem_singleton.mp hx,List.length_append]
     exact Nat.succ_le_succ hd
end
theorem head_facts {rs:List (List (List Nat))} {i:Nat} (h:headAt rs i=true):1<(rs.getD i []).length:=by
 unfold headAt headOkB at h
 simp only [Bool.and_eq_true,decide_eq_true_eq] at h
 omega
theorem bad_head {rs:List (List (List Nat))} {j:Nat} (g:∀ i,i<j->headAt rs i=true) (h:headAt rs j=false) (hj:j<3):badHead rs=some j:=by
 unfold badHead
 match j,hj with
 | 0,_=>rw [if_neg (by rw [h];exact Bool.false_ne_true)]
 | 1,_=>rw [if_pos (g 0 (by decide)),if_neg (by rw [h];exact Bool.false_ne_true)]
 | 2,_=>rw [if_pos (g 0 (by decide)),if_pos (g 1 (by decide)),if_neg (by rw [h];exact Bool.false_ne_true)]
theorem head_num1 {rs:List (List (List Nat))} {i:Nat} (h:headAt rs i=true) (hi:i ≠ 0):isNumB ((rs.getD i []).getD 1 [])=true:=by
 unfold headAt headOkB at h
 rw [if_neg hi] at h
 simp only [Bool.and_eq_true] at h
 exact h.2.2.2
section
variable {P : Program} {w : World} {K : PySem.W.Frag} {mg : Str → Option Value} {base : Heap} {k : Nat}
abbrev sReadHouse:Stmt:=top 20
theorem scReadHouse:FnScope ["text", "rows", "at"] ["text"] (defScope sReadHouse):=⟨rfl,rfl,rfl,by decide +kernel,rfl,by decide +kernel,by decide +kernel⟩
theorem d_read_house (B:Blt mg) {ea:EA} (EC:ErrS mg ea) (rNoText:RNoTextS K ea) (gHEADS:Glo K mg "HEADS" (.tuple (((["letters", "lines", "flags"]:List Str)).map .str))) (d_is_head:Def3 P w K mg base 3 "is_head" ["words", "at"] (spO K (fun _=>True) 2 headHF)) (d_read_hands:Def3x P w K mg base 5 "read_hands" ["rows"] (spX K mg (fun _=>True) 1 readHandsF)) (T:Top3 K mg "read_house" sReadHouse):Def3x P w K mg base 6 "read_house" ["text"] (spX K mg (fun _=>True) 1 readHF):=by
 obtain ⟨fNoText,mNoText,iNoText⟩:=rNoText.init
 obtain ⟨fdNoText,psNoText,FNoText,BNoText⟩:=init1_ok (P:=P) (w:=w) (mg:=mg) (base:=base) iNoText
 refine mk_Ox T scReadHouse (fun _ _ _ _ _ _ us hl=>len1 hl fun _=>rfl) rfl fun f cdv A outer s H E O hφ Bd C=>⟨_,(xs_cons (x_of (s_setCI 1 1 ["row", "text", "rows", "at"] C (fun _ => .of rfl (by kernel_rfl)) (i_list C (e_split C (e_var 0) e_str)) (g_name 0) f_nil (e_split (C.comp _ _) (e_var 0) e_str))) (xs_cons (x_for Bd rfl (j_new (i_r1 C B (a_cons (e_len C B (a_cons (e_glo C gHEADS) a_nil)) a_nil))) (g_name (h:=1000) 2) (xs_one (x_if (t_w (w_or (t_eq C (e_var 2) (e_len C B (a_cons (e_var 1) a_nil))) (w_or1 (t_not (t_val (e_call C d_is_head (fun _=>trivial) (a_cons (e_idx C (e_var 1) (e_var 2)) (a_cons (e_var 2) a_nil)))))))) (xs_one (x_raise Bd rfl rfl rfl rfl rfl rfl mNoText FNoText ((C.room ()).mono (by decide)) BNoText (by decide) EC.nt (a_cons (e_var 2) a_nil))) (xs_of ss_nil)))) (xs_one (x_ret (ey_tup (ay_cons (ey_of (e_idx C (e_idx C (e_var 1) e_int) e_int)) (ay_cons (ey_of (e_intU C B (a_cons (e_idx C (e_idx C (e_var 1) e_int) e_int) a_nil))) (ay_cons (ey_of (e_intU C B (a_cons (e_idx C (e_idx C (e_var 1) e_int) e_int) a_nil))) (ay_cons (ey_call Bd C d_read_hands (a_cons (e_var 1) a_nil)) ay_nil))))))))),fun ds Qr hn q=>?_⟩
 obtain ⟨t,rfl,ht,q⟩:=q
 have sz:=sizeLine_eq
 have hl:=ht.len
 have rl:=rows_len t
 have rp:=rows_pos t
 have ro:=rows_ok ht
 refine ⟨noOwn_of ⟨rfl,rfl,rfl,trivial⟩,?_⟩
 (repeat first | refine ⟨_,_,rfl,rfl,?_⟩ | refine ⟨_,eqI,?_⟩ | refine ⟨_,neI,?_⟩ | refine ⟨_,rfl,?_⟩ | refine ⟨rfl,?_⟩ | refine ⟨(by show _<=sizeLine;rw [sizeLine_eq];exact Nat.le_of_ble_eq_true rfl),?_⟩ | refine ⟨_,_,rfl,?_⟩ | refine ⟨_,_,_,rfl,?_⟩ | refine iteT ?_ | refine iteF ?_ | refine Or.inl ⟨rfl,?_⟩ | refine Or.inr ⟨rfl,?_⟩ | refine ⟨_,eqS_t (by decide +kernel),?_⟩ | refine ⟨_,eqS_f (by decide +kernel) (by decide +kernel),?_⟩ | refine ⟨_,inS_t (by decide +kernel),?_⟩ | refine ⟨_,inS_f (by decide +kernel),?_⟩)
 refine ⟨by rw [tx_len];omega,_,rfl,?_⟩
 rw [e_feedT,split_txs]
 refine comp_of (α:=List Nat) (enc:=fun w => .str (tx w)) (e:=fun r=>rwD (cutW 32 r)) (fun r hr P hP=>?_) (by have:=cutW_len 10 t;omega) ?_
 ·have:=(cutW_lng ht hr).len
  (repeat first | refine ⟨_,_,rfl,rfl,?_⟩ | refine ⟨_,eqI,?_⟩ | refine ⟨_,neI,?_⟩ | refine ⟨_,rfl,?_⟩ | refine ⟨rfl,?_⟩ | refine ⟨(by show _<=sizeLine;rw [sizeLine_eq];exact Nat.le_of_ble_eq_true rfl),?_⟩ | refine ⟨_,_,rfl,?_⟩ | refine ⟨_,_,_,rfl,?_⟩ | refine iteT ?_ | refine iteF ?_ | refine Or.inl ⟨rfl,?_⟩ | refine Or.inr ⟨rfl,?_⟩ | refine ⟨_,eqS_t (by decide +kernel),?_⟩ | refine ⟨_,eqS_f (by decide +kernel) (by decide +kernel),?_⟩ | refine ⟨_,inS_t (by decide +kernel),?_⟩ | refine ⟨_,inS_f (by decide +kernel),?_⟩)
  refine ⟨by rw [tx_len];omega,hP _ ?_⟩
  rw [e_blankT,split_txs]
  rfl
 rw [rows_map]
 (repeat first | refine ⟨_,_,rfl,rfl,?_⟩ | refine ⟨_,eqI,?_⟩ | refine ⟨_,neI,?_⟩ | refine ⟨_,rfl,?_⟩ | refine ⟨rfl,?_⟩ | refine ⟨(by show _<=sizeLine;rw [sizeLine_eq];exact Nat.le_of_ble_eq_true rfl),?_⟩ | refine ⟨_,_,rfl,?_⟩ | refine ⟨_,_,_,rfl,?_⟩ | refine iteT ?_ | refine iteF ?_ | refine Or.inl ⟨rfl,?_⟩ | refine Or.inr ⟨rfl,?_⟩ | refine ⟨_,eqS_t (by decide +kernel),?_⟩ | refine ⟨_,eqS_f (by decide +kernel) (by decide +kernel),?_⟩ | refine ⟨_,inS_t (by decide +kernel),?_⟩ | refine ⟨_,inS_f (by decide +kernel),?_⟩)
 refine ⟨by decide,by decide,rfl,?_⟩
 have lr:((rowsT t).map rwD).length=(rowsT t).length:=List.length_map ..
 refine forGo_rev (fun j ρ=>∃ (o2:Option DV),ρ = [some (.im (.str (tx t))),some (.im (.list ((rowsT t).map rwD))),o2]/\(∀ i,i<j->headAt (rowsT t) i=true)/\j<=(rowsT t).length) ⟨none,rfl,fun i h=>absurd h (Nat.not_lt_zero _),Nat.zero_le _⟩ (fun ρ zz=>?_) fun j d ρ N hd hN zz=>?_
 ·obtain ⟨o2,e,g,hj⟩:=zz
  subst e
  rw [numsD_len] at g hj
  have g0:=g 0 (by decide)
  have g1:=g 1 (by decide)
  have g2:=g 2 (by decide)
  have h3:3<=(rowsT t).length:=hj
  unfold readH badHead at q
  rw [if_pos g0,if_pos g1,if_pos g2] at q
  have p0:=head_facts g0
  have p1:=head_facts g1
  have p2:=head_facts g2
  have n1:=head_num1 g1 (by decide)
  have n2:=head_num1 g2 (by decide)
  (repeat first | refine ⟨_,idx_rw (i:=0) (show 0<_ by omega),?_⟩ | refine ⟨idx_rw (i:=0) (show 0<_ by omega),?_⟩ | refine ⟨_,idx_rw (i:=1) (show 1<_ by omega),?_⟩ | refine ⟨idx_rw (i:=1) (show 1<_ by omega),?_⟩ | refine ⟨_,idx_rw (i:=2) (show 2<_ by omega),?_⟩ | refine ⟨idx_rw (i:=2) (show 2<_ by omega),?_⟩ | refine ⟨_,idx_ts (i:=1) p0,?_⟩ | refine ⟨idx_ts (i:=1) p0,?_⟩ | refine ⟨_,idx_ts (i:=1) p1,?_⟩ | refine ⟨idx_ts (i:=1) p1,?_⟩ | refine ⟨_,idx_ts (i:=1) p2,?_⟩ | refine ⟨idx_ts (i:=1) p2,?_⟩ | refine ⟨_,int_val n1,?_⟩ | refine ⟨int_val n1,?_⟩ | refine ⟨_,int_val n2,?_⟩ | refine ⟨int_val n2,?_⟩ | refine ⟨_,_,rfl,rfl,?_⟩ | refine ⟨_,eqI,?_⟩ | refine ⟨_,neI,?_⟩ | refine ⟨_,rfl,?_⟩ | refine ⟨rfl,?_⟩ | refine ⟨(by show _<=sizeLine;rw [sizeLine_eq];exact Nat.le_of_ble_eq_true rfl),?_⟩ | refine ⟨_,_,rfl,?_⟩ | refine ⟨_,_,_,rfl,?_⟩ | refine iteT ?_ | refine iteF ?_ | refine Or.inl ⟨rfl,?_⟩ | refine Or.inr ⟨rfl,?_⟩ | refine ⟨_,eqS_t (by decide +kernel),?_⟩ | refine ⟨_,eqS_f (by decide +kernel) (by decide +kernel),?_⟩ | refine ⟨_,inS_t (by decide +kernel),?_⟩ | refine ⟨_,inS_f (by decide +kernel),?_⟩)
  refine ⟨ro,by omega,h3,?_⟩
  cases hg:goHands 3 [] ((rowsT t).drop 3) with
  | inl i =>
    rw [hg] at q
    exact q
  | inr hs =>
    rw [hg] at q
    exact ⟨by show 4<=sizeLine;omega,q⟩
 ·obtain ⟨o2,e,g,hj⟩:=zz
  subst e
  obtain ⟨hj3,ed⟩:=numsD_get hd
  rw [Int.zero_add] at ed
  subst ed
  have hj3:j<3:=hj3
  refine ⟨rfl,?_⟩
  (repeat first | refine ⟨_,len_rw (rowsT t),?_⟩ | refine ⟨len_rw (rowsT t),?_⟩ | refine ⟨_,_,rfl,rfl,?_⟩ | refine ⟨_,eqI,?_⟩ | refine ⟨_,neI,?_⟩ | refine ⟨_,rfl,?_⟩ | refine ⟨rfl,?_⟩ | refine ⟨(by show _<=sizeLine;rw [sizeLine_eq];exact Nat.le_of_ble_eq_true rfl),?_⟩ | refine ⟨_,_,rfl,?_⟩ | refine ⟨_,_,_,rfl,?_⟩ | refine iteT ?_ | refine iteF ?_ | refine Or.inl ⟨rfl,?_⟩ | refine Or.inr ⟨rfl,?_⟩ | refine ⟨_,eqS_t (by decide +kernel),?_⟩ | refine ⟨_,eqS_f (by decide +kernel) (by decide +kernel),?_⟩ | refine ⟨_,inS_t (by decide +kernel),?_⟩ | refine ⟨_,inS_f (by decide +kernel),?_⟩)
  rw [show decide ((j:Int)=((rowsT t).length:Nat))=decide (j=(rowsT t).length) from decide_eq_decide.mpr ⟨fun h=>by omega,fun h=>by omega⟩]
  refine iteB (fun a1=>?_) fun a1=>?_
  ·have hb:headAt (rowsT t) j=false:=by
    unfold headAt
    rw [show decide (j<(rowsT t).length)=false from decide_eq_false (by have:=of_decide_eq_true a1;omega),Bool.false_and]
   unfold readH at q
   rw [bad_head g hb hj3] at q
   (repeat first | refine ⟨_,_,rfl,rfl,?_⟩ | refine ⟨_,eqI,?_⟩ | refine ⟨_,neI,?_⟩ | refine ⟨_,rfl,?_⟩ | refine ⟨rfl,?_⟩ | refine ⟨(by show _<=sizeLine;rw [sizeLine_eq];exact Nat.le_of_ble_eq_true rfl),?_⟩ | refine ⟨_,_,rfl,?_⟩ | refine ⟨_,_,_,rfl,?_⟩ | refine iteT ?_ | refine iteF ?_ | refine Or.inl ⟨rfl,?_⟩ | refine Or.inr ⟨rfl,?_⟩ | refine ⟨_,eqS_t (by decide +kernel),?_⟩ | refine ⟨_,eqS_f (by decide +kernel) (by decide +kernel),?_⟩ | refine ⟨_,inS_t (by decide +kernel),?_⟩ | refine ⟨_,inS_f (by decide +kernel),?_⟩)
   exact q
  have hlt:j<(rowsT t).length:=by have:=of_decide_eq_false a1;omega
  (repeat first | refine ⟨_,idx_rw hlt,?_⟩ | refine ⟨idx_rw hlt,?_⟩ | refine ⟨_,_,rfl,rfl,?_⟩ | refine ⟨_,eqI,?_⟩ | refine ⟨_,neI,?_⟩ | refine ⟨_,rfl,?_⟩ | refine ⟨rfl,?_⟩ | refine ⟨(by show _<=sizeLine;rw [sizeLine_eq];exact Nat.le_of_ble_eq_true rfl),?_⟩ | refine ⟨_,_,rfl,?_⟩ | refine ⟨_,_,_,rfl,?_⟩ | refine iteT ?_ | refine iteF ?_ | refine Or.inl ⟨rfl,?_⟩ | refine Or.inr ⟨rfl,?_⟩ | refine ⟨_,eqS_t (by decide +kernel),?_⟩ | refine ⟨_,eqS_f (by decide +kernel) (by decide +kernel),?_⟩ | refine ⟨_,inS_t (by decide +kernel),?_⟩ | refine ⟨_,inS_f (by decide +kernel),?_⟩)
  refine ⟨ro _ (mem_getD hlt),hj3,?_⟩
  (repeat first | refine ⟨_,_,rfl,rfl,?_⟩ | refine ⟨_,eqI,?_⟩ | refine ⟨_,neI,?_⟩ | refine ⟨_,rfl,?_⟩ | refine ⟨rfl,?_⟩ | refine ⟨(by show _<=sizeLine;rw [sizeLine_eq];exact Nat.le_of_ble_eq_true rfl),?_⟩ | refine ⟨_,_,rfl,?_⟩ | refine ⟨_,_,_,rfl,?_⟩ | refine iteT ?_ | refine iteF ?_ | refine Or.inl ⟨rfl,?_⟩ | refine Or.inr ⟨rfl,?_⟩ | refine ⟨_,eqS_t (by decide +kernel),?_⟩ | refine ⟨_,eqS_f (by decide +kernel) (by decide +kernel),?_⟩ | refine ⟨_,inS_t (by decide +kernel),?_⟩ | refine ⟨_,inS_f (by decide +kernel),?_⟩)
  refine iteB (fun a2=>?_) fun a2=>?_
  ·have hb:headAt (rowsT t) j=false:=by
    unfold headAt
    rw [not_t a2,Bool.and_false]
   unfold readH at q
   rw [bad_head g hb hj3] at q
   (repeat first | refine ⟨_,_,rfl,rfl,?_⟩ | refine ⟨_,eqI,?_⟩ | refine ⟨_,neI,?_⟩ | refine ⟨_,rfl,?_⟩ | refine ⟨rfl,?_⟩ | refine ⟨(by show _<=sizeLine;rw [sizeLine_eq];exact Nat.le_of_ble_eq_true rfl),?_⟩ | refine ⟨_,_,rfl,?_⟩ | refine ⟨_,_,_,rfl,?_⟩ | refine iteT ?_ | refine iteF ?_ | refine Or.inl ⟨rfl,?_⟩ | refine Or.inr ⟨rfl,?_⟩ | refine ⟨_,eqS_t (by decide +kernel),?_⟩ | refine ⟨_,eqS_f (by decide +kernel) (by decide +kernel),?_⟩ | refine ⟨_,inS_t (by decide +kernel),?_⟩ | refine ⟨_,inS_f (by decide +kernel),?_⟩)
   exact q
  ·refine hN _ ⟨_,rfl,fun i hi=>?_,hlt⟩
   rcases Nat.lt_succ_iff_lt_or_eq.mp hi with h | rfl
   ·exact g i h
   ·unfold headAt
    rw [decide_eq_true hlt,not_f a2]
    rfl
end
section
variable {P : Program} {w : World} {K : PySem.W.Frag} {mg : Str → Option Value} {base : Heap} {k : Nat}
abbrev sAlphabetL:Stmt:=top 23
theorem scAlphabetL:FnScope ["_law_state", "_law_most", "_law_letters"] ["_law_state", "_law_most"] (defScope sAlphabetL):=⟨rfl,rfl,rfl,by decide +kernel,rfl,by decide +kernel,by decide +kernel⟩
theorem d_law_alphabet (B:Blt mg) (d_law_draw:DDraw P w K mg base) (T:Top3 K mg "_law_alphabet" sAlphabetL):Def3 P w K mg base 2 "_law_alphabet" ["_law_state", "_law_most"] (spD K IsState 1 alphaGF):=by
 refine mk_D T scAlphabetL (fun _ _ _ _ _ _ us hl=>len2 hl fun _ _=>rfl) rfl fun f cdv A outer s H E O hφ C=>?_
 have hO:∀ j:Unit,IsState ((fun _:Unit=>O) j):=fun _=>hφ
 refine ⟨_,(ss_cons (s_set 2 e_str) (ss_one (s_ret (e_join C e_str (e_sortset C B (e_comp 1 ["_law_k", "_law_state", "_law_most", "_law_letters"] C (fun _ => .of rfl (by kernel_rfl)) (i_r1 C B (a_cons (e_add C e_int (e_callO 0 C d_law_draw hO (a_cons (e_var 1) a_nil))) a_nil)) (g_name 0) f_nil (e_idx (C.comp _ _) (e_var 3) (e_callO 1 (C.comp _ _) d_law_draw (upS hO) (a_cons e_int a_nil))))))))),fun ds Qr hn q=>?_⟩
 obtain ⟨n,rfl,n0,hn3,q⟩:=q
 have sz:=sizeLine_eq
 rw [abc_eq]
 refine ⟨rfl,_,rfl,rfl,_,_,rfl,rfl,rfl,_,rfl,by omega,by omega,fun k k0 k1=>?_⟩
 obtain ⟨m,rfl⟩:=Int.eq_ofNat_of_zero_le k0
 refine ⟨_,rfl,_,rfl,by omega,by omega,?_⟩
 refine comp_each (enc2:=fun c => .str (tx [c])) (good:=fun c=>c ∈ abc) (fun c hc Py hPy=>?_) (by rw [List.length_range];omega) fun ws hs hlp=>?_
 ·exact ⟨_,_,rfl,rfl,draw_k rfl (by decide) (by decide) fun k hk=>⟨_,idx_tx (abc_lt (by omega)) (by decide),hPy _ (List.getElem_mem _)⟩⟩
 ·rw [List.length_range] at hlp
  refine ⟨ws.map fun c=>tx [c],.inr (by rw [List.map_map];rfl),by rw [List.length_map];omega,fun zs nd hm so=>?_⟩
  obtain ⟨ls,rfl,hls⟩:=sgs_one (zs:=zs) (cs:=ws) fun z hz=>by
   obtain ⟨c,hc,e⟩:=List.mem_map.mp ((hm z).mp hz)
   exact ⟨c,hc,e.symm⟩
  have hl:=sub_few nd fun k hk=>(hm k).mp hk
  rw [List.length_map,List.length_map] at hl
  obtain ⟨ys,e1,e2,e3⟩:=join_ys ls (by omega)
  refine ⟨ys,?_,e2,?_⟩
  ·rw [<- e1]
   show PyData.list (List.map _ (List.map _ _))=_
   rw [List.map_map]
   rfl
  ·rw [e3]
   refine q ls (fun c hc=>abc_low c (hs c (hls c hc))) (fun e=>?_) (by omega) (sorted_inc (w:=ls) so (List.Pairwise.of_map (fun c=>tx [c]) (fun a b h e=>h (by rw [e])) nd))
   subst e
   obtain ⟨c,hc⟩:=List.exists_mem_of_length_pos (l:=ws) (by omega)
   exact absurd ((hm (tx [c])).mpr (List.mem_map.mpr ⟨c,hc,rfl⟩)) (by simp)
end
section
variable {P : Program} {w : World} {K : PySem.W.Frag} {mg : Str → Option Value} {base : Heap} {k : Nat}
abbrev sDeedL:Stmt:=top 24
theorem scDeedL:FnScope ["_law_state", "_law_letters", "_law_lines", "_law_flags", "_law_form", "_law_line", "_law_x"] ["_law_state", "_law_letters", "_law_lines", "_law_flags"] (defScope sDeedL):=⟨rfl,rfl,rfl,by decide +kernel,rfl,by decide +kernel,by decide +kernel⟩
theorem d_law_deed (B:Blt mg) (d_law_draw:DDraw P w K mg base) (T:Top3 K mg "_law_deed" sDeedL):Def3 P w K mg base 2 "_law_deed" ["_law_state", "_law_letters", "_law_lines", "_law_flags"] (spD K IsState 3 deedF):=by
 refine mk_D T scDeedL (fun _ _ _ _ _ _ us hl=>len4 hl fun _ _ _ _=>rfl) rfl fun f cdv A outer s H E O hφ C=>?_
 have hO:∀ j:Unit,IsState ((fun _:Unit=>O) j):=fun _=>hφ
 refine ⟨_,(ss_cons (s_set 4 (e_callO 0 C d_law_draw hO (a_cons (e_add C e_int (e_mulU C e_int (e_intU C B (a_cons (e_gt (e_var 3) e_int) a_nil)))) a_nil))) (ss_cons (s_set 5 (e_callO 0 C d_law_draw hO (a_cons (e_var 2) a_nil))) (ss_cons (s_set 6 (e_idx C (e_var 1) (e_callO 0 C d_law_draw hO (a_cons (e_len C B (a_cons (e_var 1) a_nil)) a_nil)))) (ss_cons (s_if (t_eq C (e_var 4) e_int) (ss_one (s_ret (e_tup (a_cons e_str a_nil)))) ss_nil) (ss_cons (s_if (t_lt (e_var 4) e_int) (ss_one (s_ret (e_tup (a_cons e_str (a_cons (e_var 5) (a_cons (e_var 6) a_nil)))))) ss_nil) (ss_cons (s_if (t_lt (e_var 4) e_int) (ss_one (s_ret (e_tup (a_cons e_str (a_cons (e_var 5) (a_cons (e_var 6) a_nil)))))) ss_nil) (ss_cons (s_if (t_eq C (e_var 4) e_int) (ss_one (s_ret (e_tup (a_cons e_str (a_cons (e_var 5) a_nil))))) ss_nil) (ss_one (s_ret (e_tup (a_cons (e_idx C (e_lst (a_cons e_str (a_cons e_str a_nil))) (e_sub (e_var 4) e_int)) (a_cons (e_callO 0 C d_law_draw hO (a_cons (e_var 3) a_nil)) (a_cons (e_callO 0 C d_law_draw hO (a_cons e_int a_nil)) a_nil))))))))))))),fun ds Qr hn q=>?_⟩
 obtain ⟨ls,l,f,rfl,hne,hl,l0,l1,f1,q⟩:=q
 have sz:=sizeLine_eq
 refine ⟨rfl,_,_,rfl,rfl,_,rfl,_,rfl,?_⟩
 obtain ⟨b,eb,b1,bf⟩:∃ b:Nat,(if decide ((0:Int)<(f:Nat))=true then (1:Int) else 0)=b/\b<=1/\(b=1->0<f):=by
  rcases Nat.eq_zero_or_pos f with h | h
  ·exact ⟨0,by rw [h];rfl,by omega,by omega⟩
  ·exact ⟨1,by rw [if_pos (decide_eq_true (by omega))];rfl,by omega,fun _=>h⟩
 dsimp only [R.d]
 rw [eb]
 refine ⟨_,rfl,by omega,by omega,.inl ⟨by decide,by decide⟩,_,rfl,rfl,_,rfl,by omega,by omega,fun k k0 k1=>⟨rfl,?_⟩⟩
 obtain ⟨m,rfl⟩:=Int.eq_ofNat_of_zero_le k0
 refine ⟨rfl,_,_,rfl,rfl,rfl,_,rfl,by omega,by omega,fun k2 k20 k21=>⟨rfl,?_⟩⟩
 obtain ⟨m2,rfl⟩:=Int.eq_ofNat_of_zero_le k20
 refine at_letter rfl rfl hne (by omega) fun c hc=>⟨rfl,?_⟩
 have t3:3<=sizeLine:=by omega
 have hm2:m2<l:=by omega
 refine ⟨_,_,rfl,rfl,_,nat_eq m 0,_,rfl,ite2 (fun _=>⟨Nat.le_trans (by decide) t3,q .go trivial⟩) fun z1=>?_⟩
 refine ⟨_,_,rfl,rfl,_,rfl,_,rfl,ite2 (fun _=>⟨_,_,rfl,rfl,_,_,rfl,rfl,t3,q (.send m2 c) ⟨hm2,hc⟩⟩) fun z2=>?_⟩
 refine ⟨_,_,rfl,rfl,_,rfl,_,rfl,ite2 (fun _=>⟨_,_,rfl,rfl,_,_,rfl,rfl,t3,q (.take m2 c) ⟨hm2,hc⟩⟩) fun z3=>?_⟩
 refine ⟨_,_,rfl,rfl,_,nat_eq m 5,_,rfl,ite2 (fun _=>⟨_,_,rfl,rfl,Nat.le_trans (show 2<=3 by decide) t3,q (.empty m2) hm2⟩) fun z4=>?_⟩
 have n3:¬ ((m:Int)<5):=fun h=>z3 (decide_eq_true h)
 have n4:¬ (m=5):=fun h=>z4 (decide_eq_true h)
 have hf:=bf (by omega)
 refine ⟨Nat.le_trans (by decide) t3,_,_,rfl,rfl,_,rfl,?_⟩
 rcases (by omega:m=6\/m=7) with rfl | rfl
 ·refine ⟨_,rfl,rfl,_,_,rfl,rfl,rfl,_,rfl,by omega,by omega,fun k3 k30 k31=>?_⟩
  obtain ⟨m3,rfl⟩:=Int.eq_ofNat_of_zero_le k30
  exact draw_k rfl (by decide) (by decide) fun k4 hk4=>⟨t3,q (.put m3 k4) ⟨by omega,by omega⟩⟩
 ·refine ⟨_,rfl,rfl,_,_,rfl,rfl,rfl,_,rfl,by omega,by omega,fun k3 k30 k31=>?_⟩
  obtain ⟨m3,rfl⟩:=Int.eq_ofNat_of_zero_le k30
  exact draw_k rfl (by decide) (by decide) fun k4 hk4=>⟨t3,q (.test m3 k4) ⟨by omega,by omega⟩⟩
end
section
variable {P : Program} {w : World} {K : PySem.W.Frag} {mg : Str → Option Value} {base : Heap} {k : Nat}
abbrev sHouseL:Stmt:=top 25
theorem scHouseL:FnScope ["_law_state", "_law_most", "_law_letters", "_law_lines", "_law_flags", "_law_hands", "_law_k", "_law_rooms", "_law_rules", "_law_j", "_law_p", "_law_q"] ["_law_state", "_law_most"] (defScope sHouseL):=⟨rfl,rfl,rfl,by decide +kernel,rfl,by decide +kernel,by decide +kernel⟩
theorem d_law_house (B:Blt mg) (d_law_draw:DDraw P w K mg base) (d_law_alphabet:Def3 P w K mg base 2 "_law_alphabet" ["_law_state", "_law_most"] (spD K IsState 1 alphaGF)) (d_law_deed:Def3 P w K mg base 2 "_law_deed" ["_law_state", "_law_letters", "_law_lines", "_law_flags"] (spD K IsState 3 deedF)) (T:Top3 K mg "_law_house" sHouseL):Def3 P w K mg base 3 "_law_house" ["_law_state", "_law_most"] (spD K IsState 1 houseGF):=by
 refine mk_D T scHouseL (fun _ _ _ _ _ _ us hl=>len2 hl fun _ _=>rfl) rfl fun f cdv A outer s H E O hφ C=>?_
 have hO:∀ j:Unit,IsState ((fun _:Unit=>O) j):=fun _=>hφ
 refine ⟨_,(ss_cons (s_set 2 (e_callO 0 C d_law_alphabet hO (a_cons e_int a_nil))) (ss_cons (s_set 3 (e_add C e_int (e_callO 0 C d_law_draw hO (a_cons e_int a_nil)))) (ss_cons (s_set 4 (e_callO 0 C d_law_draw hO (a_cons e_int a_nil))) (ss_cons (s_set 5 (e_lst a_nil)) (ss_cons (s_for C (j_new (i_r1 C B (a_cons (e_add C e_int (e_callO 0 C d_law_draw hO (a_cons e_int a_nil))) a_nil))) (g_name (h:=1000) 6) (ss_cons (s_set 7 (e_add C e_int (e_callO 0 C d_law_draw hO (a_cons e_int a_nil)))) (ss_cons (s_set 8 (e_lst a_nil)) (ss_cons (s_for C (j_new (i_r1 C B (a_cons (e_callO 0 C d_law_draw hO (a_cons (e_add C (e_var 1) e_int) a_nil)) a_nil))) (g_name (h:=1000) 9) (ss_cons (s_par 10 11 C (a_cons (e_callO 0 C d_law_draw hO (a_cons (e_var 7) a_nil)) (a_cons (e_callO 0 C d_law_draw hO (a_cons (e_var 7) a_nil)) a_nil))) (ss_one (s_app 8 C (e_tup (a_cons (e_var 10) (a_cons (e_callO 0 C d_law_deed hO (a_cons (e_var 2) (a_cons (e_var 3) (a_cons (e_var 4) a_nil)))) (a_cons (e_var 11) a_nil)))))))) (ss_one (s_app 5 C (e_tup (a_cons (e_var 7) (a_cons (e_tuplec C B (a_cons (e_var 8) a_nil)) a_nil))))))))) (ss_one (s_ret (e_tup (a_cons (e_var 2) (a_cons (e_var 3) (a_cons (e_var 4) (a_cons (e_tuplec C B (a_cons (e_var 5) a_nil)) a_nil)))))))))))),fun ds Qr hn q=>?_⟩
 obtain ⟨n,rfl,hn3,q⟩:=q
 have sz:=sizeLine_eq
 refine ⟨rfl,rfl,3,rfl,by decide,by decide,fun ls hlow hne hls hri=>⟨rfl,?_⟩⟩
 refine draw_k rfl (by decide) (by decide) fun k1 hk1=>⟨_,rfl,rfl,?_⟩
 refine draw_k rfl (by decide) (by decide) fun k2 hk2=>⟨rfl,?_⟩
 refine ⟨Nat.zero_le _,rfl,?_⟩
 refine draw_k rfl (by decide) (by decide) fun k3 hk3=>⟨_,rfl,_,rfl,by omega,by omega,rfl,?_⟩
 refine forGo_rev (fun j ρ=>∃ (hs:List Hnd) (o6 o7 o8 o9 o10 o11:Option DV),ρ = [some .ob,some (.im (.int (n:Nat))),some (.im (.str (tx ls))),some (.im (.int (1+(k1:Nat)))),some (.im (.int (k2:Nat))),some (.own (hs.map encHd)),o6,o7,o8,o9,o10,o11]/\hs.length=j/\∀ x ∈ hs,HdOk ls (1+k1) k2 x/\1<=x.n/\x.n<=3/\x.rs.length<=5/\∀ r ∈ x.rs,r.p<x.n/\r.q<x.n) ⟨[],none,none,none,none,none,none,rfl,rfl,fun x h=>(List.not_mem_nil h).elim⟩ (fun ρ zz=>?_) fun j d ρ N hd hN zz=>?_
 ·obtain ⟨hs,o6,o7,o8,o9,o10,o11,e,h1,h2⟩:=zz
  subst e
  rw [numsD_len] at h1
  exact ⟨_,_,rfl,rfl,_,_,rfl,rfl,_,_,rfl,rfl,_,_,rfl,rfl,_,rfl,(by show 4<=sizeLine;omega),q ⟨ls,1+k1,k2,hs⟩ ⟨⟨hlow,hne,by show ls.length<=100;omega,by show 1+k1<=100;omega,by show k2<=100;omega,by show hs.length<=100;omega,fun x hx=>(h2 x hx).1.1,fun x hx=>(h2 x hx).1.2⟩,hri,hls,by show 1<=1+k1;omega,by show 1+k1<=2;omega,by show k2<=2;omega,by show 1<=hs.length;omega,by show hs.length<=2;omega,fun x hx=>(h2 x hx).2⟩⟩
 ·obtain ⟨hs,o6,o7,o8,o9,o10,o11,e,h1,h2⟩:=zz
  subst e
  obtain ⟨hj,rfl⟩:=numsD_get hd
  refine ⟨rfl,?_⟩
  refine draw_k rfl (by decide) (by decide) fun k4 hk4=>⟨_,rfl,rfl,?_⟩
  refine ⟨Nat.zero_le _,rfl,?_⟩
  refine ⟨rfl,_,_,rfl,rfl,_,rfl,rfl,_,rfl,by omega,by omega,fun k5 k50 k51=>⟨_,rfl,by omega,by omega,rfl,?_⟩⟩
  refine forGo_rev (fun i ρ=>∃ (rs:List Rul) (o9 o10 o11:Option DV),ρ = [some .ob,some (.im (.int (n:Nat))),some (.im (.str (tx ls))),some (.im (.int (1+(k1:Nat)))),some (.im (.int (k2:Nat))),some (.own (hs.map encHd)),some (.im (.int (0+(j:Nat)))),some (.im (.int (1+(k4:Nat)))),some (.own (rs.map encRu)),o9,o10,o11]/\rs.length<=i/\∀ r ∈ rs,RuOk ls (1+k1) k2 r/\r.p<1+k4/\r.q<1+k4) ⟨[],_,_,_,rfl,Nat.zero_le _,fun x h=>(List.not_mem_nil h).elim⟩ (fun ρ zz=>?_) fun i d ρ N hd hN zz=>?_
  ·obtain ⟨rs,o9,o10,o11,e,g1,g2⟩:=zz
   subst e
   rw [numsD_len] at g1
   refine ⟨_,rfl,_,_,rfl,rfl,_,_,rfl,rfl,_,rfl,(by show 2<=sizeLine;omega),flat_hd ⟨1+k4,rs⟩,(by rw [List.length_map];omega),hN _ ⟨hs ++ [⟨1+k4,rs⟩],some (.im (.int (0+(j:Nat)))),some (.im (.int (1+(k4:Nat)))),some (.own (rs.map encRu)),o9,o10,o11,?_,?_,mem_snoc h2 ⟨⟨⟨by show 0<1+k4;omega,by show 1+k4<=100;omega⟩,by show rs.length<=100;omega,fun r hr=>(g2 r hr).1⟩,by show 1<=1+k4;omega,by show 1+k4<=3;omega,by show rs.length<=5;omega,fun r hr=>(g2 r hr).2⟩⟩⟩
   ·rw [List.map_append]
    rfl
   ·rw [List.length_append,List.length_singleton]
    omega
  ·obtain ⟨rs,o9,o10,o11,e,g1,g2⟩:=zz
   subst e
   obtain ⟨hi,rfl⟩:=numsD_get hd
   refine ⟨rfl,?_⟩
   refine ⟨rfl,_,_,rfl,rfl,rfl,_,rfl,by omega,by omega,fun a a0 a1=>?_⟩
   refine ⟨rfl,_,_,rfl,rfl,rfl,_,rfl,by omega,by omega,fun b b0 b1=>⟨_,_,rfl,rfl,rfl,?_⟩⟩
   obtain ⟨a,rfl⟩:=Int.eq_ofNat_of_zero_le a0
   obtain ⟨b,rfl⟩:=Int.eq_ofNat_of_zero_le b0
   refine ⟨_,rfl,_,_,rfl,rfl,rfl,_,_,rfl,rfl,_,_,rfl,rfl,_,_,rfl,rfl,rfl,ls,1+k1,k2,rfl,hne,by omega,by omega,by omega,by omega,fun d hd=>?_⟩
   refine ⟨_,_,rfl,rfl,(by show 3<=sizeLine;omega),flat_ru ⟨a,d,b⟩,(by rw [List.length_map];omega),hN _ ⟨rs ++ [⟨a,d,b⟩],some (.im (.int (0+(i:Nat)))),some (.im (.int (a:Nat))),some (.im (.int (b:Nat))),?_,?_,mem_snoc g2 ⟨⟨hd,by show a<=100;omega,by show b<=100;omega⟩,by show a<1+k4;omega,by show b<1+k4;omega⟩⟩⟩
   ·rw [List.map_append]
    rfl
   ·rw [List.length_append,List.length_singleton]
    omega
end
section
variable {P : Program} {w : World} {K : PySem.W.Frag} {mg : Str → Option Value} {base : Heap} {k : Nat}
abbrev sNumberL:Stmt:=top 26
theorem scNumberL:FnScope ["_law_state"] ["_law_state"] (defScope sNumberL):=⟨rfl,rfl,rfl,by decide +kernel,rfl,by decide +kernel,by decide +kernel⟩
theorem d_law_number (B:Blt mg) (d_law_draw:DDraw P w K mg base) (T:Top3 K mg "_law_number" sNumberL):Def3 P w K mg base 2 "_law_number" ["_law_state"] (spD K IsState 0 numLF):=by
 refine mk_D T scNumberL (fun _ _ _ _ _ _ us hl=>len1 hl fun _=>rfl) rfl fun f cdv A outer s H E O hφ C=>?_
 have hO:∀ j:Unit,IsState ((fun _:Unit=>O) j):=fun _=>hφ
 refine ⟨_,(ss_one (s_ret (e_callO 0 C d_law_draw hO (a_cons (e_idx C (e_lst (a_cons e_int (a_cons e_int (a_cons e_int (a_cons e_int a_nil))))) (e_callO 0 C d_law_draw hO (a_cons e_int a_nil))) a_nil)))),fun ds Qr hn q=>?_⟩
 obtain ⟨rfl,q⟩:=q
 (repeat first | refine ⟨_,_,rfl,rfl,?_⟩ | refine ⟨_,eqI,?_⟩ | refine ⟨_,neI,?_⟩ | refine ⟨_,rfl,?_⟩ | refine ⟨rfl,?_⟩ | refine ⟨(by show _<=sizeLine;rw [sizeLine_eq];exact Nat.le_of_ble_eq_true rfl),?_⟩ | refine ⟨_,_,rfl,?_⟩ | refine ⟨_,_,_,rfl,?_⟩ | refine iteT ?_ | refine iteF ?_ | refine Or.inl ⟨rfl,?_⟩ | refine Or.inr ⟨rfl,?_⟩ | refine ⟨_,eqS_t (by decide +kernel),?_⟩ | refine ⟨_,eqS_f (by decide +kernel) (by decide +kernel),?_⟩ | refine ⟨_,inS_t (by decide +kernel),?_⟩ | refine ⟨_,inS_f (by decide +kernel),?_⟩)
 refine dr (by decide) (by decide) fun k hk=>?_
 obtain rfl | rfl | rfl | rfl:k=0\/k=1\/k=2\/k=3:=by omega
 ·(repeat first | refine ⟨_,_,rfl,rfl,?_⟩ | refine ⟨_,eqI,?_⟩ | refine ⟨_,neI,?_⟩ | refine ⟨_,rfl,?_⟩ | refine ⟨rfl,?_⟩ | refine ⟨(by show _<=sizeLine;rw [sizeLine_eq];exact Nat.le_of_ble_eq_true rfl),?_⟩ | refine ⟨_,_,rfl,?_⟩ | refine ⟨_,_,_,rfl,?_⟩ | refine iteT ?_ | refine iteF ?_ | refine Or.inl ⟨rfl,?_⟩ | refine Or.inr ⟨rfl,?_⟩ | refine ⟨_,eqS_t (by decide +kernel),?_⟩ | refine ⟨_,eqS_f (by decide +kernel) (by decide +kernel),?_⟩ | refine ⟨_,inS_t (by decide +kernel),?_⟩ | refine ⟨_,inS_f (by decide +kernel),?_⟩)
  exact dr (by decide) (by decide) fun m hm=>q m (by omega)
 ·(repeat first | refine ⟨_,_,rfl,rfl,?_⟩ | refine ⟨_,eqI,?_⟩ | refine ⟨_,neI,?_⟩ | refine ⟨_,rfl,?_⟩ | refine ⟨rfl,?_⟩ | refine ⟨(by show _<=sizeLine;rw [sizeLine_eq];exact Nat.le_of_ble_eq_true rfl),?_⟩ | refine ⟨_,_,rfl,?_⟩ | refine ⟨_,_,_,rfl,?_⟩ | refine iteT ?_ | refine iteF ?_ | refine Or.inl ⟨rfl,?_⟩ | refine Or.inr ⟨rfl,?_⟩ | refine ⟨_,eqS_t (by decide +kernel),?_⟩ | refine ⟨_,eqS_f (by decide +kernel) (by decide +kernel),?_⟩ | refine ⟨_,inS_t (by decide +kernel),?_⟩ | refine ⟨_,inS_f (by decide +kernel),?_⟩)
  exact dr (by decide) (by decide) fun m hm=>q m (by omega)
 ·(repeat first | refine ⟨_,_,rfl,rfl,?_⟩ | refine ⟨_,eqI,?_⟩ | refine ⟨_,neI,?_⟩ | refine ⟨_,rfl,?_⟩ | refine ⟨rfl,?_⟩ | refine ⟨(by show _<=sizeLine;rw [sizeLine_eq];exact Nat.le_of_ble_eq_true rfl),?_⟩ | refine ⟨_,_,rfl,?_⟩ | refine ⟨_,_,_,rfl,?_⟩ | refine iteT ?_ | refine iteF ?_ | refine Or.inl ⟨rfl,?_⟩ | refine Or.inr ⟨rfl,?_⟩ | refine ⟨_,eqS_t (by decide +kernel),?_⟩ | refine ⟨_,eqS_f (by decide +kernel) (by decide +kernel),?_⟩ | refine ⟨_,inS_t (by decide +kernel),?_⟩ | refine ⟨_,inS_f (by decide +kernel),?_⟩)
  exact dr (by decide) (by decide) fun m hm=>q m (by omega)
 ·(repeat first | refine ⟨_,_,rfl,rfl,?_⟩ | refine ⟨_,eqI,?_⟩ | refine ⟨_,neI,?_⟩ | refine ⟨_,rfl,?_⟩ | refine ⟨rfl,?_⟩ | refine ⟨(by show _<=sizeLine;rw [sizeLine_eq];exact Nat.le_of_ble_eq_true rfl),?_⟩ | refine ⟨_,_,rfl,?_⟩ | refine ⟨_,_,_,rfl,?_⟩ | refine iteT ?_ | refine iteF ?_ | refine Or.inl ⟨rfl,?_⟩ | refine Or.inr ⟨rfl,?_⟩ | refine ⟨_,eqS_t (by decide +kernel),?_⟩ | refine ⟨_,eqS_f (by decide +kernel) (by decide +kernel),?_⟩ | refine ⟨_,inS_t (by decide +kernel),?_⟩ | refine ⟨_,inS_f (by decide +kernel),?_⟩)
  exact dr (by decide) (by decide) fun m hm=>q m (by omega)
end
section
variable {P : Program} {w : World} {K : PySem.W.Frag} {mg : Str → Option Value} {base : Heap} {k : Nat}
abbrev sAnyHouseL:Stmt:=top 27
theorem scAnyHouseL:FnScope ["_law_state", "_law_letters", "_law_some", "_law_hands", "_law_k", "_law_rules", "_law_j", "_law_form", "_law_deed_here"] ["_law_state"] (defScope sAnyHouseL):=⟨rfl,rfl,rfl,by decide +kernel,rfl,by decide +kernel,by decide +kernel⟩
theorem d_law_any_house (B:Blt mg) (d_law_draw:DDraw P w K mg base) (d_law_alphabet:Def3 P w K mg base 2 "_law_alphabet" ["_law_state", "_law_most"] (spD K IsState 1 alphaGF)) (d_law_number:Def3 P w K mg base 2 "_law_number" ["_law_state"] (spD K IsState 0 numLF)) (T:Top3 K mg "_law_any_house" sAnyHouseL):Def3 P w K mg base 3 "_law_any_house" ["_law_state"] (spD K IsState 0 anyHF):=by
 refine mk_D T scAnyHouseL (fun _ _ _ _ _ _ us hl=>len1 hl fun _=>rfl) rfl fun f cdv A outer s H E O hφ C=>?_
 have hO:∀ j:Unit,IsState ((fun _:Unit=>O) j):=fun _=>hφ
 refine ⟨_,(ss_cons (s_set 1 (e_callO 0 C d_law_alphabet hO (a_cons (e_idx C (e_lst (a_cons e_int (a_cons e_int (a_cons e_int a_nil)))) (e_callO 0 C d_law_draw hO (a_cons e_int a_nil))) a_nil))) (ss_cons (s_set 2 e_str) (ss_cons (s_set 3 (e_lst a_nil)) (ss_cons (s_for C (j_new (i_r1 C B (a_cons (e_callO 0 C d_law_draw hO (a_cons e_int a_nil)) a_nil))) (g_name (h:=1000) 4) (ss_cons (s_set 5 (e_lst a_nil)) (ss_cons (s_for C (j_new (i_r1 C B (a_cons (e_callO 0 C d_law_draw hO (a_cons e_int a_nil)) a_nil))) (g_name (h:=1000) 6) (ss_cons (s_set 7 (e_idx C (e_lst (a_cons e_str (a_cons e_str (a_cons e_str (a_cons e_str (a_cons e_str (a_cons e_str a_nil))))))) (e_callO 0 C d_law_draw hO (a_cons e_int a_nil)))) (ss_cons (s_set 8 (e_tup (a_cons (e_var 7) (a_cons (e_callO 0 C d_law_number hO a_nil) a_nil)))) (ss_cons (s_if (t_in C (e_var 7) (e_tup (a_cons e_str (a_cons e_str a_nil)))) (ss_one (s_set 8 (e_add C (e_var 8) (e_tup (a_cons (e_idx C (e_var 2) (e_callO 0 C d_law_draw hO (a_cons e_int a_nil))) a_nil))))) ss_nil) (ss_cons (s_if (t_in C (e_var 7) (e_tup (a_cons e_str (a_cons e_str a_nil)))) (ss_one (s_set 8 (e_add C (e_var 8) (e_tup (a_cons (e_callO 0 C d_law_number hO a_nil) a_nil))))) ss_nil) (ss_cons (s_if (t_eq C (e_var 7) e_str) (ss_one (s_set 8 (e_tup (a_cons e_str a_nil)))) ss_nil) (ss_one (s_app 5 C (e_tup (a_cons (e_callO 0 C d_law_number hO a_nil) (a_cons (e_var 8) (a_cons (e_callO 0 C d_law_number hO a_nil) a_nil)))))))))))) (ss_one (s_app 3 C (e_tup (a_cons (e_callO 0 C d_law_number hO a_nil) (a_cons (e_tuplec C B (a_cons (e_var 5) a_nil)) a_nil)))))))) (ss_one (s_ret (e_tup (a_cons (e_var 1) (a_cons (e_callO 0 C d_law_number hO a_nil) (a_cons (e_callO 0 C d_law_number hO a_nil) (a_cons (e_tuplec C B (a_cons (e_var 3) a_nil)) a_nil))))))))))),fun ds Qr hn q=>?_⟩
 obtain ⟨rfl,q⟩:=q
 have sz:=sizeLine_eq
 (repeat first | refine ⟨_,_,rfl,rfl,?_⟩ | refine ⟨_,eqI,?_⟩ | refine ⟨_,neI,?_⟩ | refine ⟨_,rfl,?_⟩ | refine ⟨rfl,?_⟩ | refine ⟨(by show _<=sizeLine;rw [sizeLine_eq];exact Nat.le_of_ble_eq_true rfl),?_⟩ | refine ⟨_,_,rfl,?_⟩ | refine ⟨_,_,_,rfl,?_⟩ | refine iteT ?_ | refine iteF ?_ | refine Or.inl ⟨rfl,?_⟩ | refine Or.inr ⟨rfl,?_⟩ | refine ⟨_,eqS_t (by decide +kernel),?_⟩ | refine ⟨_,eqS_f (by decide +kernel) (by decide +kernel),?_⟩ | refine ⟨_,inS_t (by decide +kernel),?_⟩ | refine ⟨_,inS_f (by decide +kernel),?_⟩)
 refine dr (by decide) (by decide) fun k hk=>?_
 obtain ⟨m,em,m0,m26⟩:∃ m:Nat,idxF (.list [.int 3,.int 3,.int 26]) (.int (k:Nat))=some (.o (.int (m:Nat)))/\0<m/\m<=26:=by
  obtain rfl | rfl | rfl:k=0\/k=1\/k=2:=by omega
  ·exact ⟨3,rfl,by decide,by decide⟩
  ·exact ⟨3,rfl,by decide,by decide⟩
  ·exact ⟨26,rfl,by decide,by decide⟩
 (repeat first | refine ⟨_,em,?_⟩ | refine ⟨em,?_⟩ | refine ⟨_,_,rfl,rfl,?_⟩ | refine ⟨_,eqI,?_⟩ | refine ⟨_,neI,?_⟩ | refine ⟨_,rfl,?_⟩ | refine ⟨rfl,?_⟩ | refine ⟨(by show _<=sizeLine;rw [sizeLine_eq];exact Nat.le_of_ble_eq_true rfl),?_⟩ | refine ⟨_,_,rfl,?_⟩ | refine ⟨_,_,_,rfl,?_⟩ | refine iteT ?_ | refine iteF ?_ | refine Or.inl ⟨rfl,?_⟩ | refine Or.inr ⟨rfl,?_⟩ | refine ⟨_,eqS_t (by decide +kernel),?_⟩ | refine ⟨_,eqS_f (by decide +kernel) (by decide +kernel),?_⟩ | refine ⟨_,inS_t (by decide +kernel),?_⟩ | refine ⟨_,inS_f (by decide +kernel),?_⟩)
 refine ⟨m0,m26,fun ls hlow hne hlen hri=>?_⟩
 (repeat first | refine ⟨_,_,rfl,rfl,?_⟩ | refine ⟨_,eqI,?_⟩ | refine ⟨_,neI,?_⟩ | refine ⟨_,rfl,?_⟩ | refine ⟨rfl,?_⟩ | refine ⟨(by show _<=sizeLine;rw [sizeLine_eq];exact Nat.le_of_ble_eq_true rfl),?_⟩ | refine ⟨_,_,rfl,?_⟩ | refine ⟨_,_,_,rfl,?_⟩ | refine iteT ?_ | refine iteF ?_ | refine Or.inl ⟨rfl,?_⟩ | refine Or.inr ⟨rfl,?_⟩ | refine ⟨_,eqS_t (by decide +kernel),?_⟩ | refine ⟨_,eqS_f (by decide +kernel) (by decide +kernel),?_⟩ | refine ⟨_,inS_t (by decide +kernel),?_⟩ | refine ⟨_,inS_f (by decide +kernel),?_⟩)
 refine dr (by decide) (by decide) fun kh hkh=>?_
 (repeat first | refine ⟨_,_,rfl,rfl,?_⟩ | refine ⟨_,eqI,?_⟩ | refine ⟨_,neI,?_⟩ | refine ⟨_,rfl,?_⟩ | refine ⟨rfl,?_⟩ | refine ⟨(by show _<=sizeLine;rw [sizeLine_eq];exact Nat.le_of_ble_eq_true rfl),?_⟩ | refine ⟨_,_,rfl,?_⟩ | refine ⟨_,_,_,rfl,?_⟩ | refine iteT ?_ | refine iteF ?_ | refine Or.inl ⟨rfl,?_⟩ | refine Or.inr ⟨rfl,?_⟩ | refine ⟨_,eqS_t (by decide +kernel),?_⟩ | refine ⟨_,eqS_f (by decide +kernel) (by decide +kernel),?_⟩ | refine ⟨_,inS_t (by decide +kernel),?_⟩ | refine ⟨_,inS_f (by decide +kernel),?_⟩)
 refine ⟨by omega,by omega,rfl,?_⟩
 refine forGo_rev (fun j ρ=>∃ (hs:List Hnd) (o4 o5 o6 o7 o8:Option DV),ρ = [some .ob,some (.im (.str (tx ls))),some (.im (.str (tx abc))),some (.own (hs.map encHd)),o4,o5,o6,o7,o8]/\hs.length=j/\∀ x ∈ hs,x.n<1000/\x.rs.length<=6/\∀ r ∈ x.rs,RuT r) ⟨[],none,none,none,none,none,rfl,rfl,fun x h=>(List.not_mem_nil h).elim⟩ (fun ρ zz=>?_) fun j d ρ N hd hN zz=>?_
 ·obtain ⟨hs,o4,o5,o6,o7,o8,e,h1,h2⟩:=zz
  subst e
  rw [numsD_len] at h1
  (repeat first | refine ⟨_,_,rfl,rfl,?_⟩ | refine ⟨_,eqI,?_⟩ | refine ⟨_,neI,?_⟩ | refine ⟨_,rfl,?_⟩ | refine ⟨rfl,?_⟩ | refine ⟨(by show _<=sizeLine;rw [sizeLine_eq];exact Nat.le_of_ble_eq_true rfl),?_⟩ | refine ⟨_,_,rfl,?_⟩ | refine ⟨_,_,_,rfl,?_⟩ | refine iteT ?_ | refine iteF ?_ | refine Or.inl ⟨rfl,?_⟩ | refine Or.inr ⟨rfl,?_⟩ | refine ⟨_,eqS_t (by decide +kernel),?_⟩ | refine ⟨_,eqS_f (by decide +kernel) (by decide +kernel),?_⟩ | refine ⟨_,inS_t (by decide +kernel),?_⟩ | refine ⟨_,inS_f (by decide +kernel),?_⟩)
  intro n1 hn1
  (repeat first | refine ⟨_,_,rfl,rfl,?_⟩ | refine ⟨_,eqI,?_⟩ | refine ⟨_,neI,?_⟩ | refine ⟨_,rfl,?_⟩ | refine ⟨rfl,?_⟩ | refine ⟨(by show _<=sizeLine;rw [sizeLine_eq];exact Nat.le_of_ble_eq_true rfl),?_⟩ | refine ⟨_,_,rfl,?_⟩ | refine ⟨_,_,_,rfl,?_⟩ | refine iteT ?_ | refine iteF ?_ | refine Or.inl ⟨rfl,?_⟩ | refine Or.inr ⟨rfl,?_⟩ | refine ⟨_,eqS_t (by decide +kernel),?_⟩ | refine ⟨_,eqS_f (by decide +kernel) (by decide +kernel),?_⟩ | refine ⟨_,inS_t (by decide +kernel),?_⟩ | refine ⟨_,inS_f (by decide +kernel),?_⟩)
  intro n2 hn2
  (repeat first | refine ⟨_,_,rfl,rfl,?_⟩ | refine ⟨_,eqI,?_⟩ | refine ⟨_,neI,?_⟩ | refine ⟨_,rfl,?_⟩ | refine ⟨rfl,?_⟩ | refine ⟨(by show _<=sizeLine;rw [sizeLine_eq];exact Nat.le_of_ble_eq_true rfl),?_⟩ | refine ⟨_,_,rfl,?_⟩ | refine ⟨_,_,_,rfl,?_⟩ | refine iteT ?_ | refine iteF ?_ | refine Or.inl ⟨rfl,?_⟩ | refine Or.inr ⟨rfl,?_⟩ | refine ⟨_,eqS_t (by decide +kernel),?_⟩ | refine ⟨_,eqS_f (by decide +kernel) (by decide +kernel),?_⟩ | refine ⟨_,inS_t (by decide +kernel),?_⟩ | refine ⟨_,inS_f (by decide +kernel),?_⟩)
  exact q ⟨ls,n1,n2,hs⟩ ⟨alph_of hlow hri,hne,hn1,hn2,fun x hx=>⟨(h2 x hx).1,(h2 x hx).2.2⟩⟩ ⟨by show ls.length<=26;omega,by show hs.length<=3;omega,fun x hx=>(h2 x hx).2.1⟩
 ·obtain ⟨hs,o4,o5,o6,o7,o8,e,h1,h2⟩:=zz
  subst e
  obtain ⟨hj,rfl⟩:=numsD_get hd
  refine ⟨rfl,?_⟩
  (repeat first | refine ⟨_,_,rfl,rfl,?_⟩ | refine ⟨_,eqI,?_⟩ | refine ⟨_,neI,?_⟩ | refine ⟨_,rfl,?_⟩ | refine ⟨rfl,?_⟩ | refine ⟨(by show _<=sizeLine;rw [sizeLine_eq];exact Nat.le_of_ble_eq_true rfl),?_⟩ | refine ⟨_,_,rfl,?_⟩ | refine ⟨_,_,_,rfl,?_⟩ | refine iteT ?_ | refine iteF ?_ | refine Or.inl ⟨rfl,?_⟩ | refine Or.inr ⟨rfl,?_⟩ | refine ⟨_,eqS_t (by decide +kernel),?_⟩ | refine ⟨_,eqS_f (by decide +kernel) (by decide +kernel),?_⟩ | refine ⟨_,inS_t (by decide +kernel),?_⟩ | refine ⟨_,inS_f (by decide +kernel),?_⟩)
  refine dr (by decide) (by decide) fun kr hkr=>?_
  (repeat first | refine ⟨_,_,rfl,rfl,?_⟩ | refine ⟨_,eqI,?_⟩ | refine ⟨_,neI,?_⟩ | refine ⟨_,rfl,?_⟩ | refine ⟨rfl,?_⟩ | refine ⟨(by show _<=sizeLine;rw [sizeLine_eq];exact Nat.le_of_ble_eq_true rfl),?_⟩ | refine ⟨_,_,rfl,?_⟩ | refine ⟨_,_,_,rfl,?_⟩ | refine iteT ?_ | refine iteF ?_ | refine Or.inl ⟨rfl,?_⟩ | refine Or.inr ⟨rfl,?_⟩ | refine ⟨_,eqS_t (by decide +kernel),?_⟩ | refine ⟨_,eqS_f (by decide +kernel) (by decide +kernel),?_⟩ | refine ⟨_,inS_t (by decide +kernel),?_⟩ | refine ⟨_,inS_f (by decide +kernel),?_⟩)
  refine ⟨by omega,by omega,rfl,?_⟩
  refine forGo_rev (fun i ρ=>∃ (rs:List Rul) (d4:DV) (o6 o7 o8:Option DV),ρ = [some .ob,some (.im (.str (tx ls))),some (.im (.str (tx abc))),some (.own (hs.map encHd)),some d4,some (.own (rs.map encRu)),o6,o7,o8]/\rs.length=i/\∀ r ∈ rs,RuT r) ⟨[],_,o6,o7,o8,rfl,rfl,fun x h=>(List.not_mem_nil h).elim⟩ (fun ρ zz=>?_) fun i d ρ N' hd' hN' zz=>?_
  ·obtain ⟨rs,d4,o6,o7,o8,e,g1,g2⟩:=zz
   subst e
   rw [numsD_len] at g1
   (repeat first | refine ⟨_,_,rfl,rfl,?_⟩ | refine ⟨_,eqI,?_⟩ | refine ⟨_,neI,?_⟩ | refine ⟨_,rfl,?_⟩ | refine ⟨rfl,?_⟩ | refine ⟨(by show _<=sizeLine;rw [sizeLine_eq];exact Nat.le_of_ble_eq_true rfl),?_⟩ | refine ⟨_,_,rfl,?_⟩ | refine ⟨_,_,_,rfl,?_⟩ | refine iteT ?_ | refine iteF ?_ | refine Or.inl ⟨rfl,?_⟩ | refine Or.inr ⟨rfl,?_⟩ | refine ⟨_,eqS_t (by decide +kernel),?_⟩ | refine ⟨_,eqS_f (by decide +kernel) (by decide +kernel),?_⟩ | refine ⟨_,inS_t (by decide +kernel),?_⟩ | refine ⟨_,inS_f (by decide +kernel),?_⟩)
   intro n hn
   (repeat first | refine ⟨_,_,rfl,rfl,?_⟩ | refine ⟨_,eqI,?_⟩ | refine ⟨_,neI,?_⟩ | refine ⟨_,rfl,?_⟩ | refine ⟨rfl,?_⟩ | refine ⟨(by show _<=sizeLine;rw [sizeLine_eq];exact Nat.le_of_ble_eq_true rfl),?_⟩ | refine ⟨_,_,rfl,?_⟩ | refine ⟨_,_,_,rfl,?_⟩ | refine iteT ?_ | refine iteF ?_ | refine Or.inl ⟨rfl,?_⟩ | refine Or.inr ⟨rfl,?_⟩ | refine ⟨_,eqS_t (by decide +kernel),?_⟩ | refine ⟨_,eqS_f (by decide +kernel) (by decide +kernel),?_⟩ | refine ⟨_,inS_t (by decide +kernel),?_⟩ | refine ⟨_,inS_f (by decide +kernel),?_⟩)
   refine ⟨flat_hd ⟨n,rs⟩,by rw [List.length_map];omega,hN _ ⟨hs ++ [⟨n,rs⟩],_,_,_,_,_,by rw [List.map_append];rfl,by rw [List.length_append,h1];rfl,fun x hx=>?_⟩⟩
   rcases List.mem_append.mp hx with hx | hx
   ·exact h2 x hx
   ·rw [List.mem_singleton.mp hx]
    exact ⟨hn,by show rs.length<=6;omega,g2⟩
  ·obtain ⟨rs,d4,o6,o7,o8,e,g1,g2⟩:=zz
   subst e
   obtain ⟨hi,rfl⟩:=numsD_get hd'
   have fin:∀ (r:Rul),RuT r->∀ {d:PyData},d=encRu r->∀ o6 o7 o8,flat d=true/\(rs.map encRu).length<sizeLine/\N' [some .ob,some (.im (.str (tx ls))),some (.im (.str (tx abc))),some (.own (hs.map encHd)),some d4,some (.own (rs.map encRu ++ [d])),o6,o7,o8]:=fun r hr d ed o6 o7 o8=>by
    subst ed
    refine ⟨flat_ru r,by rw [List.length_map];omega,hN' _ ⟨rs ++ [r],_,_,_,_,by rw [List.map_append];rfl,by rw [List.length_append,g1];rfl,fun x hx=>?_⟩⟩
    rcases List.mem_append.mp hx with hx | hx
    ·exact g2 x hx
    ·rw [List.mem_singleton.mp hx];exact hr
   refine ⟨rfl,?_⟩
   (repeat first | refine ⟨_,_,rfl,rfl,?_⟩ | refine ⟨_,eqI,?_⟩ | refine ⟨_,neI,?_⟩ | refine ⟨_,rfl,?_⟩ | refine ⟨rfl,?_⟩ | refine ⟨(by show _<=sizeLine;rw [sizeLine_eq];exact Nat.le_of_ble_eq_true rfl),?_⟩ | refine ⟨_,_,rfl,?_⟩ | refine ⟨_,_,_,rfl,?_⟩ | refine iteT ?_ | refine iteF ?_ | refine Or.inl ⟨rfl,?_⟩ | refine Or.inr ⟨rfl,?_⟩ | refine ⟨_,eqS_t (by decide +kernel),?_⟩ | refine ⟨_,eqS_f (by decide +kernel) (by decide +kernel),?_⟩ | refine ⟨_,inS_t (by decide +kernel),?_⟩ | refine ⟨_,inS_f (by decide +kernel),?_⟩)
   refine dr (by decide) (by decide) fun kf hkf=>?_
   obtain rfl | rfl | rfl | rfl | rfl | rfl:kf=0\/kf=1\/kf=2\/kf=3\/kf=4\/kf=5:=by omega
   ·(repeat first | refine ⟨_,_,rfl,rfl,?_⟩ | refine ⟨_,eqI,?_⟩ | refine ⟨_,neI,?_⟩ | refine ⟨_,rfl,?_⟩ | refine ⟨rfl,?_⟩ | refine ⟨(by show _<=sizeLine;rw [sizeLine_eq];exact Nat.le_of_ble_eq_true rfl),?_⟩ | refine ⟨_,_,rfl,?_⟩ | refine ⟨_,_,_,rfl,?_⟩ | refine iteT ?_ | refine iteF ?_ | refine Or.inl ⟨rfl,?_⟩ | refine Or.inr ⟨rfl,?_⟩ | refine ⟨_,eqS_t (by decide +kernel),?_⟩ | refine ⟨_,eqS_f (by decide +kernel) (by decide +kernel),?_⟩ | refine ⟨_,inS_t (by decide +kernel),?_⟩ | refine ⟨_,inS_f (by decide +kernel),?_⟩)
    intro n0 h0
    (repeat first | refine ⟨_,_,rfl,rfl,?_⟩ | refine ⟨_,eqI,?_⟩ | refine ⟨_,neI,?_⟩ | refine ⟨_,rfl,?_⟩ | refine ⟨rfl,?_⟩ | refine ⟨(by show _<=sizeLine;rw [sizeLine_eq];exact Nat.le_of_ble_eq_true rfl),?_⟩ | refine ⟨_,_,rfl,?_⟩ | refine ⟨_,_,_,rfl,?_⟩ | refine iteT ?_ | refine iteF ?_ | refine Or.inl ⟨rfl,?_⟩ | refine Or.inr ⟨rfl,?_⟩ | refine ⟨_,eqS_t (by decide +kernel),?_⟩ | refine ⟨_,eqS_f (by decide +kernel) (by decide +kernel),?_⟩ | refine ⟨_,inS_t (by decide +kernel),?_⟩ | refine ⟨_,inS_f (by decide +kernel),?_⟩)
    intro p hp
    (repeat first | refine ⟨_,_,rfl,rfl,?_⟩ | refine ⟨_,eqI,?_⟩ | refine ⟨_,neI,?_⟩ | refine ⟨_,rfl,?_⟩ | refine ⟨rfl,?_⟩ | refine ⟨(by show _<=sizeLine;rw [sizeLine_eq];exact Nat.le_of_ble_eq_true rfl),?_⟩ | refine ⟨_,_,rfl,?_⟩ | refine ⟨_,_,_,rfl,?_⟩ | refine iteT ?_ | refine iteF ?_ | refine Or.inl ⟨rfl,?_⟩ | refine Or.inr ⟨rfl,?_⟩ | refine ⟨_,eqS_t (by decide +kernel),?_⟩ | refine ⟨_,eqS_f (by decide +kernel) (by decide +kernel),?_⟩ | refine ⟨_,inS_t (by decide +kernel),?_⟩ | refine ⟨_,inS_f (by decide +kernel),?_⟩)
    intro q' hq
    (repeat first | refine ⟨_,_,rfl,rfl,?_⟩ | refine ⟨_,eqI,?_⟩ | refine ⟨_,neI,?_⟩ | refine ⟨_,rfl,?_⟩ | refine ⟨rfl,?_⟩ | refine ⟨(by show _<=sizeLine;rw [sizeLine_eq];exact Nat.le_of_ble_eq_true rfl),?_⟩ | refine ⟨_,_,rfl,?_⟩ | refine ⟨_,_,_,rfl,?_⟩ | refine iteT ?_ | refine iteF ?_ | refine Or.inl ⟨rfl,?_⟩ | refine Or.inr ⟨rfl,?_⟩ | refine ⟨_,eqS_t (by decide +kernel),?_⟩ | refine ⟨_,eqS_f (by decide +kernel) (by decide +kernel),?_⟩ | refine ⟨_,inS_t (by decide +kernel),?_⟩ | refine ⟨_,inS_f (by decide +kernel),?_⟩)
    exact (fin ⟨p,.go,q'⟩ ⟨hp,trivial,hq⟩ rfl _ _ _).2
   ·(repeat first | refine ⟨_,_,rfl,rfl,?_⟩ | refine ⟨_,eqI,?_⟩ | refine ⟨_,neI,?_⟩ | refine ⟨_,rfl,?_⟩ | refine ⟨rfl,?_⟩ | refine ⟨(by show _<=sizeLine;rw [sizeLine_eq];exact Nat.le_of_ble_eq_true rfl),?_⟩ | refine ⟨_,_,rfl,?_⟩ | refine ⟨_,_,_,rfl,?_⟩ | refine iteT ?_ | refine iteF ?_ | refine Or.inl ⟨rfl,?_⟩ | refine Or.inr ⟨rfl,?_⟩ | refine ⟨_,eqS_t (by decide +kernel),?_⟩ | refine ⟨_,eqS_f (by decide +kernel) (by decide +kernel),?_⟩ | refine ⟨_,inS_t (by decide +kernel),?_⟩ | refine ⟨_,inS_f (by decide +kernel),?_⟩)
    intro n0 h0
    (repeat first | refine ⟨_,_,rfl,rfl,?_⟩ | refine ⟨_,eqI,?_⟩ | refine ⟨_,neI,?_⟩ | refine ⟨_,rfl,?_⟩ | refine ⟨rfl,?_⟩ | refine ⟨(by show _<=sizeLine;rw [sizeLine_eq];exact Nat.le_of_ble_eq_true rfl),?_⟩ | refine ⟨_,_,rfl,?_⟩ | refine ⟨_,_,_,rfl,?_⟩ | refine iteT ?_ | refine iteF ?_ | refine Or.inl ⟨rfl,?_⟩ | refine Or.inr ⟨rfl,?_⟩ | refine ⟨_,eqS_t (by decide +kernel),?_⟩ | refine ⟨_,eqS_f (by decide +kernel) (by decide +kernel),?_⟩ | refine ⟨_,inS_t (by decide +kernel),?_⟩ | refine ⟨_,inS_f (by decide +kernel),?_⟩)
    refine dr (by decide) (by decide) fun c hc=>?_
    (repeat first | refine ⟨_,idx_tx (abc_lt hc) (by decide),?_⟩ | refine ⟨idx_tx (abc_lt hc) (by decide),?_⟩ | refine ⟨_,_,rfl,rfl,?_⟩ | refine ⟨_,eqI,?_⟩ | refine ⟨_,neI,?_⟩ | refine ⟨_,rfl,?_⟩ | refine ⟨rfl,?_⟩ | refine ⟨(by show _<=sizeLine;rw [sizeLine_eq];exact Nat.le_of_ble_eq_true rfl),?_⟩ | refine ⟨_,_,rfl,?_⟩ | refine ⟨_,_,_,rfl,?_⟩ | refine iteT ?_ | refine iteF ?_ | refine Or.inl ⟨rfl,?_⟩ | refine Or.inr ⟨rfl,?_⟩ | refine ⟨_,eqS_t (by decide +kernel),?_⟩ | refine ⟨_,eqS_f (by decide +kernel) (by decide +kernel),?_⟩ | refine ⟨_,inS_t (by decide +kernel),?_⟩ | refine ⟨_,inS_f (by decide +kernel),?_⟩)
    intro p hp
    (repeat first | refine ⟨_,_,rfl,rfl,?_⟩ | refine ⟨_,eqI,?_⟩ | refine ⟨_,neI,?_⟩ | refine ⟨_,rfl,?_⟩ | refine ⟨rfl,?_⟩ | refine ⟨(by show _<=sizeLine;rw [sizeLine_eq];exact Nat.le_of_ble_eq_true rfl),?_⟩ | refine ⟨_,_,rfl,?_⟩ | refine ⟨_,_,_,rfl,?_⟩ | refine iteT ?_ | refine iteF ?_ | refine Or.inl ⟨rfl,?_⟩ | refine Or.inr ⟨rfl,?_⟩ | refine ⟨_,eqS_t (by decide +kernel),?_⟩ | refine ⟨_,eqS_f (by decide +kernel) (by decide +kernel),?_⟩ | refine ⟨_,inS_t (by decide +kernel),?_⟩ | refine ⟨_,inS_f (by decide +kernel),?_⟩)
    intro q' hq
    (repeat first | refine ⟨_,_,rfl,rfl,?_⟩ | refine ⟨_,eqI,?_⟩ | refine ⟨_,neI,?_⟩ | refine ⟨_,rfl,?_⟩ | refine ⟨rfl,?_⟩ | refine ⟨(by show _<=sizeLine;rw [sizeLine_eq];exact Nat.le_of_ble_eq_true rfl),?_⟩ | refine ⟨_,_,rfl,?_⟩ | refine ⟨_,_,_,rfl,?_⟩ | refine iteT ?_ | refine iteF ?_ | refine Or.inl ⟨rfl,?_⟩ | refine Or.inr ⟨rfl,?_⟩ | refine ⟨_,eqS_t (by decide +kernel),?_⟩ | refine ⟨_,eqS_f (by decide +kernel) (by decide +kernel),?_⟩ | refine ⟨_,inS_t (by decide +kernel),?_⟩ | refine ⟨_,inS_f (by decide +kernel),?_⟩)
    exact (fin ⟨p,.send n0 (abc[c]'(abc_lt hc)),q'⟩ ⟨hp,⟨h0,mem_abc.mp (List.getElem_mem _)⟩,hq⟩ rfl _ _ _).2
   ·(repeat first | refine ⟨_,_,rfl,rfl,?_⟩ | refine ⟨_,eqI,?_⟩ | refine ⟨_,neI,?_⟩ | refine ⟨_,rfl,?_⟩ | refine ⟨rfl,?_⟩ | refine ⟨(by show _<=sizeLine;rw [sizeLine_eq];exact Nat.le_of_ble_eq_true rfl),?_⟩ | refine ⟨_,_,rfl,?_⟩ | refine ⟨_,_,_,rfl,?_⟩ | refine iteT ?_ | refine iteF ?_ | refine Or.inl ⟨rfl,?_⟩ | refine Or.inr ⟨rfl,?_⟩ | refine ⟨_,eqS_t (by decide +kernel),?_⟩ | refine ⟨_,eqS_f (by decide +kernel) (by decide +kernel),?_⟩ | refine ⟨_,inS_t (by decide +kernel),?_⟩ | refine ⟨_,inS_f (by decide +kernel),?_⟩)
    intro n0 h0
    (repeat first | refine ⟨_,_,rfl,rfl,?_⟩ | refine ⟨_,eqI,?_⟩ | refine ⟨_,neI,?_⟩ | refine ⟨_,rfl,?_⟩ | refine ⟨rfl,?_⟩ | refine ⟨(by show _<=sizeLine;rw [sizeLine_eq];exact Nat.le_of_ble_eq_true rfl),?_⟩ | refine ⟨_,_,rfl,?_⟩ | refine ⟨_,_,_,rfl,?_⟩ | refine iteT ?_ | refine iteF ?_ | refine Or.inl ⟨rfl,?_⟩ | refine Or.inr ⟨rfl,?_⟩ | refine ⟨_,eqS_t (by decide +kernel),?_⟩ | refine ⟨_,eqS_f (by decide +kernel) (by decide +kernel),?_⟩ | refine ⟨_,inS_t (by decide +kernel),?_⟩ | refine ⟨_,inS_f (by decide +kernel),?_⟩)
    refine dr (by decide) (by decide) fun c hc=>?_
    (repeat first | refine ⟨_,idx_tx (abc_lt hc) (by decide),?_⟩ | refine ⟨idx_tx (abc_lt hc) (by decide),?_⟩ | refine ⟨_,_,rfl,rfl,?_⟩ | refine ⟨_,eqI,?_⟩ | refine ⟨_,neI,?_⟩ | refine ⟨_,rfl,?_⟩ | refine ⟨rfl,?_⟩ | refine ⟨(by show _<=sizeLine;rw [sizeLine_eq];exact Nat.le_of_ble_eq_true rfl),?_⟩ | refine ⟨_,_,rfl,?_⟩ | refine ⟨_,_,_,rfl,?_⟩ | refine iteT ?_ | refine iteF ?_ | refine Or.inl ⟨rfl,?_⟩ | refine Or.inr ⟨rfl,?_⟩ | refine ⟨_,eqS_t (by decide +kernel),?_⟩ | refine ⟨_,eqS_f (by decide +kernel) (by decide +kernel),?_⟩ | refine ⟨_,inS_t (by decide +kernel),?_⟩ | refine ⟨_,inS_f (by decide +kernel),?_⟩)
    intro p hp
    (repeat first | refine ⟨_,_,rfl,rfl,?_⟩ | refine ⟨_,eqI,?_⟩ | refine ⟨_,neI,?_⟩ | refine ⟨_,rfl,?_⟩ | refine ⟨rfl,?_⟩ | refine ⟨(by show _<=sizeLine;rw [sizeLine_eq];exact Nat.le_of_ble_eq_true rfl),?_⟩ | refine ⟨_,_,rfl,?_⟩ | refine ⟨_,_,_,rfl,?_⟩ | refine iteT ?_ | refine iteF ?_ | refine Or.inl ⟨rfl,?_⟩ | refine Or.inr ⟨rfl,?_⟩ | refine ⟨_,eqS_t (by decide +kernel),?_⟩ | refine ⟨_,eqS_f (by decide +kernel) (by decide +kernel),?_⟩ | refine ⟨_,inS_t (by decide +kernel),?_⟩ | refine ⟨_,inS_f (by decide +kernel),?_⟩)
    intro q' hq
    (repeat first | refine ⟨_,_,rfl,rfl,?_⟩ | refine ⟨_,eqI,?_⟩ | refine ⟨_,neI,?_⟩ | refine ⟨_,rfl,?_⟩ | refine ⟨rfl,?_⟩ | refine ⟨(by show _<=sizeLine;rw [sizeLine_eq];exact Nat.le_of_ble_eq_true rfl),?_⟩ | refine ⟨_,_,rfl,?_⟩ | refine ⟨_,_,_,rfl,?_⟩ | refine iteT ?_ | refine iteF ?_ | refine Or.inl ⟨rfl,?_⟩ | refine Or.inr ⟨rfl,?_⟩ | refine ⟨_,eqS_t (by decide +kernel),?_⟩ | refine ⟨_,eqS_f (by decide +kernel) (by decide +kernel),?_⟩ | refine ⟨_,inS_t (by decide +kernel),?_⟩ | refine ⟨_,inS_f (by decide +kernel),?_⟩)
    exact (fin ⟨p,.take n0 (abc[c]'(abc_lt hc)),q'⟩ ⟨hp,⟨h0,mem_abc.mp (List.getElem_mem _)⟩,hq⟩ rfl _ _ _).2
   ·(repeat first | refine ⟨_,_,rfl,rfl,?_⟩ | refine ⟨_,eqI,?_⟩ | refine ⟨_,neI,?_⟩ | refine ⟨_,rfl,?_⟩ | refine ⟨rfl,?_⟩ | refine ⟨(by show _<=sizeLine;rw [sizeLine_eq];exact Nat.le_of_ble_eq_true rfl),?_⟩ | refine ⟨_,_,rfl,?_⟩ | refine ⟨_,_,_,rfl,?_⟩ | refine iteT ?_ | refine iteF ?_ | refine Or.inl ⟨rfl,?_⟩ | refine Or.inr ⟨rfl,?_⟩ | refine ⟨_,eqS_t (by decide +kernel),?_⟩ | refine ⟨_,eqS_f (by decide +kernel) (by decide +kernel),?_⟩ | refine ⟨_,inS_t (by decide +kernel),?_⟩ | refine ⟨_,inS_f (by decide +kernel),?_⟩)
    intro n0 h0
    (repeat first | refine ⟨_,_,rfl,rfl,?_⟩ | refine ⟨_,eqI,?_⟩ | refine ⟨_,neI,?_⟩ | refine ⟨_,rfl,?_⟩ | refine ⟨rfl,?_⟩ | refine ⟨(by show _<=sizeLine;rw [sizeLine_eq];exact Nat.le_of_ble_eq_true rfl),?_⟩ | refine ⟨_,_,rfl,?_⟩ | refine ⟨_,_,_,rfl,?_⟩ | refine iteT ?_ | refine iteF ?_ | refine Or.inl ⟨rfl,?_⟩ | refine Or.inr ⟨rfl,?_⟩ | refine ⟨_,eqS_t (by decide +kernel),?_⟩ | refine ⟨_,eqS_f (by decide +kernel) (by decide +kernel),?_⟩ | refine ⟨_,inS_t (by decide +kernel),?_⟩ | refine ⟨_,inS_f (by decide +kernel),?_⟩)
    intro p hp
    (repeat first | refine ⟨_,_,rfl,rfl,?_⟩ | refine ⟨_,eqI,?_⟩ | refine ⟨_,neI,?_⟩ | refine ⟨_,rfl,?_⟩ | refine ⟨rfl,?_⟩ | refine ⟨(by show _<=sizeLine;rw [sizeLine_eq];exact Nat.le_of_ble_eq_true rfl),?_⟩ | refine ⟨_,_,rfl,?_⟩ | refine ⟨_,_,_,rfl,?_⟩ | refine iteT ?_ | refine iteF ?_ | refine Or.inl ⟨rfl,?_⟩ | refine Or.inr ⟨rfl,?_⟩ | refine ⟨_,eqS_t (by decide +kernel),?_⟩ | refine ⟨_,eqS_f (by decide +kernel) (by decide +kernel),?_⟩ | refine ⟨_,inS_t (by decide +kernel),?_⟩ | refine ⟨_,inS_f (by decide +kernel),?_⟩)
    intro q' hq
    (repeat first | refine ⟨_,_,rfl,rfl,?_⟩ | refine ⟨_,eqI,?_⟩ | refine ⟨_,neI,?_⟩ | refine ⟨_,rfl,?_⟩ | refine ⟨rfl,?_⟩ | refine ⟨(by show _<=sizeLine;rw [sizeLine_eq];exact Nat.le_of_ble_eq_true rfl),?_⟩ | refine ⟨_,_,rfl,?_⟩ | refine ⟨_,_,_,rfl,?_⟩ | refine iteT ?_ | refine iteF ?_ | refine Or.inl ⟨rfl,?_⟩ | refine Or.inr ⟨rfl,?_⟩ | refine ⟨_,eqS_t (by decide +kernel),?_⟩ | refine ⟨_,eqS_f (by decide +kernel) (by decide +kernel),?_⟩ | refine ⟨_,inS_t (by decide +kernel),?_⟩ | refine ⟨_,inS_f (by decide +kernel),?_⟩)
    exact (fin ⟨p,.empty n0,q'⟩ ⟨hp,h0,hq⟩ rfl _ _ _).2
   ·(repeat first | refine ⟨_,_,rfl,rfl,?_⟩ | refine ⟨_,eqI,?_⟩ | refine ⟨_,neI,?_⟩ | refine ⟨_,rfl,?_⟩ | refine ⟨rfl,?_⟩ | refine ⟨(by show _<=sizeLine;rw [sizeLine_eq];exact Nat.le_of_ble_eq_true rfl),?_⟩ | refine ⟨_,_,rfl,?_⟩ | refine ⟨_,_,_,rfl,?_⟩ | refine iteT ?_ | refine iteF ?_ | refine Or.inl ⟨rfl,?_⟩ | refine Or.inr ⟨rfl,?_⟩ | refine ⟨_,eqS_t (by decide +kernel),?_⟩ | refine ⟨_,eqS_f (by decide +kernel) (by decide +kernel),?_⟩ | refine ⟨_,inS_t (by decide +kernel),?_⟩ | refine ⟨_,inS_f (by decide +kernel),?_⟩)
    intro n0 h0
    (repeat first | refine ⟨_,_,rfl,rfl,?_⟩ | refine ⟨_,eqI,?_⟩ | refine ⟨_,neI,?_⟩ | refine ⟨_,rfl,?_⟩ | refine ⟨rfl,?_⟩ | refine ⟨(by show _<=sizeLine;rw [sizeLine_eq];exact Nat.le_of_ble_eq_true rfl),?_⟩ | refine ⟨_,_,rfl,?_⟩ | refine ⟨_,_,_,rfl,?_⟩ | refine iteT ?_ | refine iteF ?_ | refine Or.inl ⟨rfl,?_⟩ | refine Or.inr ⟨rfl,?_⟩ | refine ⟨_,eqS_t (by decide +kernel),?_⟩ | refine ⟨_,eqS_f (by decide +kernel) (by decide +kernel),?_⟩ | refine ⟨_,inS_t (by decide +kernel),?_⟩ | refine ⟨_,inS_f (by decide +kernel),?_⟩)
    intro n1 h1
    (repeat first | refine ⟨_,_,rfl,rfl,?_⟩ | refine ⟨_,eqI,?_⟩ | refine ⟨_,neI,?_⟩ | refine ⟨_,rfl,?_⟩ | refine ⟨rfl,?_⟩ | refine ⟨(by show _<=sizeLine;rw [sizeLine_eq];exact Nat.le_of_ble_eq_true rfl),?_⟩ | refine ⟨_,_,rfl,?_⟩ | refine ⟨_,_,_,rfl,?_⟩ | refine iteT ?_ | refine iteF ?_ | refine Or.inl ⟨rfl,?_⟩ | refine Or.inr ⟨rfl,?_⟩ | refine ⟨_,eqS_t (by decide +kernel),?_⟩ | refine ⟨_,eqS_f (by decide +kernel) (by decide +kernel),?_⟩ | refine ⟨_,inS_t (by decide +kernel),?_⟩ | refine ⟨_,inS_f (by decide +kernel),?_⟩)
    intro p hp
    (repeat first | refine ⟨_,_,rfl,rfl,?_⟩ | refine ⟨_,eqI,?_⟩ | refine ⟨_,neI,?_⟩ | refine ⟨_,rfl,?_⟩ | refine ⟨rfl,?_⟩ | refine ⟨(by show _<=sizeLine;rw [sizeLine_eq];exact Nat.le_of_ble_eq_true rfl),?_⟩ | refine ⟨_,_,rfl,?_⟩ | refine ⟨_,_,_,rfl,?_⟩ | refine iteT ?_ | refine iteF ?_ | refine Or.inl ⟨rfl,?_⟩ | refine Or.inr ⟨rfl,?_⟩ | refine ⟨_,eqS_t (by decide +kernel),?_⟩ | refine ⟨_,eqS_f (by decide +kernel) (by decide +kernel),?_⟩ | refine ⟨_,inS_t (by decide +kernel),?_⟩ | refine ⟨_,inS_f (by decide +kernel),?_⟩)
    intro q' hq
    (repeat first | refine ⟨_,_,rfl,rfl,?_⟩ | refine ⟨_,eqI,?_⟩ | refine ⟨_,neI,?_⟩ | refine ⟨_,rfl,?_⟩ | refine ⟨rfl,?_⟩ | refine ⟨(by show _<=sizeLine;rw [sizeLine_eq];exact Nat.le_of_ble_eq_true rfl),?_⟩ | refine ⟨_,_,rfl,?_⟩ | refine ⟨_,_,_,rfl,?_⟩ | refine iteT ?_ | refine iteF ?_ | refine Or.inl ⟨rfl,?_⟩ | refine Or.inr ⟨rfl,?_⟩ | refine ⟨_,eqS_t (by decide +kernel),?_⟩ | refine ⟨_,eqS_f (by decide +kernel) (by decide +kernel),?_⟩ | refine ⟨_,inS_t (by decide +kernel),?_⟩ | refine ⟨_,inS_f (by decide +kernel),?_⟩)
    exact (fin ⟨p,.put n0 n1,q'⟩ ⟨hp,⟨h0,h1⟩,hq⟩ rfl _ _ _).2
   ·(repeat first | refine ⟨_,_,rfl,rfl,?_⟩ | refine ⟨_,eqI,?_⟩ | refine ⟨_,neI,?_⟩ | refine ⟨_,rfl,?_⟩ | refine ⟨rfl,?_⟩ | refine ⟨(by show _<=sizeLine;rw [sizeLine_eq];exact Nat.le_of_ble_eq_true rfl),?_⟩ | refine ⟨_,_,rfl,?_⟩ | refine ⟨_,_,_,rfl,?_⟩ | refine iteT ?_ | refine iteF ?_ | refine Or.inl ⟨rfl,?_⟩ | refine Or.inr ⟨rfl,?_⟩ | refine ⟨_,eqS_t (by decide +kernel),?_⟩ | refine ⟨_,eqS_f (by decide +kernel) (by decide +kernel),?_⟩ | refine ⟨_,inS_t (by decide +kernel),?_⟩ | refine ⟨_,inS_f (by decide +kernel),?_⟩)
    intro n0 h0
    (repeat first | refine ⟨_,_,rfl,rfl,?_⟩ | refine ⟨_,eqI,?_⟩ | refine ⟨_,neI,?_⟩ | refine ⟨_,rfl,?_⟩ | refine ⟨rfl,?_⟩ | refine ⟨(by show _<=sizeLine;rw [sizeLine_eq];exact Nat.le_of_ble_eq_true rfl),?_⟩ | refine ⟨_,_,rfl,?_⟩ | refine ⟨_,_,_,rfl,?_⟩ | refine iteT ?_ | refine iteF ?_ | refine Or.inl ⟨rfl,?_⟩ | refine Or.inr ⟨rfl,?_⟩ | refine ⟨_,eqS_t (by decide +kernel),?_⟩ | refine ⟨_,eqS_f (by decide +kernel) (by decide +kernel),?_⟩ | refine ⟨_,inS_t (by decide +kernel),?_⟩ | refine ⟨_,inS_f (by decide +kernel),?_⟩)
    intro n1 h1
    (repeat first | refine ⟨_,_,rfl,rfl,?_⟩ | refine ⟨_,eqI,?_⟩ | refine ⟨_,neI,?_⟩ | refine ⟨_,rfl,?_⟩ | refine ⟨rfl,?_⟩ | refine ⟨(by show _<=sizeLine;rw [sizeLine_eq];exact Nat.le_of_ble_eq_true rfl),?_⟩ | refine ⟨_,_,rfl,?_⟩ | refine ⟨_,_,_,rfl,?_⟩ | refine iteT ?_ | refine iteF ?_ | refine Or.inl ⟨rfl,?_⟩ | refine Or.inr ⟨rfl,?_⟩ | refine ⟨_,eqS_t (by decide +kernel),?_⟩ | refine ⟨_,eqS_f (by decide +kernel) (by decide +kernel),?_⟩ | refine ⟨_,inS_t (by decide +kernel),?_⟩ | refine ⟨_,inS_f (by decide +kernel),?_⟩)
    intro p hp
    (repeat first | refine ⟨_,_,rfl,rfl,?_⟩ | refine ⟨_,eqI,?_⟩ | refine ⟨_,neI,?_⟩ | refine ⟨_,rfl,?_⟩ | refine ⟨rfl,?_⟩ | refine ⟨(by show _<=sizeLine;rw [sizeLine_eq];exact Nat.le_of_ble_eq_true rfl),?_⟩ | refine ⟨_,_,rfl,?_⟩ | refine ⟨_,_,_,rfl,?_⟩ | refine iteT ?_ | refine iteF ?_ | refine Or.inl ⟨rfl,?_⟩ | refine Or.inr ⟨rfl,?_⟩ | refine ⟨_,eqS_t (by decide +kernel),?_⟩ | refine ⟨_,eqS_f (by decide +kernel) (by decide +kernel),?_⟩ | refine ⟨_,inS_t (by decide +kernel),?_⟩ | refine ⟨_,inS_f (by decide +kernel),?_⟩)
    intro q' hq
    (repeat first | refine ⟨_,_,rfl,rfl,?_⟩ | refine ⟨_,eqI,?_⟩ | refine ⟨_,neI,?_⟩ | refine ⟨_,rfl,?_⟩ | refine ⟨rfl,?_⟩ | refine ⟨(by show _<=sizeLine;rw [sizeLine_eq];exact Nat.le_of_ble_eq_true rfl),?_⟩ | refine ⟨_,_,rfl,?_⟩ | refine ⟨_,_,_,rfl,?_⟩ | refine iteT ?_ | refine iteF ?_ | refine Or.inl ⟨rfl,?_⟩ | refine Or.inr ⟨rfl,?_⟩ | refine ⟨_,eqS_t (by decide +kernel),?_⟩ | refine ⟨_,eqS_f (by decide +kernel) (by decide +kernel),?_⟩ | refine ⟨_,inS_t (by decide +kernel),?_⟩ | refine ⟨_,inS_f (by decide +kernel),?_⟩)
    exact (fin ⟨p,.test n0 n1,q'⟩ ⟨hp,⟨h0,h1⟩,hq⟩ rfl _ _ _).2
end
section
variable {P : Program} {w : World} {K : PySem.W.Frag} {mg : Str → Option Value} {base : Heap} {k : Nat}
abbrev sRuleRowL:Stmt:=top 28
theorem scRuleRowL:FnScope ["_law_rule"] ["_law_rule"] (defScope sRuleRowL):=⟨rfl,rfl,rfl,by decide +kernel,rfl,by decide +kernel,by decide +kernel⟩
theorem d_law_rule_row (B:Blt mg) (T:Top3 K mg "_law_rule_row" sRuleRowL):Def3 P w K mg base 1 "_law_rule_row" ["_law_rule"] (spO K (fun _=>True) 1 ruleRowF):=by
 refine mk_O T scRuleRowL (fun _ _ _ _ _ _ us hl=>len1 hl fun _=>rfl) rfl fun f cdv A outer s H E O hφ C=>⟨_,(ss_one (s_ret (e_join C e_str (e_add C (e_add C (e_lst (a_cons (e_strc C B (a_cons (e_idx C (e_var 0) e_int) a_nil)) a_nil)) (e_comp 1 ["_law_one", "_law_rule"] C (fun _ => .of rfl (by kernel_rfl)) (i_tup C (e_idx C (e_var 0) e_int)) (g_name 0) f_nil (e_strc (C.comp _ _) B (a_cons (e_var 0) a_nil)))) (e_lst (a_cons (e_strc C B (a_cons (e_idx C (e_var 0) e_int) a_nil)) a_nil)))))),fun ds Qr hn q=>?_⟩
 obtain ⟨r,rfl,ok,q⟩:=q
 have sz:=sizeLine_eq
 obtain ⟨d3,d5⟩:=deedW_few r.d ok.d
 obtain ⟨r5,r6⟩:=ruleRow_few ok
 have pk:=rule_pok ok
 have e:encRu r = .tuple [.int (r.p:Nat),.tuple ((deedPs r.d).map partD),.int (r.q:Nat)]:=by unfold encRu;rw [de_ps];rfl
 rw [e]
 (repeat first | refine ⟨_,str_nat ok.p,?_⟩ | refine ⟨str_nat ok.p,?_⟩ | refine ⟨_,_,rfl,rfl,?_⟩ | refine ⟨_,eqI,?_⟩ | refine ⟨_,neI,?_⟩ | refine ⟨_,rfl,?_⟩ | refine ⟨rfl,?_⟩ | refine ⟨(by show _<=sizeLine;rw [sizeLine_eq];exact Nat.le_of_ble_eq_true rfl),?_⟩ | refine ⟨_,_,rfl,?_⟩ | refine ⟨_,_,_,rfl,?_⟩ | refine iteT ?_ | refine iteF ?_ | refine Or.inl ⟨rfl,?_⟩ | refine Or.inr ⟨rfl,?_⟩ | refine ⟨_,eqS_t (by decide +kernel),?_⟩ | refine ⟨_,eqS_f (by decide +kernel) (by decide +kernel),?_⟩ | refine ⟨_,inS_t (by decide +kernel),?_⟩ | refine ⟨_,inS_f (by decide +kernel),?_⟩)
 refine comp_of (α:=Prt) (enc:=partD) (e:=fun p => .str (tx (partW p))) (fun p hp P hP=>?_) (by have:=congrArg List.length (deed_ps r.d);rw [List.length_map] at this;omega) ?_
 ·(repeat first | refine ⟨_,_,rfl,rfl,?_⟩ | refine ⟨_,eqI,?_⟩ | refine ⟨_,neI,?_⟩ | refine ⟨_,rfl,?_⟩ | refine ⟨rfl,?_⟩ | refine ⟨(by show _<=sizeLine;rw [sizeLine_eq];exact Nat.le_of_ble_eq_true rfl),?_⟩ | refine ⟨_,_,rfl,?_⟩ | refine ⟨_,_,_,rfl,?_⟩ | refine iteT ?_ | refine iteF ?_ | refine Or.inl ⟨rfl,?_⟩ | refine Or.inr ⟨rfl,?_⟩ | refine ⟨_,eqS_t (by decide +kernel),?_⟩ | refine ⟨_,eqS_f (by decide +kernel) (by decide +kernel),?_⟩ | refine ⟨_,inS_t (by decide +kernel),?_⟩ | refine ⟨_,inS_f (by decide +kernel),?_⟩)
  exact ⟨_,str_part (pk.1 p (List.mem_cons_of_mem _ (List.mem_append_left _ hp))),hP _ rfl⟩
 rw [show (deedPs r.d).map (fun p=>PyData.str (tx (partW p)))=tsD (deedW r.d) by rw [<- deed_ps];unfold tsD;rw [List.map_map];rfl]
 (repeat first | refine ⟨_,add_ts (a := [numT r.p]) (b:=deedW r.d) (by show 1+_<=_;omega),?_⟩ | refine ⟨add_ts (a := [numT r.p]) (b:=deedW r.d) (by show 1+_<=_;omega),?_⟩ | refine ⟨_,str_nat ok.q,?_⟩ | refine ⟨str_nat ok.q,?_⟩ | refine ⟨_,add_ts (a := [numT r.p]++deedW r.d) (b := [numT r.q]) (by rw [List.length_append];show 1+_+1<=_;omega),?_⟩ | refine ⟨add_ts (a := [numT r.p]++deedW r.d) (b := [numT r.q]) (by rw [List.length_append];show 1+_+1<=_;omega),?_⟩ | refine ⟨_,_,rfl,rfl,?_⟩ | refine ⟨_,eqI,?_⟩ | refine ⟨_,neI,?_⟩ | refine ⟨_,rfl,?_⟩ | refine ⟨rfl,?_⟩ | refine ⟨(by show _<=sizeLine;rw [sizeLine_eq];exact Nat.le_of_ble_eq_true rfl),?_⟩ | refine ⟨_,_,rfl,?_⟩ | refine ⟨_,_,_,rfl,?_⟩ | refine iteT ?_ | refine iteF ?_ | refine Or.inl ⟨rfl,?_⟩ | refine Or.inr ⟨rfl,?_⟩ | refine ⟨_,eqS_t (by decide +kernel),?_⟩ | refine ⟨_,eqS_f (by decide +kernel) (by decide +kernel),?_⟩ | refine ⟨_,inS_t (by decide +kernel),?_⟩ | refine ⟨_,inS_f (by decide +kernel),?_⟩)
 rw [e_blankT]
 have ht:=tot_few r6
 have:=Nat.mul_le_mul_right (5+1) r5
 obtain ⟨ys,y1,y2,y3⟩:=join_ts (c:=32) (ws:=ruleRow r) (by omega)
 refine ⟨ys,?_,y2,?_⟩
 ·rw [<- y1]
  show PyData.list (tsD ([numT r.p]++deedW r.d ++ [numT r.q]))=_
  rw [List.append_assoc]
  rfl
 ·rw [y3]
  exact q
end
theorem head_add {x:String} {v w:List Nat} (e:Str.ofString x=tx (v ++ [32])) (h:(v ++ [32]).length+w.length<=16777216):addF (.str (Str.ofString x)) (.str (tx w))=some (.o (.str (tx (joinL 32 [v,w])))):=by
 rw [e]
 have:=add_tx (v:=v ++ [32]) (w:=w) h
 rw [this]
 show some (R.o (.str (tx (v ++ [32]++w))))=some (R.o (.str (tx (v++32::w))))
 rw [List.append_assoc]
 rfl
theorem e_let:Str.ofString "letters " = tx (cds "letters" ++ [32]):=by decide +kernel
theorem e_lin:Str.ofString "lines " = tx (cds "lines" ++ [32]):=by decide +kernel
theorem e_fla:Str.ofString "flags " = tx (cds "flags" ++ [32]):=by decide +kernel
theorem e_han:Str.ofString "hand " = tx (cds "hand" ++ [32]):=by decide +kernel
theorem rowsPre_snoc {h:Hou} {j:Nat} {x:Hnd} (hx:h.hands[j]? = some x):rowsPre h (j+1)=rowsPre h j ++ [[cds "hand", numT x.n]]++x.rs.map ruleRow:=by
 unfold rowsPre
 rw [List.take_succ,hx,show h.hands.take j++(some x).toList=h.hands.take j ++ [x] from rfl,List.map_append,List.flatten_append,List.append_assoc,List.append_assoc]
 show _++(_++(handRows x ++ []))=_
 rw [List.append_nil,<- List.append_assoc,<- List.append_assoc]
 show _++handRows x=_
 unfold handRows
 rw [List.append_assoc]
 rfl
section
variable {P : Program} {w : World} {K : PySem.W.Frag} {mg : Str → Option Value} {base : Heap} {k : Nat}
abbrev sHouseRowsL:Stmt:=top 29
theorem scHouseRowsL:FnScope ["_law_house_here", "_law_rows", "_law_many", "_law_rules"] ["_law_house_here"] (defScope sHouseRowsL):=⟨rfl,rfl,rfl,by decide +kernel,rfl,by decide +kernel,by decide +kernel⟩
theorem d_law_house_rows (B:Blt mg) (d_law_rule_row:Def3 P w K mg base 1 "_law_rule_row" ["_law_rule"] (spO K (fun _=>True) 1 ruleRowF)) (T:Top3 K mg "_law_house_rows" sHouseRowsL):Def3 P w K mg base 2 "_law_house_rows" ["_law_house_here"] (spO K (fun _=>True) 1 houseRowsF):=by
 refine mk_O T scHouseRowsL (fun _ _ _ _ _ _ us hl=>len1 hl fun _=>rfl) rfl fun f cdv A outer s H E O hφ C=>⟨_,(ss_cons (s_set 1 (e_lst (a_cons (e_add C e_str (e_idx C (e_var 0) e_int)) (a_cons (e_add C e_str (e_strc C B (a_cons (e_idx C (e_var 0) e_int) a_nil))) (a_cons (e_add C e_str (e_strc C B (a_cons (e_idx C (e_var 0) e_int) a_nil))) a_nil))))) (ss_cons (s_for C (j_new (i_tup C (e_idx C (e_var 0) e_int))) (g_tup (h:=1000) C (gq_cons 2 (gq_cons 3 gq_nil))) (ss_one (s_set 1 (e_add C (e_add C (e_var 1) (e_lst (a_cons (e_add C e_str (e_strc C B (a_cons (e_var 2) a_nil))) a_nil))) (e_comp 1 ["_law_rule", "_law_house_here", "_law_rows", "_law_many", "_law_rules"] C (fun _ => .of rfl (by kernel_rfl)) (i_tup C (e_var 3)) (g_name 0) f_nil (e_call (C.comp _ _) d_law_rule_row (fun _=>trivial) (a_cons (e_var 0) a_nil))))))) (ss_one (s_retO 1)))),fun ds Qr hn q=>?_⟩
 obtain ⟨h,rfl,ok,hs,q⟩:=q
 have sz:=sizeLine_eq
 have hls:=hs.ls
 have nl:=(num_short ok.lines).1
 have nf:=(num_short ok.flags).1
 have l1:(cds "letters" ++ [32]).length=8:=by decide +kernel
 have l2:(cds "lines" ++ [32]).length=6:=by decide +kernel
 have l3:(cds "flags" ++ [32]).length=6:=by decide +kernel
 have l4:(cds "hand" ++ [32]).length=5:=by decide +kernel
 (repeat first | refine ⟨_,head_add e_let (by omega),?_⟩ | refine ⟨head_add e_let (by omega),?_⟩ | refine ⟨_,str_nat ok.lines,?_⟩ | refine ⟨str_nat ok.lines,?_⟩ | refine ⟨_,head_add e_lin (by omega),?_⟩ | refine ⟨head_add e_lin (by omega),?_⟩ | refine ⟨_,str_nat ok.flags,?_⟩ | refine ⟨str_nat ok.flags,?_⟩ | refine ⟨_,head_add e_fla (by omega),?_⟩ | refine ⟨head_add e_fla (by omega),?_⟩ | refine ⟨_,_,rfl,rfl,?_⟩ | refine ⟨_,eqI,?_⟩ | refine ⟨_,neI,?_⟩ | refine ⟨_,rfl,?_⟩ | refine ⟨rfl,?_⟩ | refine ⟨(by show _<=sizeLine;rw [sizeLine_eq];exact Nat.le_of_ble_eq_true rfl),?_⟩ | refine ⟨_,_,rfl,?_⟩ | refine ⟨_,_,_,rfl,?_⟩ | refine iteT ?_ | refine iteF ?_ | refine Or.inl ⟨rfl,?_⟩ | refine Or.inr ⟨rfl,?_⟩ | refine ⟨_,eqS_t (by decide +kernel),?_⟩ | refine ⟨_,eqS_f (by decide +kernel) (by decide +kernel),?_⟩ | refine ⟨_,inS_t (by decide +kernel),?_⟩ | refine ⟨_,inS_f (by decide +kernel),?_⟩)
 refine forGo_rev (fun j ρ=>∃ (o2 o3:Option DV),ρ = [some (.im (encHo h)),some (.own (tsD ((rowsPre h j).map (joinL 32)))),o2,o3]) ⟨none,none,rfl⟩ (fun ρ zz=>?_) fun j d ρ N hd hN zz=>?_
 ·obtain ⟨o2,o3,e⟩:=zz
  subst e
  rw [List.length_map]
  refine ⟨_,rfl,?_⟩
  have:rowsPre h h.hands.length=rowsH h:=by unfold rowsPre rowsH;rw [List.take_length]
  rw [this]
  exact q
 ·obtain ⟨o2,o3,e⟩:=zz
  subst e
  rw [List.getElem?_map] at hd
  obtain ⟨x,hx,rfl⟩:=Option.map_eq_some_iff.mp hd
  have hxm:x ∈ h.hands:=List.mem_of_getElem? hx
  obtain ⟨hn,hr⟩:=ok.hands x hxm
  have p1:=rowsPre_len hs j
  have p2:=hs.rules x hxm
  have nn:=(num_short hn).1
  refine ⟨flat_hd x,?_⟩
  (repeat first | refine ⟨_,str_nat hn,?_⟩ | refine ⟨str_nat hn,?_⟩ | refine ⟨_,head_add e_han (by omega),?_⟩ | refine ⟨head_add e_han (by omega),?_⟩ | refine ⟨_,add_ts (a:=(rowsPre h j).map (joinL 32)) (b := [joinL 32 [cds "hand", numT x.n]]) (by rw [List.length_map];show _+1<=_;omega),?_⟩ | refine ⟨add_ts (a:=(rowsPre h j).map (joinL 32)) (b := [joinL 32 [cds "hand", numT x.n]]) (by rw [List.length_map];show _+1<=_;omega),?_⟩ | refine ⟨_,_,rfl,rfl,?_⟩ | refine ⟨_,eqI,?_⟩ | refine ⟨_,neI,?_⟩ | refine ⟨_,rfl,?_⟩ | refine ⟨rfl,?_⟩ | refine ⟨(by show _<=sizeLine;rw [sizeLine_eq];exact Nat.le_of_ble_eq_true rfl),?_⟩ | refine ⟨_,_,rfl,?_⟩ | refine ⟨_,_,_,rfl,?_⟩ | refine iteT ?_ | refine iteF ?_ | refine Or.inl ⟨rfl,?_⟩ | refine Or.inr ⟨rfl,?_⟩ | refine ⟨_,eqS_t (by decide +kernel),?_⟩ | refine ⟨_,eqS_f (by decide +kernel) (by decide +kernel),?_⟩ | refine ⟨_,inS_t (by decide +kernel),?_⟩ | refine ⟨_,inS_f (by decide +kernel),?_⟩)
  refine comp_of (α:=Rul) (enc:=encRu) (e:=fun r => .str (tx (joinL 32 (ruleRow r)))) (fun r hr' P hP=>?_) (by omega) ?_
  ·(repeat first | refine ⟨_,_,rfl,rfl,?_⟩ | refine ⟨_,eqI,?_⟩ | refine ⟨_,neI,?_⟩ | refine ⟨_,rfl,?_⟩ | refine ⟨rfl,?_⟩ | refine ⟨(by show _<=sizeLine;rw [sizeLine_eq];exact Nat.le_of_ble_eq_true rfl),?_⟩ | refine ⟨_,_,rfl,?_⟩ | refine ⟨_,_,_,rfl,?_⟩ | refine iteT ?_ | refine iteF ?_ | refine Or.inl ⟨rfl,?_⟩ | refine Or.inr ⟨rfl,?_⟩ | refine ⟨_,eqS_t (by decide +kernel),?_⟩ | refine ⟨_,eqS_f (by decide +kernel) (by decide +kernel),?_⟩ | refine ⟨_,inS_t (by decide +kernel),?_⟩ | refine ⟨_,inS_f (by decide +kernel),?_⟩)
   exact ⟨hr r hr',hP _ rfl⟩
  rw [show x.rs.map (fun r=>PyData.str (tx (joinL 32 (ruleRow r))))=tsD ((x.rs.map ruleRow).map (joinL 32)) by unfold tsD;rw [List.map_map,List.map_map];rfl]
  refine ⟨_,add_ts (by rw [List.length_append,List.length_map,List.length_map,List.length_map];show _+1+_<=_;omega),flats_map (fun _=>rfl) _,hN _ ⟨some (.im (.int (x.n:Nat))),some (.im (.tuple (x.rs.map encRu))),?_⟩⟩
  rw [rowsPre_snoc hx,List.map_append,List.map_append]
  rfl
end
theorem zip_self:∀ ds:List PyData,zipD ds ds=ds.map fun d => .tuple [d,d]
 | []=>rfl
 | d::ds=>by rw [zipD,zip_self ds];rfl
section
variable {P : Program} {w : World} {K : PySem.W.Frag} {mg : Str → Option Value} {base : Heap} {k : Nat}
abbrev sAlikeL:Stmt:=top 30
theorem scAlikeL:FnScope ["_law_found", "_law_due"] ["_law_found", "_law_due"] (defScope sAlikeL):=⟨rfl,rfl,rfl,by decide +kernel,rfl,by decide +kernel,by decide +kernel⟩
theorem rd_law_alike (B:Blt mg) (T:Top3 K mg "_law_alike" sAlikeL):∀ m,Def3 P w K mg base (1+m) "_law_alike" ["_law_found", "_law_due"] (spO K (fun _=>True) 2 (alkDF m))
 | 0=>by
   obtain ⟨f,fd,Fu,m⟩:=T.ex
   refine ⟨f,fd,Fu.ok scAlikeL (spO_len rfl) (fun cdv A outer s H vs Q E hr h=>?_),m,Fu.kp,Fu.binds (fun _ _ _ _ _ _ us hl=>len2 hl fun _ _=>rfl)⟩
   obtain ⟨O,ds,Qr,ok,hφ,p,hl,is,q,kk⟩:=h
   exact (alkDF_zero q).elim
 | m+1=>by
   have d_law_alike:=rd_law_alike B T m
   refine mk_O (k:=1+m) T scAlikeL (fun _ _ _ _ _ _ us hl=>len2 hl fun _ _=>rfl) rfl fun f cdv A outer s H E O hφ C=>⟨_,(ss_cons (s_if (t_val (e_isI (T := "tuple") C B (e_var 1) B.tuple)) (ss_cons (s_if (t_w (w_or (t_not (t_val (e_isI (T := "tuple") C B (e_var 0) B.tuple))) (w_or1 (t_ne C (e_len C B (a_cons (e_var 0) a_nil)) (e_len C B (a_cons (e_var 1) a_nil)))))) (ss_one (s_ret e_bl)) ss_nil) (ss_one (s_ret (e_all C B (a_cons (e_comp 2 ["_law_one", "_law_other", "_law_found", "_law_due"] C (fun _ => .of rfl (by kernel_rfl)) (i_zip C B (a_cons (e_var 0) (a_cons (e_var 1) a_nil))) (g_tup (C.comp _ _) (gq_cons 0 (gq_cons 1 gq_nil))) f_nil (e_call (C.comp _ _) d_law_alike (hk:=Nat.le_refl _) (fun _=>trivial) (a_cons (e_var 0) (a_cons (e_var 1) a_nil)))) a_nil))))) ss_nil) (ss_cons (s_if (t_val (e_isI (T := "str") C B (e_var 1) B.str)) (ss_one (s_ret (e_and (e_isI (T := "str") C B (e_var 0) B.str) (e_one (e_eq C (e_var 0) (e_var 1)))))) ss_nil) (ss_one (s_ret (e_and (e_isI (T := "int") C B (e_var 0) B.int) (e_and (e_not (e_isI (T := "bool") C B (e_var 0) B.bool)) (e_one (e_eq C (e_var 0) (e_var 1))))))))),fun ds Qr hn q=>?_⟩
   obtain ⟨d,rfl,hd,q⟩:=q
   have sz:=sizeLine_eq
   cases d with
   | int i =>
     refine ⟨_,_,rfl,rfl,_,rfl,_,rfl,iteF ⟨_,_,rfl,rfl,_,rfl,_,rfl,iteF ⟨_,_,rfl,rfl,_,rfl,_,rfl,iteT ⟨_,_,rfl,rfl,_,rfl,_,rfl,_,rfl,iteT ⟨_,_,rfl,rfl,_,_,rfl,rfl,_,eqF_int,?_⟩⟩⟩⟩⟩
     rw [if_neg Bool.false_ne_true,decide_eq_true rfl]
     exact q
   | str x =>
     refine ⟨_,_,rfl,rfl,_,rfl,_,rfl,iteF ⟨_,_,rfl,rfl,_,rfl,_,rfl,iteT ⟨_,_,rfl,rfl,_,rfl,_,rfl,iteT ⟨_,_,rfl,rfl,_,_,rfl,rfl,_,eqF_str hd hd,?_⟩⟩⟩⟩
     rw [if_neg Bool.false_ne_true,beq_self_eq_true]
     exact q
   | tuple ds =>
     obtain ⟨h1,h2,h3⟩:=hd
     refine ⟨_,_,rfl,rfl,_,rfl,_,rfl,iteT ⟨_,_,rfl,rfl,_,rfl,_,rfl,iteF ⟨_,_,rfl,rfl,_,rfl,_,_,rfl,rfl,_,rfl,_,eqF_int,_,rfl,?_⟩⟩⟩
     rw [if_pos rfl,decide_eq_true rfl]
     refine iteF ⟨_,_,rfl,rfl,_,_,rfl,rfl,_,_,rfl,h2,h2,?_⟩
     rw [zip_self]
     refine comp_ofG (α:=PyData) (e:=fun _ => .bool true) (fun d hd P hP=>?_) gT_mono (by omega) ?_
     ·exact ⟨_,rfl,iteT (B:=False) ⟨_,_,rfl,rfl,_,_,rfl,rfl,rfl,d,rfl,h3 d hd,hP _ rfl⟩⟩
     ·refine ⟨ds.map fun _=>true,by rw [List.map_map];rfl,?_⟩
      have e:(ds.map fun _=>true).all id=true:=by simp
      rw [if_neg Bool.false_ne_true,e]
      exact q
   | _=>exact hd.elim
theorem d_law_alike (B:Blt mg) (T:Top3 K mg "_law_alike" sAlikeL):Def3 P w K mg base 9 "_law_alike" ["_law_found", "_law_due"] (spO K (fun _=>True) 2 (alkDF 8)):=rd_law_alike B T 8
end
theorem al_deed {m:Nat} {d:Deed} (h:DeT d):Al (m+2) (encDe d):=by
 have so:∀ c:Nat,c<=122->PyData.strOk (tx [c])=true:=fun c hc=>(lng1 c (by omega)).ok
 cases d with
 | go=>exact ⟨by decide,rfl,by simp only [List.mem_cons,List.not_mem_nil,or_false];rintro e rfl;exact (show PyData.strOk _=true by decide +kernel)⟩
 | send l c=>exact ⟨Nat.le_of_ble_eq_true rfl,rfl,by simp only [List.mem_cons,List.not_mem_nil,or_false];rintro e (rfl | rfl | rfl);exact (show PyData.strOk _=true by decide +kernel);exact trivial;exact so c h.2.2⟩
 | take l c=>exact ⟨Nat.le_of_ble_eq_true rfl,rfl,by simp only [List.mem_cons,List.not_mem_nil,or_false];rintro e (rfl | rfl | rfl);exact (show PyData.strOk _=true by decide +kernel);exact trivial;exact so c h.2.2⟩
 | empty l=>exact ⟨Nat.le_of_ble_eq_true rfl,rfl,by simp only [List.mem_cons,List.not_mem_nil,or_false];rintro e (rfl | rfl);exact (show PyData.strOk _=true by decide +kernel);exact trivial⟩
 | put f v=>exact ⟨Nat.le_of_ble_eq_true rfl,rfl,by simp only [List.mem_cons,List.not_mem_nil,or_false];rintro e (rfl | rfl | rfl);exact (show PyData.strOk _=true by decide +kernel);exact trivial;exact trivial⟩
 | test f v=>exact ⟨Nat.le_of_ble_eq_true rfl,rfl,by simp only [List.mem_cons,List.not_mem_nil,or_false];rintro e (rfl | rfl | rfl);exact (show PyData.strOk _=true by decide +kernel);exact trivial;exact trivial⟩
theorem al_rule {m:Nat} {r:Rul} (h:RuT r):Al (m+3) (encRu r):=⟨Nat.le_of_ble_eq_true rfl,flat_ru r,by
 simp only [List.mem_cons,List.not_mem_nil,or_false]
 rintro e (rfl | rfl | rfl)
 ·exact trivial
 ·exact al_deed h.d
 ·exact trivial⟩
theorem al_house {h:Hou} (H:HT h) (S:HS h):Al 8 (encHo h):=by
 refine ⟨Nat.le_of_ble_eq_true rfl,flat_ho h,?_⟩
 simp only [List.mem_cons,List.not_mem_nil,or_false]
 rintro e (rfl | rfl | rfl | rfl)
 ·have hls:Lng h.ls:=⟨Nat.le_trans S.ls (by decide),fun c hc=>by have:=alph_lt H.ls c hc;omega⟩
  exact hls.ok
 ·exact trivial
 ·exact trivial
 ·refine al_map (Nat.le_trans S.hands (by decide)) flat_hd fun x hx=>?_
  refine ⟨Nat.le_of_ble_eq_true rfl,flat_hd x,?_⟩
  simp only [List.mem_cons,List.not_mem_nil,or_false]
  rintro e (rfl | rfl)
  ·exact trivial
  ·exact al_map (Nat.le_trans (S.rules x hx) (by decide)) flat_ru fun r hr=>al_rule ((H.hands x hx).2 r hr)
section
variable {P : Program} {w : World} {K : PySem.W.Frag} {mg : Str → Option Value} {base : Heap} {k : Nat}
abbrev sRightL:Stmt:=top 31
theorem scRightL:FnScope ["_law_house_here", "_law_text"] ["_law_house_here"] (defScope sRightL):=⟨rfl,rfl,rfl,by decide +kernel,rfl,by decide +kernel,by decide +kernel⟩
theorem d_law_right (B:Blt mg) (d_show_house:Def3 P w K mg base 2 "show_house" ["house"] (spO K (fun _=>True) 1 showHF)) (d_read_house:Def3x P w K mg base 6 "read_house" ["text"] (spX K mg (fun _=>True) 1 readHF)) (d_law_house_rows:Def3 P w K mg base 2 "_law_house_rows" ["_law_house_here"] (spO K (fun _=>True) 1 houseRowsF)) (d_law_alike:Def3 P w K mg base 9 "_law_alike" ["_law_found", "_law_due"] (spO K (fun _=>True) 2 (alkDF 8))) (T:Top3 K mg "_law_right" sRightL):Def3 P w K mg base 10 "_law_right" ["_law_house_here"] (spO K (fun _=>True) 1 rightHF):=by
 refine mk_O T scRightL (fun _ _ _ _ _ _ us hl=>len1 hl fun _=>rfl) rfl fun f cdv A outer s H E O hφ C=>⟨_,(ss_cons (s_set 1 (e_join C e_str (e_call C d_law_house_rows (fun _=>trivial) (a_cons (e_var 0) a_nil)))) (ss_one (s_ret (e_and (e_call C d_law_alike (fun _=>trivial) (a_cons (e_call C (toO d_read_house) (fun _=>trivial) (a_cons (e_var 1) a_nil)) (a_cons (e_var 0) a_nil))) (e_one (e_call C d_law_alike (fun _=>trivial) (a_cons (e_call C d_show_house (fun _=>trivial) (a_cons (e_var 0) a_nil)) (a_cons (e_var 1) a_nil)))))))),fun ds Qr hn q=>?_⟩
 obtain ⟨h,rfl,ok,hs,q⟩:=q
 have sz:=sizeLine_eq
 have lt:=lng_textH ok hs
 (repeat first | refine ⟨_,_,rfl,rfl,?_⟩ | refine ⟨_,eqI,?_⟩ | refine ⟨_,neI,?_⟩ | refine ⟨_,rfl,?_⟩ | refine ⟨rfl,?_⟩ | refine ⟨(by show _<=sizeLine;rw [sizeLine_eq];exact Nat.le_of_ble_eq_true rfl),?_⟩ | refine ⟨_,_,rfl,?_⟩ | refine ⟨_,_,_,rfl,?_⟩ | refine iteT ?_ | refine iteF ?_ | refine Or.inl ⟨rfl,?_⟩ | refine Or.inr ⟨rfl,?_⟩ | refine ⟨_,eqS_t (by decide +kernel),?_⟩ | refine ⟨_,eqS_f (by decide +kernel) (by decide +kernel),?_⟩ | refine ⟨_,inS_t (by decide +kernel),?_⟩ | refine ⟨_,inS_f (by decide +kernel),?_⟩)
 refine ⟨ok,hs,?_⟩
 rw [e_feedT]
 obtain ⟨ys,y1,y2,y3⟩:=join_ts (c:=10) (ws:=linesH h) (by have:=tot_lines ok hs;omega)
 refine ⟨ys,y1,y2,?_⟩
 rw [y3]
 (repeat first | refine ⟨_,_,rfl,rfl,?_⟩ | refine ⟨_,eqI,?_⟩ | refine ⟨_,neI,?_⟩ | refine ⟨_,rfl,?_⟩ | refine ⟨rfl,?_⟩ | refine ⟨(by show _<=sizeLine;rw [sizeLine_eq];exact Nat.le_of_ble_eq_true rfl),?_⟩ | refine ⟨_,_,rfl,?_⟩ | refine ⟨_,_,_,rfl,?_⟩ | refine iteT ?_ | refine iteF ?_ | refine Or.inl ⟨rfl,?_⟩ | refine Or.inr ⟨rfl,?_⟩ | refine ⟨_,eqS_t (by decide +kernel),?_⟩ | refine ⟨_,eqS_f (by decide +kernel) (by decide +kernel),?_⟩ | refine ⟨_,inS_t (by decide +kernel),?_⟩ | refine ⟨_,inS_f (by decide +kernel),?_⟩)
 refine ⟨lt,?_⟩
 rw [show joinL 10 (linesH h)=textH h from rfl,rows_text ok,read_rows ok]
 refine ⟨fun c ns es z=>?_,?_⟩
 ·have z:=R.o.inj z
  unfold encHo excD at z
  cases z
 (repeat first | refine ⟨_,_,rfl,rfl,?_⟩ | refine ⟨_,eqI,?_⟩ | refine ⟨_,neI,?_⟩ | refine ⟨_,rfl,?_⟩ | refine ⟨rfl,?_⟩ | refine ⟨(by show _<=sizeLine;rw [sizeLine_eq];exact Nat.le_of_ble_eq_true rfl),?_⟩ | refine ⟨_,_,rfl,?_⟩ | refine ⟨_,_,_,rfl,?_⟩ | refine iteT ?_ | refine iteF ?_ | refine Or.inl ⟨rfl,?_⟩ | refine Or.inr ⟨rfl,?_⟩ | refine ⟨_,eqS_t (by decide +kernel),?_⟩ | refine ⟨_,eqS_f (by decide +kernel) (by decide +kernel),?_⟩ | refine ⟨_,inS_t (by decide +kernel),?_⟩ | refine ⟨_,inS_f (by decide +kernel),?_⟩)
 refine ⟨al_house ok hs,?_⟩
 (repeat first | refine ⟨_,_,rfl,rfl,?_⟩ | refine ⟨_,eqI,?_⟩ | refine ⟨_,neI,?_⟩ | refine ⟨_,rfl,?_⟩ | refine ⟨rfl,?_⟩ | refine ⟨(by show _<=sizeLine;rw [sizeLine_eq];exact Nat.le_of_ble_eq_true rfl),?_⟩ | refine ⟨_,_,rfl,?_⟩ | refine ⟨_,_,_,rfl,?_⟩ | refine iteT ?_ | refine iteF ?_ | refine Or.inl ⟨rfl,?_⟩ | refine Or.inr ⟨rfl,?_⟩ | refine ⟨_,eqS_t (by decide +kernel),?_⟩ | refine ⟨_,eqS_f (by decide +kernel) (by decide +kernel),?_⟩ | refine ⟨_,inS_t (by decide +kernel),?_⟩ | refine ⟨_,inS_f (by decide +kernel),?_⟩)
 refine ⟨ok,lt,?_⟩
 (repeat first | refine ⟨_,_,rfl,rfl,?_⟩ | refine ⟨_,eqI,?_⟩ | refine ⟨_,neI,?_⟩ | refine ⟨_,rfl,?_⟩ | refine ⟨rfl,?_⟩ | refine ⟨(by show _<=sizeLine;rw [sizeLine_eq];exact Nat.le_of_ble_eq_true rfl),?_⟩ | refine ⟨_,_,rfl,?_⟩ | refine ⟨_,_,_,rfl,?_⟩ | refine iteT ?_ | refine iteF ?_ | refine Or.inl ⟨rfl,?_⟩ | refine Or.inr ⟨rfl,?_⟩ | refine ⟨_,eqS_t (by decide +kernel),?_⟩ | refine ⟨_,eqS_f (by decide +kernel) (by decide +kernel),?_⟩ | refine ⟨_,inS_t (by decide +kernel),?_⟩ | refine ⟨_,inS_f (by decide +kernel),?_⟩)
 exact ⟨lt.ok,q⟩
end
section
variable {P : Program} {w : World} {K : PySem.W.Frag} {mg : Str → Option Value} {base : Heap} {k : Nat}
abbrev sLaw:Stmt:=top 32
theorem scLaw:FnScope ["_law_script", "_law_state", "_law_some", "_law_k"] ["_law_script"] (defScope sLaw):=⟨rfl,rfl,rfl,by decide +kernel,rfl,by decide +kernel,by decide +kernel⟩
theorem law_ok (B:Blt mg) (d_law_draw:DDraw P w K mg base) (d_law_house:Def3 P w K mg base 3 "_law_house" ["_law_state", "_law_most"] (spD K IsState 1 houseGF)) (d_law_any_house:Def3 P w K mg base 3 "_law_any_house" ["_law_state"] (spD K IsState 0 anyHF)) (d_law_house_rows:Def3 P w K mg base 2 "_law_house_rows" ["_law_house_here"] (spO K (fun _=>True) 1 houseRowsF)) (d_law_right:Def3 P w K mg base 10 "_law_right" ["_law_house_here"] (spO K (fun _=>True) 1 rightHF)) {f₁:Addr} {fd₁:FuncData} (Fu:Fun K "law" "law" sLaw f₁ fd₁):FnOk P w K mg base CX0 11 f₁ fd₁ ["_law_script"] (spLaw K):=by
 refine mk_lawS (k:=10) Fu scLaw rfl (fun f cdv A outer s H E C=>?_) (fun f cdv A outer s H E C=>?_)
 ·exact ps_set (i:=1) (of_decide_eq_true (by kernel_rfl)) rfl (by first | exact Or.inl rfl | exact Or.inr rfl) (pe_lst (pa_cons (pe_callTy call_list_of rfl B.list bt_list (pa_cons (pe_var (i:=0) rfl (by first | exact Or.inl rfl | exact Or.inr (Or.inl rfl) | exact Or.inr (Or.inr rfl))) pa_nil)) (pa_cons pe_int (pa_cons pe_int (pa_cons pe_int pa_nil)))))
 ·have hO:∀ j:Addr × Addr,IsState ((fun j:Addr × Addr=>stOb j.1 j.2) j):=fun j=>stOb_is _ _
  refine ⟨_,(ss_cons (s_set 2 (e_lst a_nil)) (ss_cons (s_for C (j_new (i_r1 C B (a_cons e_int a_nil))) (g_name (h:=1000) 3) (ss_one (s_if (t_eq C (e_callO 1 C d_law_draw hO (a_cons e_int a_nil)) e_int) (ss_one (s_app 2 C (e_callO 1 C d_law_house hO (a_cons e_int a_nil)))) (ss_one (s_app 2 C (e_callO 1 C d_law_any_house hO a_nil)))))) (ss_cons (s_setC 2 1 ["_law_house_here", "_law_script", "_law_state", "_law_some", "_law_k"] C (fun _ => .of rfl (by kernel_rfl)) (i_list C (e_var 2)) (g_name 0) (f_one (t_le (e_len (C.comp _ _) B (a_cons (e_join (C.comp _ _) e_str (e_call (C.comp _ _) d_law_house_rows (fun _=>trivial) (a_cons (e_var 0) a_nil))) a_nil)) e_int)) (e_var 0)) (ss_one (s_ret (e_all C B (a_cons (e_comp 1 ["_law_house_here", "_law_script", "_law_state", "_law_some", "_law_k"] C (fun _ => .of rfl (by kernel_rfl)) (i_list C (e_add C (e_var 2) (e_slice C (e_var 2) o_none (o_some e_int)))) (g_name 0) f_nil (e_call (C.comp _ _) d_law_right (fun _=>trivial) (a_cons (e_var 0) a_nil))) a_nil))))))),?_⟩
  have sz:=sizeLine_eq
  (repeat first | refine ⟨_,_,rfl,rfl,?_⟩ | refine ⟨_,eqI,?_⟩ | refine ⟨_,neI,?_⟩ | refine ⟨_,rfl,?_⟩ | refine ⟨rfl,?_⟩ | refine ⟨(by show _<=sizeLine;rw [sizeLine_eq];exact Nat.le_of_ble_eq_true rfl),?_⟩ | refine ⟨_,_,rfl,?_⟩ | refine ⟨_,_,_,rfl,?_⟩ | refine iteT ?_ | refine iteF ?_ | refine Or.inl ⟨rfl,?_⟩ | refine Or.inr ⟨rfl,?_⟩ | refine ⟨_,eqS_t (by decide +kernel),?_⟩ | refine ⟨_,eqS_f (by decide +kernel) (by decide +kernel),?_⟩ | refine ⟨_,inS_t (by decide +kernel),?_⟩ | refine ⟨_,inS_f (by decide +kernel),?_⟩)
  refine ⟨by decide,by decide,rfl,?_⟩
  refine forGo_rev (fun j ρ=>∃ (hs:List Hou) (o0 o3:Option DV),ρ = [o0,some .ob,some (.own (hs.map encHo)),o3]/\hs.length=j/\∀ h ∈ hs,HT h/\HS h) ⟨[],_,none,rfl,rfl,fun x h=>(List.not_mem_nil h).elim⟩ (fun ρ zz=>?_) fun j d ρ N hd hN zz=>?_
  ·obtain ⟨hs,o0,o3,e,h1,h2⟩:=zz
   subst e
   rw [numsD_len] at h1
   have h1:hs.length=2:=h1
   refine ⟨_,_,rfl,rfl,_,rfl,?_⟩
   refine comp_sub (α:=Hou) (enc:=encHo) (fun h hh Pn Py hPn hPy=>?_) (by omega) fun ks hk=>?_
   ·obtain ⟨ok,hs'⟩:=h2 h hh
    (repeat first | refine ⟨_,_,rfl,rfl,?_⟩ | refine ⟨_,eqI,?_⟩ | refine ⟨_,neI,?_⟩ | refine ⟨_,rfl,?_⟩ | refine ⟨rfl,?_⟩ | refine ⟨(by show _<=sizeLine;rw [sizeLine_eq];exact Nat.le_of_ble_eq_true rfl),?_⟩ | refine ⟨_,_,rfl,?_⟩ | refine ⟨_,_,_,rfl,?_⟩ | refine iteT ?_ | refine iteF ?_ | refine Or.inl ⟨rfl,?_⟩ | refine Or.inr ⟨rfl,?_⟩ | refine ⟨_,eqS_t (by decide +kernel),?_⟩ | refine ⟨_,eqS_f (by decide +kernel) (by decide +kernel),?_⟩ | refine ⟨_,inS_t (by decide +kernel),?_⟩ | refine ⟨_,inS_f (by decide +kernel),?_⟩)
    refine ⟨ok,hs',?_⟩
    rw [e_feedT]
    obtain ⟨ys,y1,y2,y3⟩:=join_ts (c:=10) (ws:=linesH h) (by have:=tot_lines ok hs';omega)
    refine ⟨ys,y1,y2,?_⟩
    rw [y3]
    (repeat first | refine ⟨_,lng_len (lng_textH ok hs'),?_⟩ | refine ⟨lng_len (lng_textH ok hs'),?_⟩ | refine ⟨_,_,rfl,rfl,?_⟩ | refine ⟨_,eqI,?_⟩ | refine ⟨_,neI,?_⟩ | refine ⟨_,rfl,?_⟩ | refine ⟨rfl,?_⟩ | refine ⟨(by show _<=sizeLine;rw [sizeLine_eq];exact Nat.le_of_ble_eq_true rfl),?_⟩ | refine ⟨_,_,rfl,?_⟩ | refine ⟨_,_,_,rfl,?_⟩ | refine iteT ?_ | refine iteF ?_ | refine Or.inl ⟨rfl,?_⟩ | refine Or.inr ⟨rfl,?_⟩ | refine ⟨_,eqS_t (by decide +kernel),?_⟩ | refine ⟨_,eqS_f (by decide +kernel) (by decide +kernel),?_⟩ | refine ⟨_,inS_t (by decide +kernel),?_⟩ | refine ⟨_,inS_f (by decide +kernel),?_⟩)
    refine iteB (fun _=>?_) fun _=>hPn
    (repeat first | refine ⟨_,_,rfl,rfl,?_⟩ | refine ⟨_,eqI,?_⟩ | refine ⟨_,neI,?_⟩ | refine ⟨_,rfl,?_⟩ | refine ⟨rfl,?_⟩ | refine ⟨(by show _<=sizeLine;rw [sizeLine_eq];exact Nat.le_of_ble_eq_true rfl),?_⟩ | refine ⟨_,_,rfl,?_⟩ | refine ⟨_,_,_,rfl,?_⟩ | refine iteT ?_ | refine iteF ?_ | refine Or.inl ⟨rfl,?_⟩ | refine Or.inr ⟨rfl,?_⟩ | refine ⟨_,eqS_t (by decide +kernel),?_⟩ | refine ⟨_,eqS_f (by decide +kernel) (by decide +kernel),?_⟩ | refine ⟨_,inS_t (by decide +kernel),?_⟩ | refine ⟨_,inS_f (by decide +kernel),?_⟩)
    exact hPy
   have kl:ks.length<=2:=by have:=hk.length_le;omega
   have ko:∀ h ∈ ks,HT h/\HS h:=fun h hh=>h2 h (hk.subset hh)
   refine ⟨flats_map flat_ho _,?_⟩
   (repeat first | refine ⟨_,_,rfl,rfl,?_⟩ | refine ⟨_,eqI,?_⟩ | refine ⟨_,neI,?_⟩ | refine ⟨_,rfl,?_⟩ | refine ⟨rfl,?_⟩ | refine ⟨(by show _<=sizeLine;rw [sizeLine_eq];exact Nat.le_of_ble_eq_true rfl),?_⟩ | refine ⟨_,_,rfl,?_⟩ | refine ⟨_,_,_,rfl,?_⟩ | refine iteT ?_ | refine iteF ?_ | refine Or.inl ⟨rfl,?_⟩ | refine Or.inr ⟨rfl,?_⟩ | refine ⟨_,eqS_t (by decide +kernel),?_⟩ | refine ⟨_,eqS_f (by decide +kernel) (by decide +kernel),?_⟩ | refine ⟨_,inS_t (by decide +kernel),?_⟩ | refine ⟨_,inS_f (by decide +kernel),?_⟩)
   have ec:cutL (ks.map encHo) none (some 1)=(ks.take 1).map encHo:=by
    rw [show (some (1:Int))=some ((1:Nat):Int) from rfl,cut_to,<- List.map_take]
   rw [ec]
   refine ⟨_,add_lst (by rw [List.length_map,List.length_map,List.length_take];omega),_,rfl,?_⟩
   rw [<- List.map_append]
   refine comp_of (α:=Hou) (enc:=encHo) (e:=fun _ => .bool true) (fun h hh P hP=>?_) (by rw [List.length_append,List.length_take];omega) ?_
   ·have hm:h ∈ ks:=by
     rcases List.mem_append.mp hh with hh | hh
     ·exact hh
     ·exact List.mem_of_mem_take hh
    (repeat first | refine ⟨_,_,rfl,rfl,?_⟩ | refine ⟨_,eqI,?_⟩ | refine ⟨_,neI,?_⟩ | refine ⟨_,rfl,?_⟩ | refine ⟨rfl,?_⟩ | refine ⟨(by show _<=sizeLine;rw [sizeLine_eq];exact Nat.le_of_ble_eq_true rfl),?_⟩ | refine ⟨_,_,rfl,?_⟩ | refine ⟨_,_,_,rfl,?_⟩ | refine iteT ?_ | refine iteF ?_ | refine Or.inl ⟨rfl,?_⟩ | refine Or.inr ⟨rfl,?_⟩ | refine ⟨_,eqS_t (by decide +kernel),?_⟩ | refine ⟨_,eqS_f (by decide +kernel) (by decide +kernel),?_⟩ | refine ⟨_,inS_t (by decide +kernel),?_⟩ | refine ⟨_,inS_f (by decide +kernel),?_⟩)
    exact ⟨(ko h hm).1,(ko h hm).2,hP _ rfl⟩
   refine ⟨_,all_ls _ (fun _=>true),?_⟩
   rw [all_id]
   show R.o (.bool ((ks++ks.take 1).all fun _=>true))=_
   rw [List.all_eq_true.mpr fun _ _=>rfl]
  ·obtain ⟨hs,o0,o3,e,h1,h2⟩:=zz
   subst e
   obtain ⟨hj,rfl⟩:=numsD_get hd
   have fin:∀ h:Hou,HT h->HS h->∀ o3,(hs.map encHo).length<sizeLine/\N [o0,some .ob,some (.own (hs.map encHo ++ [encHo h])),o3]:=fun h ok hs' o3=>⟨by rw [List.length_map];have:j<2:=hj;omega,hN _ ⟨hs ++ [h],_,_,by rw [List.map_append];rfl,by rw [List.length_append,h1];rfl,fun x hx=>by
    rcases List.mem_append.mp hx with hx | hx
    ·exact h2 x hx
    ·rw [List.mem_singleton.mp hx];exact ⟨ok,hs'⟩⟩⟩
   refine ⟨rfl,?_⟩
   (repeat first | refine ⟨_,_,rfl,rfl,?_⟩ | refine ⟨_,eqI,?_⟩ | refine ⟨_,neI,?_⟩ | refine ⟨_,rfl,?_⟩ | refine ⟨rfl,?_⟩ | refine ⟨(by show _<=sizeLine;rw [sizeLine_eq];exact Nat.le_of_ble_eq_true rfl),?_⟩ | refine ⟨_,_,rfl,?_⟩ | refine ⟨_,_,_,rfl,?_⟩ | refine iteT ?_ | refine iteF ?_ | refine Or.inl ⟨rfl,?_⟩ | refine Or.inr ⟨rfl,?_⟩ | refine ⟨_,eqS_t (by decide +kernel),?_⟩ | refine ⟨_,eqS_f (by decide +kernel) (by decide +kernel),?_⟩ | refine ⟨_,inS_t (by decide +kernel),?_⟩ | refine ⟨_,inS_f (by decide +kernel),?_⟩)
   refine dr (by decide) (by decide) fun k hk=>?_
   (repeat first | refine ⟨_,_,rfl,rfl,?_⟩ | refine ⟨_,eqI,?_⟩ | refine ⟨_,neI,?_⟩ | refine ⟨_,rfl,?_⟩ | refine ⟨rfl,?_⟩ | refine ⟨(by show _<=sizeLine;rw [sizeLine_eq];exact Nat.le_of_ble_eq_true rfl),?_⟩ | refine ⟨_,_,rfl,?_⟩ | refine ⟨_,_,_,rfl,?_⟩ | refine iteT ?_ | refine iteF ?_ | refine Or.inl ⟨rfl,?_⟩ | refine Or.inr ⟨rfl,?_⟩ | refine ⟨_,eqS_t (by decide +kernel),?_⟩ | refine ⟨_,eqS_f (by decide +kernel) (by decide +kernel),?_⟩ | refine ⟨_,inS_t (by decide +kernel),?_⟩ | refine ⟨_,inS_f (by decide +kernel),?_⟩)
   refine iteB (fun _=>?_) fun _=>?_
   ·(repeat first | refine ⟨_,_,rfl,rfl,?_⟩ | refine ⟨_,eqI,?_⟩ | refine ⟨_,neI,?_⟩ | refine ⟨_,rfl,?_⟩ | refine ⟨rfl,?_⟩ | refine ⟨(by show _<=sizeLine;rw [sizeLine_eq];exact Nat.le_of_ble_eq_true rfl),?_⟩ | refine ⟨_,_,rfl,?_⟩ | refine ⟨_,_,_,rfl,?_⟩ | refine iteT ?_ | refine iteF ?_ | refine Or.inl ⟨rfl,?_⟩ | refine Or.inr ⟨rfl,?_⟩ | refine ⟨_,eqS_t (by decide +kernel),?_⟩ | refine ⟨_,eqS_f (by decide +kernel) (by decide +kernel),?_⟩ | refine ⟨_,inS_t (by decide +kernel),?_⟩ | refine ⟨_,inS_f (by decide +kernel),?_⟩)
    refine ⟨by decide,fun h g=>⟨flat_ho h,fin h (hou_ht g).1 (hou_ht g).2 _⟩⟩
   ·(repeat first | refine ⟨_,_,rfl,rfl,?_⟩ | refine ⟨_,eqI,?_⟩ | refine ⟨_,neI,?_⟩ | refine ⟨_,rfl,?_⟩ | refine ⟨rfl,?_⟩ | refine ⟨(by show _<=sizeLine;rw [sizeLine_eq];exact Nat.le_of_ble_eq_true rfl),?_⟩ | refine ⟨_,_,rfl,?_⟩ | refine ⟨_,_,_,rfl,?_⟩ | refine iteT ?_ | refine iteF ?_ | refine Or.inl ⟨rfl,?_⟩ | refine Or.inr ⟨rfl,?_⟩ | refine ⟨_,eqS_t (by decide +kernel),?_⟩ | refine ⟨_,eqS_f (by decide +kernel) (by decide +kernel),?_⟩ | refine ⟨_,inS_t (by decide +kernel),?_⟩ | refine ⟨_,inS_f (by decide +kernel),?_⟩)
    exact fun h ok hs'=>⟨flat_ho h,fin h ok hs' _⟩
end
end L31
namespace L31
open PySem PySem.Spec
open PyProof.Rows hiding St
open L2 L3
def DIn (K:PySem.W.Frag) (x:Str) (st:Stmt):Prop:=∃ (f:Addr) (od an:Option Addr) (sl:Array (Option Value)) (oc kV dc pm cd ct:Value),PySem.W.nsIn K mainGlobals x=some (some (.ref f))/\K.lookup f=some ⟨oc,od,.func (PySem.W.fnOf x x (defArgs st) (defBody st) (defScope st) .none kV dc pm an cd ct),sl⟩/\PySem.W.codeIn K cd x=true/\PySem.W.keepIn K (.ref f)=true
theorem din_mk {K:PySem.W.Frag} {x:Str} {st:Stmt} {f:Addr} {od an:Option Addr} {sl:Array (Option Value)} {oc kV dc pm cd ct:Value} (a:PySem.W.nsIn K mainGlobals x=some (some (.ref f))) (l:K.lookup f=some ⟨oc,od,.func (PySem.W.fnOf x x (defArgs st) (defBody st) (defScope st) .none kV dc pm an cd ct),sl⟩) (c:PySem.W.codeIn K cd x=true) (k:PySem.W.keepIn K (.ref f)=true):DIn K x st:=⟨f,od,an,sl,oc,kV,dc,pm,cd,ct,a,l,c,k⟩
theorem din_top {K:PySem.W.Frag} {x:Str} {st:Stmt} {h:Heap} {mg:Str->Option Value} (X:K.In h) (G:h.Ns mainGlobals mg) (D:DIn K x st):Top3 K mg x st:=by obtain ⟨f,_,_,_,_,_,_,_,_,_,a,l,c,k⟩:=D;exact ⟨f,_,fun_mk (st:=st) l c k,PySem.W.mg_of X G a⟩
theorem all_mk {l:PySem.W.OpenLaw} {w:World} {K:PySem.W.Frag} {h:Heap} {mg:Str->Option Value} {fa:Addr} {ea:EA} (X:K.In h) (G:h.Ns mainGlobals mg) (hfa:mg "law" = some (.ref fa))
 (D1:DIn K "is_word" sIsWord)
 (D2:DIn K "is_letter" sIsLetter)
 (D3:DIn K "is_alphabet" sIsAlphabet)
 (D4:DIn K "is_number" sIsNumber)
 (D5:DIn K "shape_of" sShapeOf)
 (D6:DIn K "value_of" sValueOf)
 (D7:DIn K "show_row" sShowRow)
 (D8:DIn K "show_house" sShowHouse)
 (D9:DIn K "is_head" sIsHead)
 (D10:DIn K "is_hand" sIsHand)
 (D11:DIn K "is_row_of_rule" sIsRowOfRule)
 (D12:DIn K "rule_of" sRuleOf)
 (D13:DIn K "read_hands" sReadHands)
 (D14:DIn K "read_house" sReadHouse)
 (D15:DIn K "_law_draw" sDraw)
 (D16:DIn K "_law_alphabet" sAlphabetL)
 (D17:DIn K "_law_deed" sDeedL)
 (D18:DIn K "_law_house" sHouseL)
 (D19:DIn K "_law_number" sNumberL)
 (D20:DIn K "_law_any_house" sAnyHouseL)
 (D21:DIn K "_law_rule_row" sRuleRowL)
 (D22:DIn K "_law_house_rows" sHouseRowsL)
 (D23:DIn K "_law_alike" sAlikeL)
 (D24:DIn K "_law_right" sRightL)
 (D25:DIn K "law" sLaw)
 (z1:PySem.W.nsIn K mainGlobals "len" = some none)
 (z2:PySem.W.nsIn K mainGlobals "all" = some none)
 (z3:PySem.W.nsIn K mainGlobals "any" = some none)
 (z4:PySem.W.nsIn K mainGlobals "sorted" = some none)
 (z5:PySem.W.nsIn K mainGlobals "min" = some none)
 (z6:PySem.W.nsIn K mainGlobals "max" = some none)
 (z7:PySem.W.nsIn K mainGlobals "repr" = some none)
 (z8:PySem.W.nsIn K mainGlobals "int" = some none)
 (z9:PySem.W.nsIn K mainGlobals "list" = some none)
 (z10:PySem.W.nsIn K mainGlobals "tuple" = some none)
 (z11:PySem.W.nsIn K mainGlobals "range" = some none)
 (z12:PySem.W.nsIn K mainGlobals "set" = some none)
 (z13:PySem.W.nsIn K mainGlobals "isinstance" = some none)
 (z14:PySem.W.nsIn K mainGlobals "enumerate" = some none)
 (z15:PySem.W.nsIn K mainGlobals "zip" = some none)
 (z16:PySem.W.nsIn K mainGlobals "reversed" = some none)
 (z17:PySem.W.nsIn K mainGlobals "str" = some none)
 (z18:PySem.W.nsIn K mainGlobals "sum" = some none)
 (z19:PySem.W.nsIn K mainGlobals "dict" = some none)
 (z20:PySem.W.nsIn K mainGlobals "bool" = some none)
 (GIHEADS:TupIn K "HEADS" ["letters", "lines", "flags"])
 (GISHAPES:DctIn K w "SHAPES" [("go", "0"),("send", "0a0"),("take", "0a0"),("empty", "00"),("set", "000"),("if", "000")])
 (XE:ErrInS K ea) (rNoText:RNoTextS K ea)
 : ∃ fd:FuncData,(∀ (s:Shared) (v:Value),BindsTo s fd ⟨[v],[]⟩ [("_law_script", v)])/\∀ base:Heap,K.In base->base.Ns mainGlobals mg->FnOk l.prog w K mg base CX0 11 fa fd ["_law_script"] (spLaw K):=by
 have T1:=din_top X G D1
 have T2:=din_top X G D2
 have T3:=din_top X G D3
 have T4:=din_top X G D4
 have T5:=din_top X G D5
 have T6:=din_top X G D6
 have T7:=din_top X G D7
 have T8:=din_top X G D8
 have T9:=din_top X G D9
 have T10:=din_top X G D10
 have T11:=din_top X G D11
 have T12:=din_top X G D12
 have T13:=din_top X G D13
 have T14:=din_top X G D14
 have T15:=din_top X G D15
 have T16:=din_top X G D16
 have T17:=din_top X G D17
 have T18:=din_top X G D18
 have T19:=din_top X G D19
 have T20:=din_top X G D20
 have T21:=din_top X G D21
 have T22:=din_top X G D22
 have T23:=din_top X G D23
 have T24:=din_top X G D24
 have T25:=din_top X G D25
 have B:Blt mg:=⟨PySem.W.mg_none_of X G z1,PySem.W.mg_none_of X G z2,PySem.W.mg_none_of X G z3,PySem.W.mg_none_of X G z4,PySem.W.mg_none_of X G z5,PySem.W.mg_none_of X G z6,PySem.W.mg_none_of X G z7,PySem.W.mg_none_of X G z8,PySem.W.mg_none_of X G z9,PySem.W.mg_none_of X G z10,PySem.W.mg_none_of X G z11,PySem.W.mg_none_of X G z12,PySem.W.mg_none_of X G z13,PySem.W.mg_none_of X G z14,PySem.W.mg_none_of X G z15,PySem.W.mg_none_of X G z16,PySem.W.mg_none_of X G z17,PySem.W.mg_none_of X G z18,PySem.W.mg_none_of X G z19,PySem.W.mg_none_of X G z20⟩
 have EC:=XE.errS X G
 have gHEADS:=GIHEADS.glo X G
 have gSHAPES:=GISHAPES.glo X G
 obtain ⟨f25,od25,an25,sl25,oc25,kV25,dc25,pm25,cd25,ct25,a25,l25,c25,k25⟩:=D25
 have e:=hfa.symm.trans (PySem.W.mg_of X G a25)
 cases e
 refine ⟨PySem.W.fnOf "law" "law" (defArgs sLaw) (defBody sLaw) (defScope sLaw) .none kV25 dc25 pm25 an25 cd25 ct25,fun s v => .of_eq rfl,fun base _ _=>?_⟩
 have e1:=d_is_word (P:=l.prog) (w:=w) (base:=base) B T1
 have e2:=d_is_letter B e1 T2
 have e3:=d_is_alphabet B e1 T3
 have e4:=d_is_number (P:=l.prog) (w:=w) (base:=base) B T4
 have e5:=d_shape_of B e2 e4 T5
 have e6:=d_value_of B e4 T6
 have e7:=d_show_row (P:=l.prog) (w:=w) (base:=base) B T7
 have e8:=d_show_house B gHEADS e7 T8
 have e9:=d_is_head B gHEADS e3 e4 T9
 have e10:=d_is_hand B e4 T10
 have e11:=d_is_row_of_rule B gSHAPES e4 e5 T11
 have e12:=d_rule_of B e6 T12
 have e13:=d_read_hands B EC rNoText gHEADS e10 e11 e12 T13
 have e14:=d_read_house B EC rNoText gHEADS e9 e13 T14
 have e15:=d_law_draw (P:=l.prog) (w:=w) (base:=base) B T15
 have e16:=d_law_alphabet B e15 T16
 have e17:=d_law_deed B e15 T17
 have e18:=d_law_house B e15 e16 e17 T18
 have e19:=d_law_number B e15 T19
 have e20:=d_law_any_house B e15 e16 e19 T20
 have e21:=d_law_rule_row (P:=l.prog) (w:=w) (base:=base) B T21
 have e22:=d_law_house_rows B e21 T22
 have e23:=d_law_alike (P:=l.prog) (w:=w) (base:=base) B T23
 have e24:=d_law_right B e8 e14 e22 e23 T24
 exact law_ok B e15 e18 e20 e22 e24 (fun_mk (st:=sLaw) l25 c25 k25)
theorem walk {l:PySem.W.OpenLaw} {q:Program} {loose:List Str} {XP:(Str->Option Value)->Heap->Prop} {YP:World->Heap->Prop} {d:DefRec} {K:Params->PySem.W.Frag} (hn:l.most=some 63) (hdf:d.params.defaults = [])
 (hY:∀ (w:World) (h:Heap),YP w h->(K w.params).In h)
 (F:∀ (w:World) (mg:Str->Option Value) (fa:Addr) (h:Heap),(K w.params).In h->h.Ns mainGlobals mg->mg d.name=some (.ref fa) ->
  ∃ fd:FuncData,(∀ (s:Shared) (u:Value),BindsTo s fd ⟨[u],[]⟩ [("_law_script", u)])/\∀ base:Heap,(K w.params).In base->base.Ns mainGlobals mg->FnOk l.prog w (K w.params) mg base CX0 11 fa fd ["_law_script"] (spLaw (K w.params))) :
 PySem.W.WalkO q loose XP YP l.row.toRowW d [] (fun f vs=>PySem.call f vs) :=
 L2.walk_of (n:=63) (k:=11) (x := "_law_script") (CX:=fun _=>CX0) (sp:=fun w=>spLaw (K w.params)) hn (by decide) hdf ⟨rfl,by decide,by decide,rfl⟩ hY F (fun _ _ a ns hl _ hS=>⟨a,ns,rfl,hS,hl,fun _=>rfl⟩) fun _ _ _ _ _ z=>z
end L31
open PySem PySem.W PyProof.Rows
set_option maxRecDepth 100000 in
set_option maxHeartbeats 0 in
theorem PySem.Challenge.cw_lostpost_k31_houses_as_texts_holds : PySem.Challenge.rw_lostpost_k31_houses_as_texts.Holds := by
 w_on;o_law;k_head; (case hw=>w_witness2)
 k_fill
 refine L31.walk (l:=PySem.Challenge.rw_lostpost_k31_houses_as_texts) rfl rfl (fun w h Y=>PySem.W.kIn_of Y) ?F
 case F =>
  intro w mg fa h KX G hmg
  refine' L31.all_mk KX G hmg (L31.din_mk ?a1 ?l1 ?c1 ?k1) (L31.din_mk ?a2 ?l2 ?c2 ?k2) (L31.din_mk ?a3 ?l3 ?c3 ?k3) (L31.din_mk ?a4 ?l4 ?c4 ?k4) (L31.din_mk ?a5 ?l5 ?c5 ?k5) (L31.din_mk ?a6 ?l6 ?c6 ?k6) (L31.din_mk ?a7 ?l7 ?c7 ?k7) (L31.din_mk ?a8 ?l8 ?c8 ?k8) (L31.din_mk ?a9 ?l9 ?c9 ?k9) (L31.din_mk ?a10 ?l10 ?c10 ?k10) (L31.din_mk ?a11 ?l11 ?c11 ?k11) (L31.din_mk ?a12 ?l12 ?c12 ?k12) (L31.din_mk ?a13 ?l13 ?c13 ?k13) (L31.din_mk ?a14 ?l14 ?c14 ?k14) (L31.din_mk ?a15 ?l15 ?c15 ?k15) (L31.din_mk ?a16 ?l16 ?c16 ?k16) (L31.din_mk ?a17 ?l17 ?c17 ?k17) (L31.din_mk ?a18 ?l18 ?c18 ?k18) (L31.din_mk ?a19 ?l19 ?c19 ?k19) (L31.din_mk ?a20 ?l20 ?c20 ?k20) (L31.din_mk ?a21 ?l21 ?c21 ?k21) (L31.din_mk ?a22 ?l22 ?c22 ?k22) (L31.din_mk ?a23 ?l23 ?c23 ?k23) (L31.din_mk ?a24 ?l24 ?c24 ?k24) (L31.din_mk ?a25 ?l25 ?c25 ?k25) ?z1 ?z2 ?z3 ?z4 ?z5 ?z6 ?z7 ?z8 ?z9 ?z10 ?z11 ?z12 ?z13 ?z14 ?z15 ?z16 ?z17 ?z18 ?z19 ?z20 (L3.tupIn_mk ?gHEADSa ?gHEADSb ?gHEADSc ?gHEADSd) (L3.dctIn_mk ?gSHAPESa ?gSHAPESb ?gSHAPESc ?gSHAPESd ?gSHAPESe) (L3.errInS_mk ?xeS0 ?xeS) (L3.raise1_mk ?xNoTexth1 ?xNoTexth2 ?xNoTexth3 ?xNoTexth4 ?xNoTexth5 ?xNoTexth6 ?xNoTexth7 ?xNoTexth8 ?xNoTexth9 ?xNoTexth10 ?xNoTexth11 ?xNoTexth12 ?xNoTexth13 ?xNoTexth14 ?xNoTexth15 ?xNoTexth16 ?xNoTexth17 ?xNoTexth18 ?xNoTexth19 ?xNoTexth20 L3.no_nil (L3.init1_mk ?xNoTexti1 ?xNoTexti2 ?xNoTexti3 ?xNoTexti4 ?xNoTexti5 ?xNoTexti6))
  (case a1=>k_is); (case l1=>k_is); (case c1=>k_is); (case k1=>k_is)
  (case a2=>k_is); (case l2=>k_is); (case c2=>k_is); (case k2=>k_is)
  (case a3=>k_is); (case l3=>k_is); (case c3=>k_is); (case k3=>k_is)
  (case a4=>k_is); (case l4=>k_is); (case c4=>k_is); (case k4=>k_is)
  (case a5=>k_is); (case l5=>k_is); (case c5=>k_is); (case k5=>k_is)
  (case a6=>k_is); (case l6=>k_is); (case c6=>k_is); (case k6=>k_is)
  (case a7=>k_is); (case l7=>k_is); (case c7=>k_is); (case k7=>k_is)
  (case a8=>k_is); (case l8=>k_is); (case c8=>k_is); (case k8=>k_is)
  (case a9=>k_is); (case l9=>k_is); (case c9=>k_is); (case k9=>k_is)
  (case a10=>k_is); (case l10=>k_is); (case c10=>k_is); (case k10=>k_is)
  (case a11=>k_is); (case l11=>k_is); (case c11=>k_is); (case k11=>k_is)
  (case a12=>k_is); (case l12=>k_is); (case c12=>k_is); (case k12=>k_is)
  (case a13=>k_is); (case l13=>k_is); (case c13=>k_is); (case k13=>k_is)
  (case a14=>k_is); (case l14=>k_is); (case c14=>k_is); (case k14=>k_is)
  (case a15=>k_is); (case l15=>k_is); (case c15=>k_is); (case k15=>k_is)
  (case a16=>k_is); (case l16=>k_is); (case c16=>k_is); (case k16=>k_is)
  (case a17=>k_is); (case l17=>k_is); (case c17=>k_is); (case k17=>k_is)
  (case a18=>k_is); (case l18=>k_is); (case c18=>k_is); (case k18=>k_is)
  (case a19=>k_is); (case l19=>k_is); (case c19=>k_is); (case k19=>k_is)
  (case a20=>k_is); (case l20=>k_is); (case c20=>k_is); (case k20=>k_is)
  (case a21=>k_is); (case l21=>k_is); (case c21=>k_is); (case k21=>k_is)
  (case a22=>k_is); (case l22=>k_is); (case c22=>k_is); (case k22=>k_is)
  (case a23=>k_is); (case l23=>k_is); (case c23=>k_is); (case k23=>k_is)
  (case a24=>k_is); (case l24=>k_is); (case c24=>k_is); (case k24=>k_is)
  (case a25=>k_is); (case l25=>k_is); (case c25=>k_is); (case k25=>k_is)
  (case z1=>k_is)
  (case z2=>k_is)
  (case z3=>k_is)
  (case z4=>k_is)
  (case z5=>k_is)
  (case z6=>k_is)
  (case z7=>k_is)
  (case z8=>k_is)
  (case z9=>k_is)
  (case z10=>k_is)
  (case z11=>k_is)
  (case z12=>k_is)
  (case z13=>k_is)
  (case z14=>k_is)
  (case z15=>k_is)
  (case z16=>k_is)
  (case z17=>k_is)
  (case z18=>k_is)
  (case z19=>k_is)
  (case z20=>k_is)
  (case gHEADSa=>k_is); (case gHEADSb=>k_is); (case gHEADSc=>decide +kernel); (case gHEADSd=>exact ⟨⟨_,rfl⟩,⟨_,rfl⟩,⟨_,rfl⟩,trivial⟩)
  (case gSHAPESa=>k_is); (case gSHAPESb=>k_is); (case gSHAPESc=>decide +kernel); (case gSHAPESd=>exact ⟨⟨rfl,⟨_,rfl⟩,⟨_,rfl⟩⟩,⟨rfl,⟨_,rfl⟩,⟨_,rfl⟩⟩,⟨rfl,⟨_,rfl⟩,⟨_,rfl⟩⟩,⟨rfl,⟨_,rfl⟩,⟨_,rfl⟩⟩,⟨rfl,⟨_,rfl⟩,⟨_,rfl⟩⟩,⟨rfl,⟨_,rfl⟩,⟨_,rfl⟩⟩,trivial⟩); (case gSHAPESe=>decide +kernel)
  (case xeS0=>k_is); (case xeS=>k_is)
  (case xNoTexth1=>k_is)
  (case xNoTexth2=>k_is)
  (case xNoTexth3=>k_is)
  (case xNoTexth4=>k_is)
  (case xNoTexth5=>k_is)
  (case xNoTexth6=>k_is)
  (case xNoTexth7=>k_is)
  (case xNoTexth8=>k_is)
  (case xNoTexth9=>k_is)
  (case xNoTexth10=>k_is)
  (case xNoTexth11=>k_is)
  (case xNoTexth12=>k_is)
  (case xNoTexth13=>k_is)
  (case xNoTexth14=>k_is)
  (case xNoTexth15=>exact L3.strKeys_of (by kernel_rfl))
  (case xNoTexth16=>kernel_rfl)
  (case xNoTexth17=>k_is)
  (case xNoTexth18=>k_is)
  (case xNoTexth19=>k_is)
  (case xNoTexth20=>k_is)
  (case xNoTexti1=>k_is); (case xNoTexti2=>k_is); (case xNoTexti3=>exact ⟨rfl,rfl,rfl,by decide +kernel,rfl,by decide +kernel,by decide +kernel⟩); (case xNoTexti4=>exact ⟨Or.inl rfl,Or.inl rfl⟩); (case xNoTexti5=>decide +kernel); (case xNoTexti6=>exact fun us hl=>L3.len2 hl fun _ _=>rfl)

